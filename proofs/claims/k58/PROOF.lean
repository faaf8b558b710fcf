import PyProof.Rows.All
import Wide.All
import OpenK.AllK
import Wide.FinOn
import HandS.ForMost
import HandS.Codes
import HandS.Steps
import HandS.IsInst
import HandS.Property
import HandS.Wide
import HandS.WideBits
import HandS.Exc
import HandS.Defaults
import HandS.ExcOwn
import HandS.TryOnly
import HandS.WordsExc
import HandS.ExcIs
import HandS.MakeKwOnly
import HandS.RaiseMore
import HandS.Style
import HandS.Zip
import HandS.Iter
import HandS.Walk
import HandS.More
import HandS.SortInts
import HandS.Head0
import HandS.Head1
import HandS.Head2
import HandS.HeadEnd
import HandS.HeadHook1
import HandS.HeadHook2
import HandS.HeadHook3
import HandS.HeadNt
import KE.KStateDown
import PySem.Challenge.RW_thaumatrope_k58_whole_pictures_offset
set_option Elab.async false
set_option linter.all false
set_option maxRecDepth 100000
set_option maxHeartbeats 8000000
namespace Vx
open PySem PySem.Spec PyProof.Rows L2

/-! ### heaps -/
def SameX (m : Addr) (H H' : Hp) : Prop := ∀ b o, H b = some o → b ≠ m → H' b = some o
theorem gen_new {H H' : Hp} {p : Addr} {o : HO} (n : H p = none) (h : upd H p o = H') : Same H H' ∧ H' p = some o := by
  subst h
  exact ⟨fun b u e => by rw [upd_ne (ne_of_none e n)]; exact e, upd_same⟩
theorem gen_mut {H H' : Hp} {m : Addr} {o : HO} (h : upd H m o = H') : SameX m H H' ∧ H' m = some o := by
  subst h
  exact ⟨fun b u e n => by rw [upd_ne n]; exact e, upd_same⟩
theorem same_mut {H0 H H' : Hp} {m : Addr} (B : Same H0 H) (x : SameX m H H') (f : H0 m = none) : Same H0 H' :=
  fun b o e => x b o (B b o e) (ne_of_none e f)
theorem map_get {xs : List Int} {i : Nat} {x : V} (h : (xs.map V.int)[i]? = some x) : ∃ o, xs[i]? = some o ∧ x = .int o := by
  rw [List.getElem?_map] at h
  cases e : xs[i]? with
  | none => rw [e] at h; cases h
  | some z => rw [e] at h; exact ⟨z, rfl, (Option.some.inj h).symm⟩
theorem get_len {α : Type} {xs : List α} {i : Nat} {x : α} (h : xs[i]? = some x) : i < xs.length := (List.getElem?_eq_some_iff.mp h).1
theorem eq_int {Q : VK} {H : Hp} {a b : Int} (h : Q (.int a) H) (e : a = b) : Q (.int b) H := e ▸ h
theorem eq_bl {Q : VK} {H : Hp} {a b : Bool} (h : Q (.bl a) H) (e : a = b) : Q (.bl b) H := e ▸ h
theorem small {n : Nat} (h : n ≤ 1000000) : n < sizeLine := Nat.lt_of_le_of_lt h (by decide)
theorem smallE {n : Nat} (h : n ≤ 1000000) : n ≤ sizeLine := Nat.le_of_lt (small h)
theorem snoc_int {xs : List Int} {y : Int} {H : Hp} {p : Addr} (h : H p = some (.lst (xs.map V.int ++ [V.int y]))) : H p = some (.lst ((xs ++ [y]).map V.int)) := by
  rw [List.map_append]; exact h
theorem cat_int {xs ys : List Int} {H : Hp} {p : Addr} (h : H p = some (.lst (xs.map V.int ++ ys.map V.int))) : H p = some (.lst ((xs ++ ys).map V.int)) := by
  rw [List.map_append]; exact h
theorem cast_lst {xs ys : List Int} {H : Hp} {p : Addr} (h : H p = some (.lst (xs.map V.int))) (e : xs = ys) : H p = some (.lst (ys.map V.int)) := e ▸ h

/-! ### tests -/
theorem dT {p : Prop} [Decidable p] (h : decide p = true) : p := of_decide_eq_true h
theorem dF {p : Prop} [Decidable p] (h : ¬ decide p = true) : ¬ p := fun x => h (decide_eq_true x)
theorem iteD {p A B : Prop} [Decidable p] (h1 : p → A) (h2 : ¬ p → B) : if decide p = true then A else B := by
  by_cases h : p
  · rw [if_pos (decide_eq_true h)]; exact h1 h
  · rw [if_neg (fun x => h (of_decide_eq_true x))]; exact h2 h
theorem iteN {p A B : Prop} [Decidable p] (h1 : ¬ p → A) (h2 : p → B) : if (!decide p) = true then A else B := by
  by_cases h : p
  · rw [decide_eq_true h]; exact iteF (h2 h)
  · rw [decide_eq_false h]; exact iteT (h1 h)
theorem iteB {b : Bool} {A B : Prop} (h1 : b = true → A) (h2 : b = false → B) : if b = true then A else B := by
  cases b with
  | true => exact iteT (h1 rfl)
  | false => exact iteF (h2 rfl)
theorem iteBN {b : Bool} {A B : Prop} (h1 : b = false → A) (h2 : b = true → B) : if (!b) = true then A else B := by
  cases b with
  | true => exact iteF (h2 rfl)
  | false => exact iteT (h1 rfl)
theorem iteDT {p A B : Prop} [Decidable p] (h : p) (k : A) : if decide p = true then A else B := by
  rw [if_pos (decide_eq_true h)]; exact k
theorem iteDF {p A B : Prop} [Decidable p] (h : ¬ p) (k : B) : if decide p = true then A else B := by
  rw [if_neg (fun x => h (of_decide_eq_true x))]; exact k
theorem iteNT {p A B : Prop} [Decidable p] (h : ¬ p) (k : A) : if (!decide p) = true then A else B := iteN (fun _ => k) (fun x => (h x).elim)
theorem iteNF {p A B : Prop} [Decidable p] (h : p) (k : B) : if (!decide p) = true then A else B := iteN (fun x => (x h).elim) (fun _ => k)

/-! ### equality of lists of ints -/
theorem eqvAll_ints : ∀ xs ys : List Int, PyData.eqvAll (xs.map PyData.int) (ys.map PyData.int) = decide (xs = ys)
  | [], [] => by simp [PyData.eqvAll]
  | [], y :: ys => by simp [PyData.eqvAll]
  | x :: xs, [] => by simp [PyData.eqvAll]
  | x :: xs, y :: ys => by
    have ih := eqvAll_ints xs ys
    simp only [List.map_cons, PyData.eqvAll, PyData.eqv, ih]
    by_cases h : x = y <;> by_cases h2 : xs = ys <;> simp [h, h2]
end Vx

namespace Vx
open PySem PySem.Spec PyProof.Rows L2
section
variable {X : Cx}
def rEqLi (K : PySem.W.Frag) : R2 := fun x y H Q => ∃ (a b : Addr) (xs ys : List Int), x = .ref a ∧ y = .ref b ∧ SqL K H a (xs.map V.int) ∧ SqL K H b (ys.map V.int) ∧ Q (.bl (decide (xs = ys))) H
def rNeLi (K : PySem.W.Frag) : R2 := fun x y H Q => ∃ (a b : Addr) (xs ys : List Int), x = .ref a ∧ y = .ref b ∧ SqL K H a (xs.map V.int) ∧ SqL K H b (ys.map V.int) ∧ Q (.bl (!decide (xs = ys))) H
theorem dpAll_ints {K : PySem.W.Frag} {H : Hp} : ∀ xs : List Int, DpAll K H (xs.map V.int) (xs.map PyData.int)
  | [] => .nil
  | x :: xs => .cons (.int x) (dpAll_ints xs)
theorem dp_ints {K : PySem.W.Frag} {H : Hp} {a : Addr} {xs : List Int} (h : SqL K H a (xs.map V.int)) : Dp K H (.ref a) (.list (xs.map PyData.int)) := .lst h (dpAll_ints xs)
theorem canLay_ints : ∀ xs : List Int, PyData.canLayAll0 (xs.map PyData.int) = true
  | [] => by simp [PyData.canLayAll0]
  | x :: xs => by simp [PyData.canLayAll0, PyData.canLay0, canLay_ints xs]
theorem depth_ints : ∀ xs : List Int, PyData.depthAll (xs.map PyData.int) = 0
  | [] => by simp [PyData.depthAll]
  | x :: xs => by simp [PyData.depthAll, PyData.depth, depth_ints xs]
theorem shaped_ints (xs : List Int) : SeqAt.shaped (.list (xs.map PyData.int)) = true := by
  unfold SeqAt.shaped
  simp [PyData.canLay0, canLay_ints, PyData.depth, depth_ints]
theorem eqv_ints (xs ys : List Int) : PyData.eqv (.list (xs.map PyData.int)) (.list (ys.map PyData.int)) = decide (xs = ys) := by
  simp only [PyData.eqv]
  exact eqvAll_ints xs ys
theorem op_eqLi (hu : X.A.units + 64 < cLine) : OpR X (compareOp .Eq) (rEqLi X.K) := by
  intro pins s σ H x y v u Q I rx ry h
  obtain ⟨a, b, xs, ys, rfl, rfl, h1, h2, q⟩ := h
  exact op_eqD hu pins s σ H _ _ v u Q I rx ry ⟨_, _, dp_ints h1, dp_ints h2, shaped_ints xs, shaped_ints ys, by rw [eqv_ints]; exact q⟩
theorem op_neLi (hu : X.A.units + 64 < cLine) : OpR X (compareOp .NotEq) (rNeLi X.K) := by
  intro pins s σ H x y v u Q I rx ry h
  obtain ⟨a, b, xs, ys, rfl, rfl, h1, h2, q⟩ := h
  exact op_neD hu pins s σ H _ _ v u Q I rx ry ⟨_, _, dp_ints h1, dp_ints h2, shaped_ints xs, shaped_ints ys, by rw [eqv_ints]; exact q⟩

/-! ### items, slices, repetition, comprehensions of ints -/
def itI (xs : List Int) (i : Int) : Int := (atI xs i).getD 0
theorem atI_int {xs : List Int} {i : Int} (h : -(xs.length : Int) ≤ i ∧ i < xs.length) : atI (xs.map V.int) i = some (.int (itI xs i)) := by
  unfold itI atI
  rw [List.length_map]
  have hk : ∃ j, ixN xs.length i = some j ∧ j < xs.length := by
    unfold ixN
    by_cases h0 : 0 ≤ i
    · refine ⟨i.toNat, ?_, by omega⟩
      rw [if_pos h0, if_pos h.2]
    · refine ⟨(i + xs.length).toNat, ?_, by omega⟩
      rw [if_neg h0, if_pos h.1]
  obtain ⟨j, e, hj⟩ := hk
  rw [e]
  show (xs.map V.int)[j]? = some (V.int ((xs[j]?).getD 0))
  rw [List.getElem?_map, List.getElem?_eq_getElem hj] <;> rfl
def cutI (xs : List Int) (lo hi : Option Int) : List Int := (xs.drop (HT.sIx xs.length 0 lo)).take (HT.sIx xs.length xs.length hi - HT.sIx xs.length 0 lo)
theorem cut_int {xs : List Int} {lo hi : Option Int} {H : Hp} {p : Addr} (h : H p = some (.lst (cutV (xs.map V.int) lo hi))) : H p = some (.lst ((cutI xs lo hi).map V.int)) := by
  rw [h]
  unfold cutV cutI
  rw [List.length_map, List.map_take, List.map_drop]
def rep (xs : List Int) (k : Int) : List Int := (List.replicate k.toNat xs).flatten
theorem rep_int {xs : List Int} {k : Int} {H : Hp} {p : Addr} (h : H p = some (.lst (List.replicate k.toNat (xs.map V.int)).flatten)) : H p = some (.lst ((rep xs k).map V.int)) := by
  rw [h]
  unfold rep
  rw [List.map_flatten, List.map_replicate]
theorem divW_lit {i j : Int} (h : 0 < j) (h2 : j.natAbs.log2 < 9000) : CDivW i j := ⟨h, h2⟩
theorem divW_small {i j : Int} (h : 0 < j) (h2 : j < 2 ^ 128) : CDivW i j := wide_div h (show j.natAbs < 2 ^ 128 by omega) (by decide) (by decide)
theorem comp_list {xs : List Int} {i : Nat} {x y : Int} {f : Int → Int} {H : Hp} {D : Addr} (hi : xs[i]? = some x) (h : H D = some (.lst (((xs.take i).map f).map V.int ++ [V.int y]))) (e : f x = y) : H D = some (.lst (((xs.take (i + 1)).map f).map V.int)) := by
  rw [h, ← e, List.take_succ, hi, List.map_append, List.map_append] <;> rfl
theorem comp_done {xs : List Int} {f : Int → Int} {H : Hp} {D : Addr} (h : H D = some (.lst (((xs.take (xs.map V.int).length).map f).map V.int))) : H D = some (.lst ((xs.map f).map V.int)) := by
  rw [List.length_map, List.take_length] at h
  exact h
theorem comp_range {i : Nat} {y : Int} {f : Nat → Int} {H : Hp} {D : Addr} (h : H D = some (.lst (((List.range i).map f).map V.int ++ [V.int y]))) (e : f i = y) : H D = some (.lst (((List.range (i + 1)).map f).map V.int)) := by
  rw [h, ← e, List.range_succ, List.map_append, List.map_append] <;> rfl
theorem iteBT {b : Bool} {A B : Prop} (h : b = true) (k : A) : if b = true then A else B := by rw [if_pos h]; exact k
theorem iteBF {b : Bool} {A B : Prop} (h : b = false) (k : B) : if b = true then A else B := by rw [if_neg (by rw [h]; decide)]; exact k
theorem take_succ_get {α : Type} {xs : List α} {i : Nat} {x : α} (hi : xs[i]? = some x) : xs.take (i + 1) = xs.take i ++ [x] := by rw [List.take_succ, hi] <;> rfl
end

/-! ### defs of the module, as callers see them -/
section
variable {P : Program} {w : World} {K : PySem.W.Frag} {mg : Str → Option Value} {base : Heap}
structure DefIn (K : PySem.W.Frag) (mg : Str → Option Value) (x : Str) (st : Stmt) (ps : List Str) : Prop where
  ex : ∃ (f : Addr) (fd : FuncData), Fun K x x st f fd ∧ mg x = some (.ref f) ∧ Binds K fd ps []
structure Cal (P : Program) (w : World) (K : PySem.W.Frag) (mg : Str → Option Value) (base : Heap) (k : Nat) (x : Str) (sp : Sp) : Prop where
  ex : ∃ (f : Addr) (fd : FuncData) (ps : List Str), FnOk P w K mg base CX0 k f fd ps sp ∧ mg x = some (.ref f) ∧ PySem.W.keepIn K (.ref f) = true ∧ Binds K fd ps []
theorem DefIn.ok {x : Str} {st : Stmt} {N ps : List Str} {k : Nat} {sp : Sp} (D : DefIn K mg x st ps) (S : FnScope N ps (defScope st)) (len : ∀ vs H Q E, sp vs H Q E → vs.length = ps.length)
    (hbody : ∀ (f : Addr) (cdv : Value) (A : Around) (outer : List Env) (s : Shared) (H : Hp) (vs : List V) (Q : VK) (E : XK), Room k (A.deeper (envOfC x (defScope st) s.heap.objs.size f cdv)) → sp vs H Q E →
      ∃ t, PSs (cxOf CX0 P w K mg base N x (defScope st) f cdv A outer s H E).nox (defBody st) t ∧ t { nx := fun _ H' => Q .non H', rt := Q } (start N vs) H) : Cal P w K mg base (k + 1) x sp := by
  obtain ⟨f, fd, F, hm, b⟩ := D.ex
  exact ⟨f, fd, ps, F.ok S len (fun cdv A outer s H vs Q E hr h => hbody f cdv A outer s H vs Q E hr h), hm, F.kp, b⟩
end
section
variable {X : Cx} {k j : Nat} {x : Str} {sp : Sp} {p pos : Pos} {e : Expr} {es : List Expr} {t : TA}
theorem vx_call (c : Cal X.prog X.w X.K X.mg X.base k x sp) (hr : Room j X.A) (hk : k ≤ j) (hg : Gl X x) (ha : PA X (e :: es) t)
    (hdb : (x == ("__debug__" : Str)) = false := by decide) (he : starEach (e :: es) X.env = (false, eval e X.env) :: starEach es X.env := by rfl) (hpl : (backTo pos (starEach es X.env)).any (·.1) = false := by rfl) :
    PE X (.Call (.Name x p) (e :: es) [] pos) (tCall sp [] E0 t) := by
  obtain ⟨f, fd, ps, F, hm, kp, b⟩ := c.ex
  exact pe_call F (hr.mono hk) hg hm kp b .nil pass0 ha hdb he hpl
end
end Vx

namespace Vx
open PySem PySem.Spec PyProof.Rows L2
section
variable {σ : L2.St} {H : Hp} {ta tb : TE} {x y z : V} {t : TT}
theorem vv_and {a b : Bool} (h1 : Val ta σ H (.bl a)) (h2 : Val tb σ H (.bl b)) : Val (tAndV ta tb) σ H (.bl (a && b)) := fun Q q => h1 _ ⟨a, rfl, by
  cases a with
  | true => exact iteT (h2 Q q)
  | false => exact iteF q⟩
theorem vv_or {a b : Bool} (h1 : Val ta σ H (.bl a)) (h2 : Val tb σ H (.bl b)) : Val (tOrV ta tb) σ H (.bl (a || b)) := fun Q q => h1 _ ⟨a, rfl, by
  cases a with
  | true => exact iteT q
  | false => exact iteF (h2 Q q)⟩
theorem vv_not {a : Bool} (h1 : Val ta σ H (.bl a)) : Val (tNotV ta) σ H (.bl (!a)) := fun Q q => h1 _ ⟨a, rfl, q⟩
theorem vv_un {r : V → Hp → VK → Prop} (ha : Val ta σ H x) (hr : ∀ Q : VK, Q z H → r x H Q) : Val (tUn r ta) σ H z := fun Q q => ha _ (hr Q q)
theorem vv_cmp {p : Int → Int → Bool} (ha : Val ta σ H x) (hb : Val tb σ H y) (hr : ∀ Q : VK, Q z H → ∃ i j, x = .int i ∧ y = .int j ∧ Q (.bl (p i j)) H) : Val (tCmp p ta tb) σ H z := fun Q q => ha _ (hb _ (hr Q q))
theorem vv_call1 {r : List V → Hp → VK → Prop} (ha : Val ta σ H x) (hr : ∀ Q : VK, Q z H → r [x] H Q) : Val (tCB r (tCons ta tNil)) σ H z := fun Q q => ha _ (hr Q q)
theorem vt_cmp {b : Bool} (h : Val ta σ H (.bl b)) : Ans (tB ta) σ H b := fun Q q => h _ ⟨b, rfl, q⟩
theorem vt_val {b : Bool} (h : Val ta σ H (.bl b)) : Ans (tB ta) σ H b := fun Q q => h _ ⟨b, rfl, q⟩
theorem vt_int {i : Int} {K : PySem.W.Frag} (h : Val ta σ H (.int i)) : Ans (fun σ H Q => ta σ H fun x H' => ∃ k, TruV K x H' k ∧ Q k H') σ H (i != 0) := fun Q q => h _ ⟨_, rfl, q⟩
theorem vv_if {p : Prop} [Decidable p] {a b : Int} (ht : Ans t σ H (decide p)) (hx : Val ta σ H (.int a)) (hy : Val tb σ H (.int b)) : Val (tIf t ta tb) σ H (.int (if p then a else b)) := fun Q q => ht _ (by
  by_cases h : p
  · rw [if_pos h] at q; exact iteDT h (hx Q q)
  · rw [if_neg h] at q; exact iteDF h (hy Q q))
theorem vv_ifb {c : Bool} {a b : Int} (ht : Ans t σ H c) (hx : Val ta σ H (.int a)) (hy : Val tb σ H (.int b)) : Val (tIf t ta tb) σ H (.int (if c = true then a else b)) := fun Q q => ht _ (by
  cases c with
  | true => exact iteT (hx Q q)
  | false => exact iteF (hy Q q))
end
end Vx

namespace Vx
open PySem PySem.Spec PyProof.Rows L2
def rLenLi (K : PySem.W.Frag) : List V → Hp → VK → Prop := fun xs H Q => ∃ (p : Addr) (ns : List Int), xs = [.ref p] ∧ SqL K H p (ns.map V.int) ∧ Q (.int (ns.length : Int)) H
theorem call_lenLi {X : Cx} : CallR X (.builtin "len") (rLenLi X.K) := by
  intro pins s σ H xs us Q I r h
  obtain ⟨p, ns, rfl, hs, q⟩ := h
  exact call_len_seq pins s σ H _ us Q I r ⟨p, _, rfl, Or.inl hs, by rw [List.length_map]; exact q⟩
end Vx

namespace Vx
open PySem PySem.Spec PyProof.Rows L2
section
variable {X : Cx} {K : PySem.W.Frag}
theorem ix_listK (hK : X.K = K := by rfl) : IxR X (rIxL K) := hK ▸ ix_list
theorem sl_listK (hK : X.K = K := by rfl) : SlR X (rSlL K) := hK ▸ sl_list
theorem call_lenLiK (hK : X.K = K := by rfl) : CallR X (.builtin "len") (rLenLi K) := hK ▸ call_lenLi
theorem op_eqLiK (hu : X.A.units + 64 < cLine) (hK : X.K = K := by rfl) : OpR X (compareOp .Eq) (rEqLi K) := hK ▸ op_eqLi hu
theorem op_neLiK (hu : X.A.units + 64 < cLine) (hK : X.K = K := by rfl) : OpR X (compareOp .NotEq) (rNeLi K) := hK ▸ op_neLi hu
theorem pi_listK {tg l : Expr} {tl : TE} (hl : PE X l tl) (hK : X.K = K := by rfl) : PI X tg l (iList K tl) := hK ▸ pi_list hl
theorem cr_sumK (hc : X.calm = true) (hK : X.K = K := by rfl) : CallR X (.builtin "sum") (rSum K) := hK ▸ cr_sum hc
theorem cr_maxK (hc : X.calm = true) (hK : X.K = K := by rfl) : CallR X (.builtin "max") (rMax K) := hK ▸ cr_max hc
theorem cr_minK (hc : X.calm = true) (hK : X.K = K := by rfl) : CallR X (.builtin "min") (rMin K) := hK ▸ cr_min hc
end
end Vx

namespace Vx
open PySem PySem.Spec PyProof.Rows L2
theorem tyes_go {σ : L2.St} {H : Hp} {f g : Hp → Prop} (h : f H) : tYes σ H (fun b H3 => if b = true then f H3 else g H3) := by
  show if true = true then f H else g H
  exact iteT h
end Vx

/-! # second part: data of any depth, the stable heap G, the owned addresses O -/
namespace Vx
open PySem PySem.Spec PyProof.Rows L2
mutual
inductive Rp (H : Hp) : V → PyData → Prop
  | non : Rp H .non .none
  | bl (b : Bool) : Rp H (.bl b) (.bool b)
  | int (i : Int) : Rp H (.int i) (.int i)
  | str (x : Str) : Rp H (.str x) (.str x)
  | lst {a : Addr} {xs : List V} {ds : List PyData} : H a = some (.lst xs) → RpAll H xs ds → Rp H (.ref a) (.list ds)
  | tup {a : Addr} {xs : List V} {ds : List PyData} : H a = some (.tup xs) → RpAll H xs ds → Rp H (.ref a) (.tuple ds)
inductive RpAll (H : Hp) : List V → List PyData → Prop
  | nil : RpAll H [] []
  | cons {v : V} {vs : List V} {d : PyData} {ds : List PyData} : Rp H v d → RpAll H vs ds → RpAll H (v :: vs) (d :: ds)
end
mutual
theorem Rp.mono {H H' : Hp} (e : Same H H') : ∀ {v : V} {d : PyData}, Rp H v d → Rp H' v d
  | _, _, .non => .non
  | _, _, .bl b => .bl b
  | _, _, .int i => .int i
  | _, _, .str x => .str x
  | _, _, .lst h r => .lst (e _ _ h) (RpAll.mono e r)
  | _, _, .tup h r => .tup (e _ _ h) (RpAll.mono e r)
theorem RpAll.mono {H H' : Hp} (e : Same H H') : ∀ {vs : List V} {ds : List PyData}, RpAll H vs ds → RpAll H' vs ds
  | _, _, .nil => .nil
  | _, _, .cons a b => .cons (Rp.mono e a) (RpAll.mono e b)
end
mutual
theorem Rp.dp {K : PySem.W.Frag} {H : Hp} : ∀ {v : V} {d : PyData}, Rp H v d → Dp K H v d
  | _, _, .non => .non
  | _, _, .bl b => .bl b
  | _, _, .int i => .int i
  | _, _, .str x => .str x
  | _, _, .lst h r => .lst (SqL.of h) (RpAll.dp r)
  | _, _, .tup h r => .tup (SqT.of h) (RpAll.dp r)
theorem RpAll.dp {K : PySem.W.Frag} {H : Hp} : ∀ {vs : List V} {ds : List PyData}, RpAll H vs ds → DpAll K H vs ds
  | _, _, .nil => .nil
  | _, _, .cons a b => .cons (Rp.dp a) (RpAll.dp b)
end
theorem RpAll.append {H : Hp} : ∀ {xs ys : List V} {ds es : List PyData}, RpAll H xs ds → RpAll H ys es → RpAll H (xs ++ ys) (ds ++ es)
  | _, _, _, _, .nil, s => s
  | _, _, _, _, .cons r t, s => .cons r (RpAll.append t s)
theorem RpAll.ints {H : Hp} : ∀ xs : List Int, RpAll H (xs.map V.int) (xs.map PyData.int)
  | [] => .nil
  | x :: xs => .cons (.int x) (RpAll.ints xs)
theorem RpAll.bls {H : Hp} : ∀ xs : List Bool, RpAll H (xs.map V.bl) (xs.map PyData.bool)
  | [] => .nil
  | x :: xs => .cons (.bl x) (RpAll.bls xs)
theorem RpAll.one {H : Hp} {v : V} {d : PyData} (h : Rp H v d) : RpAll H [v] [d] := .cons h .nil
theorem RpAll.len {H : Hp} : ∀ {vs : List V} {ds : List PyData}, RpAll H vs ds → vs.length = ds.length
  | _, _, .nil => rfl
  | _, _, .cons _ t => by rw [List.length_cons, List.length_cons, RpAll.len t]
theorem RpAll.at {H : Hp} : ∀ {vs : List V} {ds : List PyData} {i : Nat} {v : V}, RpAll H vs ds → vs[i]? = some v → ∃ d, ds[i]? = some d ∧ Rp H v d
  | _, _, _, _, .nil, h => by simp at h
  | _, _, 0, _, .cons r _, h => by
    simp at h
    subst h
    exact ⟨_, rfl, r⟩
  | _, _, i + 1, _, .cons _ t, h => by
    obtain ⟨d, h1, h2⟩ := RpAll.at (i := i) t (by simpa using h)
    exact ⟨d, by simpa using h1, h2⟩
theorem RpAll.at' {H : Hp} : ∀ {vs : List V} {ds : List PyData} {i : Nat} {d : PyData}, RpAll H vs ds → ds[i]? = some d → ∃ v, vs[i]? = some v ∧ Rp H v d
  | _, _, _, _, .nil, h => by simp at h
  | _, _, 0, _, .cons r _, h => by
    simp at h
    subst h
    exact ⟨_, rfl, r⟩
  | _, _, i + 1, _, .cons _ t, h => by
    obtain ⟨v, h1, h2⟩ := RpAll.at' (i := i) t (by simpa using h)
    exact ⟨v, by simpa using h1, h2⟩
theorem RpAll.take {H : Hp} : ∀ (n : Nat) {vs : List V} {ds : List PyData}, RpAll H vs ds → RpAll H (vs.take n) (ds.take n)
  | 0, _, _, _ => by simpa using RpAll.nil
  | n + 1, _, _, .nil => by simpa using RpAll.nil
  | n + 1, _, _, .cons r t => .cons r (RpAll.take n t)
theorem RpAll.drop {H : Hp} : ∀ (n : Nat) {vs : List V} {ds : List PyData}, RpAll H vs ds → RpAll H (vs.drop n) (ds.drop n)
  | 0, _, _, r => r
  | n + 1, _, _, .nil => by simpa using RpAll.nil
  | n + 1, _, _, .cons r t => RpAll.drop n t
theorem RpAll.set {H : Hp} {v : V} {d : PyData} (h : Rp H v d) : ∀ (n : Nat) {vs : List V} {ds : List PyData}, RpAll H vs ds → RpAll H (vs.set n v) (ds.set n d)
  | _, _, _, .nil => .nil
  | 0, _, _, .cons _ t => .cons h t
  | n + 1, _, _, .cons r t => .cons r (RpAll.set h n t)
theorem RpAll.rep {H : Hp} {vs : List V} {ds : List PyData} (h : RpAll H vs ds) : ∀ n : Nat, RpAll H (List.replicate n vs).flatten (List.replicate n ds).flatten
  | 0 => by simpa using RpAll.nil
  | n + 1 => by
    rw [List.replicate_succ, List.flatten_cons, List.replicate_succ, List.flatten_cons]
    exact RpAll.append h (RpAll.rep h n)
theorem RpAll.get {α : Type} {f : α → PyData} {H : Hp} {vs : List V} {xs : List α} {i : Nat} {v : V} (r : RpAll H vs (xs.map f)) (h : vs[i]? = some v) : ∃ x, xs[i]? = some x ∧ Rp H v (f x) := by
  obtain ⟨d, h1, h2⟩ := RpAll.at r h
  rw [List.getElem?_map] at h1
  cases e : xs[i]? with
  | none => rw [e] at h1; cases h1
  | some x =>
    rw [e] at h1
    have : f x = d := Option.some.inj h1
    exact ⟨x, rfl, this ▸ h2⟩
/-- the item at an index, data -/
theorem RpAll.ix {α : Type} {f : α → PyData} {H : Hp} {vs : List V} {xs : List α} {k : Int} (r : RpAll H vs (xs.map f)) (h : -(xs.length : Int) ≤ k ∧ k < xs.length) : ∃ v x, atI vs k = some v ∧ atI xs k = some x ∧ Rp H v (f x) := by
  have hl : vs.length = xs.length := by rw [r.len, List.length_map]
  have hk : ∃ j, ixN xs.length k = some j ∧ j < xs.length := by
    unfold ixN
    by_cases h0 : 0 ≤ k
    · refine ⟨k.toNat, ?_, by omega⟩
      rw [if_pos h0, if_pos h.2]
    · refine ⟨(k + xs.length).toNat, ?_, by omega⟩
      rw [if_neg h0, if_pos h.1]
  obtain ⟨j, e, hj⟩ := hk
  have hx := List.getElem?_eq_getElem hj
  obtain ⟨v, h1, h2⟩ := RpAll.at' (i := j) (d := f xs[j]) r (by rw [List.getElem?_map, hx] <;> rfl)
  refine ⟨v, xs[j], ?_, ?_, h2⟩
  · unfold atI
    rw [hl, e]
    exact h1
  · unfold atI
    rw [e]
    exact hx

/-! ### types -/
def encL {α : Type} (f : α → PyData) (xs : List α) : PyData := .list (xs.map f)
def encT2 {α β : Type} (f : α → PyData) (g : β → PyData) (p : α × β) : PyData := .tuple [f p.1, g p.2]
def encT3 {α β γ : Type} (f : α → PyData) (g : β → PyData) (h : γ → PyData) (p : α × β × γ) : PyData := .tuple [f p.1, g p.2.1, h p.2.2]
def encT4 {α β γ δ : Type} (f : α → PyData) (g : β → PyData) (h : γ → PyData) (i : δ → PyData) (p : α × β × γ × δ) : PyData := .tuple [f p.1, g p.2.1, h p.2.2.1, i p.2.2.2]
structure EncOk {α : Type} [DecidableEq α] (n : Nat) (f : α → PyData) : Prop where
  lay : ∀ x, PyData.canLay0 (f x) = true
  dep : ∀ x, PyData.depth (f x) ≤ n
  eqv : ∀ x y, PyData.eqv (f x) (f y) = decide (x = y)
theorem encOk_int : EncOk 0 PyData.int := ⟨fun _ => by simp [PyData.canLay0], fun _ => by simp [PyData.depth], fun x y => by simp [PyData.eqv]; by_cases h : x = y <;> simp [h]⟩
theorem encOk_bool : EncOk 0 PyData.bool := ⟨fun _ => by simp [PyData.canLay0], fun _ => by simp [PyData.depth], fun x y => by cases x <;> cases y <;> simp [PyData.eqv]⟩
section
variable {α β γ δ : Type} [DecidableEq α] [DecidableEq β] [DecidableEq γ] [DecidableEq δ] {n m l o : Nat} {f : α → PyData} {g : β → PyData} {h : γ → PyData} {i : δ → PyData}
theorem lay_map (ok : EncOk n f) : ∀ xs : List α, PyData.canLayAll0 (xs.map f) = true
  | [] => by simp [PyData.canLayAll0]
  | x :: xs => by simp [PyData.canLayAll0, ok.lay x, lay_map ok xs]
theorem dep_map (ok : EncOk n f) : ∀ xs : List α, PyData.depthAll (xs.map f) ≤ n
  | [] => by simp [PyData.depthAll]
  | x :: xs => by
    have h1 := ok.dep x
    have h2 := dep_map ok xs
    simp only [List.map_cons, PyData.depthAll]
    omega
theorem eqv_map (ok : EncOk n f) : ∀ xs ys : List α, PyData.eqvAll (xs.map f) (ys.map f) = decide (xs = ys)
  | [], [] => by simp [PyData.eqvAll]
  | [], y :: ys => by simp [PyData.eqvAll]
  | x :: xs, [] => by simp [PyData.eqvAll]
  | x :: xs, y :: ys => by
    have ih := eqv_map ok xs ys
    simp only [List.map_cons, PyData.eqvAll, ok.eqv, ih]
    by_cases h : x = y <;> by_cases h2 : xs = ys <;> simp [h, h2]
theorem encOk_L (ok : EncOk n f) : EncOk (n + 1) (encL f) := ⟨fun xs => by simp [encL, PyData.canLay0, lay_map ok], fun xs => by
  have := dep_map ok xs
  simp only [encL, PyData.depth]
  omega, fun xs ys => by simp only [encL, PyData.eqv]; exact eqv_map ok xs ys⟩
theorem encOk_T2 (ok : EncOk n f) (ok2 : EncOk m g) : EncOk (max n m + 1) (encT2 f g) := ⟨fun x => by simp [encT2, PyData.canLay0, PyData.canLayAll0, ok.lay, ok2.lay], fun x => by
  have h1 := ok.dep x.1
  have h2 := ok2.dep x.2
  simp only [encT2, PyData.depth, PyData.depthAll]
  omega, fun x y => by
  obtain ⟨a, b⟩ := x
  obtain ⟨c, d⟩ := y
  simp only [encT2, PyData.eqv, PyData.eqvAll, ok.eqv, ok2.eqv, Prod.mk.injEq]
  by_cases h1 : a = c <;> by_cases h2 : b = d <;> simp [h1, h2]⟩
theorem encOk_T3 (ok : EncOk n f) (ok2 : EncOk m g) (ok3 : EncOk l h) : EncOk (max n (max m l) + 1) (encT3 f g h) := ⟨fun x => by simp [encT3, PyData.canLay0, PyData.canLayAll0, ok.lay, ok2.lay, ok3.lay], fun x => by
  have h1 := ok.dep x.1
  have h2 := ok2.dep x.2.1
  have h3 := ok3.dep x.2.2
  simp only [encT3, PyData.depth, PyData.depthAll]
  omega, fun x y => by
  obtain ⟨a, b, e⟩ := x
  obtain ⟨c, d, e'⟩ := y
  simp only [encT3, PyData.eqv, PyData.eqvAll, ok.eqv, ok2.eqv, ok3.eqv, Prod.mk.injEq]
  by_cases h1 : a = c <;> by_cases h2 : b = d <;> by_cases h3 : e = e' <;> simp [h1, h2, h3]⟩
theorem encOk_T4 (ok : EncOk n f) (ok2 : EncOk m g) (ok3 : EncOk l h) (ok4 : EncOk o i) : EncOk (max n (max m (max l o)) + 1) (encT4 f g h i) := ⟨fun x => by simp [encT4, PyData.canLay0, PyData.canLayAll0, ok.lay, ok2.lay, ok3.lay, ok4.lay], fun x => by
  have h1 := ok.dep x.1
  have h2 := ok2.dep x.2.1
  have h3 := ok3.dep x.2.2.1
  have h4 := ok4.dep x.2.2.2
  simp only [encT4, PyData.depth, PyData.depthAll]
  omega, fun x y => by
  obtain ⟨a, b, e, u⟩ := x
  obtain ⟨c, d, e', u'⟩ := y
  simp only [encT4, PyData.eqv, PyData.eqvAll, ok.eqv, ok2.eqv, ok3.eqv, ok4.eqv, Prod.mk.injEq]
  by_cases h1 : a = c <;> by_cases h2 : b = d <;> by_cases h3 : e = e' <;> by_cases h4 : u = u' <;> simp [h1, h2, h3, h4]⟩
end
section
variable {X : Cx} {α : Type} [DecidableEq α] {n : Nat} {f : α → PyData}
def rEqT (f : α → PyData) : R2 := fun x y H Q => ∃ (a b : α), Rp H x (f a) ∧ Rp H y (f b) ∧ Q (.bl (decide (a = b))) H
def rNeT (f : α → PyData) : R2 := fun x y H Q => ∃ (a b : α), Rp H x (f a) ∧ Rp H y (f b) ∧ Q (.bl (!decide (a = b))) H
theorem shaped_of (ok : EncOk n f) (hn : n ≤ 64) (a : α) : SeqAt.shaped (f a) = true := by
  unfold SeqAt.shaped
  have h := ok.dep a
  rw [ok.lay]
  simp
  omega
theorem op_eqT (ok : EncOk n f) (hu : X.A.units + 64 < cLine) (hn : n ≤ 64 := by decide) : OpR X (compareOp .Eq) (rEqT f) := by
  intro pins s σ H x y v u Q I rx ry h
  obtain ⟨a, b, h1, h2, q⟩ := h
  exact op_eqD hu pins s σ H _ _ v u Q I rx ry ⟨_, _, h1.dp, h2.dp, shaped_of ok hn a, shaped_of ok hn b, by rw [ok.eqv]; exact q⟩
theorem op_neT (ok : EncOk n f) (hu : X.A.units + 64 < cLine) (hn : n ≤ 64 := by decide) : OpR X (compareOp .NotEq) (rNeT f) := by
  intro pins s σ H x y v u Q I rx ry h
  obtain ⟨a, b, h1, h2, q⟩ := h
  exact op_neD hu pins s σ H _ _ v u Q I rx ry ⟨_, _, h1.dp, h2.dp, shaped_of ok hn a, shaped_of ok hn b, by rw [ok.eqv]; exact q⟩
end
section
variable {H : Hp} {v : V} {α β γ δ : Type} {f : α → PyData} {g : β → PyData} {h : γ → PyData} {i : δ → PyData}
theorem rp_int {x : Int} (r : Rp H v (.int x)) : v = .int x := by cases r; rfl
theorem rp_bool {x : Bool} (r : Rp H v (.bool x)) : v = .bl x := by cases r; rfl
theorem rp_str {x : Str} (r : Rp H v (.str x)) : v = .str x := by cases r; rfl
theorem rp_list {xs : List α} (r : Rp H v (encL f xs)) : ∃ a vs, v = .ref a ∧ H a = some (.lst vs) ∧ RpAll H vs (xs.map f) := by
  unfold encL at r
  cases r with
  | lst h1 h2 => exact ⟨_, _, rfl, h1, h2⟩
theorem rpAll_ints : ∀ {vs : List V} {xs : List Int}, RpAll H vs (xs.map PyData.int) → vs = xs.map V.int
  | _, [], .nil => rfl
  | _, x :: xs, .cons r t => by rw [rp_int r, rpAll_ints t] <;> rfl
theorem rp_ints {xs : List Int} (r : Rp H v (encL PyData.int xs)) : ∃ a, v = .ref a ∧ H a = some (.lst (xs.map V.int)) := by
  obtain ⟨a, vs, e, h1, h2⟩ := rp_list r
  rw [rpAll_ints h2] at h1
  exact ⟨a, e, h1⟩
theorem rp_tup2 {x : α × β} (r : Rp H v (encT2 f g x)) : ∃ a v1 v2, v = .ref a ∧ H a = some (.tup [v1, v2]) ∧ Rp H v1 (f x.1) ∧ Rp H v2 (g x.2) := by
  unfold encT2 at r
  cases r with
  | tup h1 h2 =>
    cases h2 with
    | cons a b =>
      cases b with
      | cons b c =>
        cases c
        exact ⟨_, _, _, rfl, h1, a, b⟩
theorem rp_tup3 {x : α × β × γ} (r : Rp H v (encT3 f g h x)) : ∃ a v1 v2 v3, v = .ref a ∧ H a = some (.tup [v1, v2, v3]) ∧ Rp H v1 (f x.1) ∧ Rp H v2 (g x.2.1) ∧ Rp H v3 (h x.2.2) := by
  unfold encT3 at r
  cases r with
  | tup h1 h2 =>
    cases h2 with
    | cons a b =>
      cases b with
      | cons b c =>
        cases c with
        | cons c d =>
          cases d
          exact ⟨_, _, _, _, rfl, h1, a, b, c⟩
theorem rp_mk_list {a : Addr} {vs : List V} {xs : List α} (h1 : H a = some (.lst vs)) (h2 : RpAll H vs (xs.map f)) : Rp H (.ref a) (encL f xs) := .lst h1 h2
theorem rp_mk_ints {a : Addr} {xs : List Int} (h1 : H a = some (.lst (xs.map V.int))) : Rp H (.ref a) (encL PyData.int xs) := .lst h1 (RpAll.ints xs)
theorem rp_mk2 {a : Addr} {v1 v2 : V} {x : α} {y : β} (h1 : H a = some (.tup [v1, v2])) (r1 : Rp H v1 (f x)) (r2 : Rp H v2 (g y)) : Rp H (.ref a) (encT2 f g (x, y)) := .tup h1 (.cons r1 (.cons r2 .nil))
theorem rp_mk3 {a : Addr} {v1 v2 v3 : V} {x : α} {y : β} {z : γ} (h1 : H a = some (.tup [v1, v2, v3])) (r1 : Rp H v1 (f x)) (r2 : Rp H v2 (g y)) (r3 : Rp H v3 (h z)) : Rp H (.ref a) (encT3 f g h (x, y, z)) := .tup h1 (.cons r1 (.cons r2 (.cons r3 .nil)))
end

/-! ### the two heaps -/
def SameXs (L : List Addr) (H H' : Hp) : Prop := ∀ b o, H b = some o → b ∉ L → H' b = some o
theorem SameXs.of {H H' : Hp} {m : Addr} (x : SameX m H H') : SameXs [m] H H' := fun b o e n => x b o e (fun z => n (by rw [z]; exact List.mem_cons_self))
theorem ni1 {b m : Addr} (h : b ≠ m) : b ∉ [m] := by simpa using h
theorem ni2 {b m n : Addr} (h : b ≠ m) (h2 : b ≠ n) : b ∉ [m, n] := by simp [h, h2]
theorem ni3 {b m n o : Addr} (h : b ≠ m) (h2 : b ≠ n) (h3 : b ≠ o) : b ∉ [m, n, o] := by simp [h, h2, h3]
theorem ni4 {b m n o p : Addr} (h : b ≠ m) (h2 : b ≠ n) (h3 : b ≠ o) (h4 : b ≠ p) : b ∉ [m, n, o, p] := by simp [h, h2, h3, h4]
def hideL (L : List Addr) (H : Hp) : Hp := fun b => if b ∈ L then none else H b
theorem hideL_same (L : List Addr) (H : Hp) : Same (hideL L H) H := fun b o e => by
  unfold hideL at e
  split at e
  · cases e
  · exact e
theorem hideL_in {L : List Addr} {H : Hp} {b : Addr} (h : b ∈ L) : hideL L H b = none := if_pos h
theorem hideL_out {L : List Addr} {H : Hp} {b : Addr} (h : b ∉ L) : hideL L H b = H b := if_neg h
/-- M: owned from outside; H0, G0: at the entry; G: what stays as it is; O: what may change -/
structure Sep (M : List Addr) (H0 G0 G H : Hp) (O : List Addr) : Prop where
  base : SameXs M H0 H
  pm : ∀ a ∈ M, H a ≠ none
  sG : Same G H
  g0 : Same G0 G
  gn : ∀ b, H0 b ≠ none → G0 b = none → G b = none
  ow : ∀ a ∈ O, G a = none ∧ H a ≠ none ∧ (a ∈ M ∨ H0 a = none)
theorem all_nil {P : Addr → Prop} : ∀ x ∈ ([] : List Addr), P x := fun x h => by cases h
theorem all_cons {P : Addr → Prop} {a : Addr} {l : List Addr} (h : P a) (t : ∀ x ∈ l, P x) : ∀ x ∈ a :: l, P x := fun x hx => by
  cases hx with
  | head => exact h
  | tail _ hx => exact t x hx
theorem some_ne {H : Hp} {a : Addr} {o : HO} (h : H a = some o) : H a ≠ none := by
  rw [h]
  exact fun z => nomatch z
theorem same_ne {H H' : Hp} {a : Addr} (e : Same H H') (h : H a ≠ none) : H' a ≠ none := by
  cases q : H a with
  | none => exact absurd q h
  | some o => exact some_ne (e a o q)
section
variable {M : List Addr} {H0 G0 G H H' : Hp} {O : List Addr} {p m : Addr} {o : HO}
theorem Sep.start (M : List Addr) (H : Hp) (hM : ∀ a ∈ M, H a ≠ none) : Sep M H (hideL M H) (hideL M H) H M :=
  ⟨fun _ _ e _ => e, hM, hideL_same M H, Same.refl _, fun _ _ e => e, fun a ha => ⟨hideL_in ha, hM a ha, .inl ha⟩⟩
theorem Sep.startG {G H : Hp} (e : Same G H) : Sep [] H G G H [] := ⟨fun _ _ e _ => e, all_nil, e, Same.refl _, fun _ _ e => e, fun a ha => by cases ha⟩
theorem Sep.start0 (H : Hp) : Sep [] H H H H [] := Sep.startG (Same.refl H)
theorem Sep.b0 (S : Sep [] H0 G0 G H O) : Same H0 H := fun b o e => S.base b o e List.not_mem_nil
theorem Sep.free (S : Sep M H0 G0 G H O) {q : Addr} (n : H q = none) : H0 q = none := by
  cases e : H0 q with
  | none => rfl
  | some o =>
    by_cases h : q ∈ M
    · exact absurd n (S.pm q h)
    · rw [S.base q o e h] at n
      cases n
theorem Sep.same (S : Sep M H0 G0 G H O) (e : Same H H') : Sep M H0 G0 G H' O :=
  ⟨fun b o h n => e b o (S.base b o h n), fun a ha => same_ne e (S.pm a ha), S.sG.trans e, S.g0, S.gn, fun a ha => ⟨(S.ow a ha).1, same_ne e (S.ow a ha).2.1, (S.ow a ha).2.2⟩⟩
theorem Sep.gfree (S : Sep M H0 G0 G H O) {q : Addr} (n : H q = none) : G q = none := by
  cases e : G q with
  | none => rfl
  | some o => rw [S.sG q o e] at n; cases n
theorem Sep.new (S : Sep M H0 G0 G H O) (n : H p = none) (e : Same H H') (h : H' p = some o) (hm : H0 p = none) : Sep M H0 G0 G H' (p :: O) := by
  have S1 := S.same e
  refine ⟨S1.base, S1.pm, S1.sG, S1.g0, S1.gn, fun a ha => ?_⟩
  cases ha with
  | head => exact ⟨S.gfree n, some_ne h, .inr hm⟩
  | tail _ ha => exact S1.ow a ha
theorem Sep.grow (S : Sep M H0 G0 G H O) (n : H p = none) (e : Same H H') (h : H' p = some o) (hm : H0 p = none) : ∃ G', Same G G' ∧ G' p = some o ∧ Sep M H0 G0 G' H' O := by
  have S1 := S.same e
  have ng := S.gfree n
  refine ⟨upd G p o, fun b u q => by rw [upd_ne (ne_of_none q ng)]; exact q, upd_same, S1.base, S1.pm, fun b u q => ?_, fun b u q => ?_, fun b hb gb => ?_, fun a ha => ?_⟩
  · by_cases z : b = p
    · subst z
      rw [upd_same] at q
      exact q ▸ h
    · rw [upd_ne z] at q
      exact S1.sG b u q
  · have := S.g0 b u q
    rw [upd_ne (ne_of_none this ng)]
    exact this
  · by_cases z : b = p
    · subst z
      exact absurd hm hb
    · rw [upd_ne z]
      exact S.gn b hb gb
  · have hne : a ≠ p := fun z => (S.ow a ha).2.1 (by rw [z]; exact n)
    rw [upd_ne hne]
    exact S1.ow a ha
theorem Sep.mut (S : Sep M H0 G0 G H O) {L : List Addr} (x : SameXs L H H') (hL : ∀ a ∈ L, a ∈ O) (hs : ∀ a ∈ L, H' a ≠ none) : Sep M H0 G0 G H' O := by
  have keep : ∀ a, H a ≠ none → H' a ≠ none := fun a h => by
    by_cases hb : a ∈ L
    · exact hs a hb
    · cases q : H a with
      | none => exact absurd q h
      | some o => exact some_ne (x a o q hb)
  refine ⟨fun b o e n => ?_, fun a ha => keep a (S.pm a ha), fun b o e => ?_, S.g0, S.gn, fun a ha => ⟨(S.ow a ha).1, keep a (S.ow a ha).2.1, (S.ow a ha).2.2⟩⟩
  · refine x b o (S.base b o e n) fun hb => ?_
    rcases (S.ow b (hL b hb)).2.2 with z | z
    · exact n z
    · rw [e] at z; cases z
  · refine x b o (S.sG b o e) fun hb => ?_
    have := (S.ow b (hL b hb)).1
    rw [e] at this
    cases this
theorem Sep.mut1 (S : Sep M H0 G0 G H O) (x : SameX m H H') (hm : m ∈ O) (h : H' m = some o) : Sep M H0 G0 G H' O :=
  S.mut (SameXs.of x) (all_cons hm all_nil) (all_cons (some_ne h) all_nil)
theorem Sep.sub (S : Sep M H0 G0 G H O) {O' : List Addr} (h : ∀ a ∈ O', a ∈ O) : Sep M H0 G0 G H O' := ⟨S.base, S.pm, S.sG, S.g0, S.gn, fun a ha => S.ow a (h a ha)⟩
/-- what was owned and is to stay as it is from now on -/
theorem Sep.freeze (S : Sep M H0 G0 G H O) {O' : List Addr} (hp : p ∈ O) (h : H p = some o) (hm : H0 p = none) (hO : ∀ a ∈ O', a ∈ O ∧ a ≠ p) : ∃ G', Same G G' ∧ G' p = some o ∧ Sep M H0 G0 G' H O' := by
  have ng := (S.ow p hp).1
  refine ⟨upd G p o, fun b u q => by rw [upd_ne (ne_of_none q ng)]; exact q, upd_same, S.base, S.pm, fun b u q => ?_, fun b u q => ?_, fun b hb gb => ?_, fun a ha => ?_⟩
  · by_cases z : b = p
    · subst z
      rw [upd_same] at q
      exact q ▸ h
    · rw [upd_ne z] at q
      exact S.sG b u q
  · have := S.g0 b u q
    rw [upd_ne (ne_of_none this ng)]
    exact this
  · by_cases z : b = p
    · subst z
      exact absurd hm hb
    · rw [upd_ne z]
      exact S.gn b hb gb
  · rw [upd_ne (hO a ha).2]
    exact S.ow a (hO a ha).1
/-- a callee that hands on data in a stable heap of its own -/
theorem Sep.step (S : Sep M H0 G0 G H O) {G' : Hp} (e : Same H H') (eG : Same G G') (sG : Same G' H') (hn : ∀ b, H b ≠ none → G b = none → G' b = none) : Sep M H0 G0 G' H' O := by
  have S1 := S.same e
  refine ⟨S1.base, S1.pm, sG, S.g0.trans eG, fun b hb gb => ?_, fun a ha => ⟨hn a (S.ow a ha).2.1 (S.ow a ha).1, (S1.ow a ha).2⟩⟩
  refine hn b (fun z => ?_) (S.gn b hb gb)
  exact hb (S.free z)
theorem Sep.hid (S : Sep M H0 G0 G H O) {L : List Addr} (h : ∀ a ∈ L, a ∈ O) : Same G (hideL L H) := fun b o e => by
  rw [hideL_out fun z => by
    have := (S.ow b (h b z)).1
    rw [e] at this
    cases this]
  exact S.sG b o e
end
end Vx

namespace Vx
open PySem PySem.Spec PyProof.Rows L2
/-! ### lists of plain things (f : V.int, V.bl, V.str) -/
section
variable {α : Type} {f : α → V} {H : Hp} {p : Addr}
theorem cat_map {xs ys : List α} (h : H p = some (.lst (xs.map f ++ ys.map f))) : H p = some (.lst ((xs ++ ys).map f)) := by
  rw [List.map_append]; exact h
theorem snoc_map {xs : List α} {y : α} (h : H p = some (.lst (xs.map f ++ [f y]))) : H p = some (.lst ((xs ++ [y]).map f)) := by
  rw [List.map_append]; exact h
def repL (xs : List α) (k : Int) : List α := (List.replicate k.toNat xs).flatten
theorem rep_map {xs : List α} {k : Int} (h : H p = some (.lst (List.replicate k.toNat (xs.map f)).flatten)) : H p = some (.lst ((repL xs k).map f)) := by
  rw [h]
  unfold repL
  rw [List.map_flatten, List.map_replicate]
def cutL (xs : List α) (lo hi : Option Int) : List α := (xs.drop (HT.sIx xs.length 0 lo)).take (HT.sIx xs.length xs.length hi - HT.sIx xs.length 0 lo)
theorem cut_map {xs : List α} {lo hi : Option Int} (h : H p = some (.lst (cutV (xs.map f) lo hi))) : H p = some (.lst ((cutL xs lo hi).map f)) := by
  rw [h]
  unfold cutV cutL
  rw [List.length_map, List.map_take, List.map_drop]
theorem cast_map {xs ys : List α} (h : H p = some (.lst (xs.map f))) (e : xs = ys) : H p = some (.lst (ys.map f)) := e ▸ h
theorem drop_map {xs : List α} (h : H p = some (.lst (xs.map f).dropLast)) : H p = some (.lst (xs.dropLast.map f)) := by
  rw [h, List.map_dropLast]
theorem ixN_some {n : Nat} {k : Int} (h : -(n : Int) ≤ k ∧ k < n) : ∃ j, ixN n k = some j ∧ j < n := by
  unfold ixN
  by_cases h0 : 0 ≤ k
  · exact ⟨k.toNat, by rw [if_pos h0, if_pos h.2], by omega⟩
  · exact ⟨(k + n).toNat, by rw [if_neg h0, if_pos h.1], by omega⟩
def itD [Inhabited α] (xs : List α) (k : Int) : α := (atI xs k).getD default
theorem atI_map [Inhabited α] {xs : List α} {k : Int} (h : -(xs.length : Int) ≤ k ∧ k < xs.length) : atI (xs.map f) k = some (f (itD xs k)) := by
  obtain ⟨j, e, hj⟩ := ixN_some h
  unfold itD atI
  rw [List.length_map, e]
  show (xs.map f)[j]? = some (f ((xs[j]?).getD default))
  rw [List.getElem?_map, List.getElem?_eq_getElem hj] <;> rfl
def setL (xs : List α) (k : Int) (y : α) : List α := xs.set ((ixN xs.length k).getD 0) y
theorem ixN_map {xs : List α} {k : Int} (h : -(xs.length : Int) ≤ k ∧ k < xs.length) : ixN (xs.map f).length k = some ((ixN xs.length k).getD 0) := by
  obtain ⟨j, e, hj⟩ := ixN_some h
  rw [List.length_map, e] <;> rfl
theorem set_map {xs : List α} {k : Int} {y : α} (h : H p = some (.lst ((xs.map f).set ((ixN xs.length k).getD 0) (f y)))) : H p = some (.lst ((setL xs k y).map f)) := by
  rw [h]
  unfold setL
  rw [List.map_set]
def lastD [Inhabited α] (xs : List α) : α := xs.getLastD default
theorem pop_map [Inhabited α] {xs : List α} (h : xs ≠ []) : (xs.map f)[(xs.map f).length - 1]? = some (f (lastD xs)) := by
  rw [← List.getLast?_eq_getElem?, List.getLast?_map]
  unfold lastD
  cases e : xs.getLast? with
  | none => exact absurd (List.getLast?_eq_none_iff.mp e) h
  | some y =>
    rw [List.getLastD_eq_getLast?, e] <;> rfl
end
/-! ### lists of data -/
section
variable {α β : Type} {f : α → PyData} {g : β → PyData} {G : Hp} {vs ws : List V} {xs ys : List α}
theorem app_map (a : RpAll G vs (xs.map f)) (b : RpAll G ws (ys.map f)) : RpAll G (vs ++ ws) ((xs ++ ys).map f) := by
  rw [List.map_append]; exact a.append b
theorem one_map {v : V} {y : α} (a : RpAll G vs (xs.map f)) (b : Rp G v (f y)) : RpAll G (vs ++ [v]) ((xs ++ [y]).map f) := by
  rw [List.map_append]; exact a.append (.one b)
theorem rep_all (k : Int) (a : RpAll G vs (xs.map f)) : RpAll G (List.replicate k.toNat vs).flatten ((repL xs k).map f) := by
  unfold repL
  rw [List.map_flatten, List.map_replicate]
  exact a.rep _
theorem cut_all (lo hi : Option Int) (a : RpAll G vs (xs.map f)) : RpAll G (cutV vs lo hi) ((cutL xs lo hi).map f) := by
  unfold cutV cutL
  rw [a.len, List.length_map, List.map_take, List.map_drop]
  exact (a.drop _).take _
theorem rp_cast {v : V} {d e : PyData} (r : Rp G v d) (h : d = e) : Rp G v e := h ▸ r
theorem comp_listD {i : Nat} {x : α} {y : β} {v : V} {h : α → β} (hi : xs[i]? = some x) (a : RpAll G vs (((xs.take i).map h).map g)) (r : Rp G v (g y)) (e : h x = y) : RpAll G (vs ++ [v]) (((xs.take (i + 1)).map h).map g) := by
  rw [take_succ_get hi, List.map_append, List.map_append]
  exact a.append (.one (e ▸ r))
theorem comp_rangeD {i : Nat} {y : β} {v : V} {h : Nat → β} (a : RpAll G vs (((List.range i).map h).map g)) (r : Rp G v (g y)) (e : h i = y) : RpAll G (vs ++ [v]) (((List.range (i + 1)).map h).map g) := by
  rw [List.range_succ, List.map_append, List.map_append]
  exact a.append (.one (e ▸ r))
theorem comp_doneD {n : Nat} {h : List α → List β} (hl : n = xs.length) (a : RpAll G vs ((h (xs.take n)).map g)) : RpAll G vs ((h xs).map g) := by
  rw [hl, List.take_length] at a
  exact a
theorem comp_listFD {i : Nat} {x : α} {y : β} {v : V} {h : α → β} {q : α → Bool} (hi : xs[i]? = some x) (hq : q x = true) (a : RpAll G vs ((((xs.take i).filter q).map h).map g)) (r : Rp G v (g y)) (e : h x = y) : RpAll G (vs ++ [v]) ((((xs.take (i + 1)).filter q).map h).map g) := by
  rw [take_succ_get hi, List.filter_append, List.filter_cons, if_pos hq, List.map_append, List.map_append]
  exact a.append (.one (e ▸ r))
theorem skip_listD {i : Nat} {x : α} {h : α → β} {q : α → Bool} (hi : xs[i]? = some x) (hq : q x = false) (a : RpAll G vs ((((xs.take i).filter q).map h).map g)) : RpAll G vs ((((xs.take (i + 1)).filter q).map h).map g) := by
  rw [take_succ_get hi, List.filter_append, List.filter_cons, if_neg (by rw [hq]; decide), List.filter_nil, List.append_nil]
  exact a
end
section
variable {α β : Type} {f : β → V} {H : Hp} {D : Addr} {xs : List α}
theorem compM_list {i : Nat} {x : α} {y : β} {h : α → β} (hi : xs[i]? = some x) (a : H D = some (.lst (((xs.take i).map h).map f ++ [f y]))) (e : h x = y) : H D = some (.lst (((xs.take (i + 1)).map h).map f)) := by
  rw [a, ← e, take_succ_get hi, List.map_append, List.map_append] <;> rfl
theorem compM_range {i : Nat} {y : β} {h : Nat → β} (a : H D = some (.lst (((List.range i).map h).map f ++ [f y]))) (e : h i = y) : H D = some (.lst (((List.range (i + 1)).map h).map f)) := by
  rw [a, ← e, List.range_succ, List.map_append, List.map_append] <;> rfl
theorem compM_done {n : Nat} {h : List α → List β} (hl : n = xs.length) (a : H D = some (.lst ((h (xs.take n)).map f))) : H D = some (.lst ((h xs).map f)) := by
  rw [hl, List.take_length] at a
  exact a
theorem compM_listF {i : Nat} {x : α} {y : β} {h : α → β} {q : α → Bool} (hi : xs[i]? = some x) (hq : q x = true) (a : H D = some (.lst ((((xs.take i).filter q).map h).map f ++ [f y]))) (e : h x = y) : H D = some (.lst ((((xs.take (i + 1)).filter q).map h).map f)) := by
  rw [a, ← e, take_succ_get hi, List.filter_append, List.filter_cons, if_pos hq, List.map_append, List.map_append] <;> rfl
theorem skipM_list {i : Nat} {x : α} {h : α → β} {q : α → Bool} (hi : xs[i]? = some x) (hq : q x = false) (a : H D = some (.lst ((((xs.take i).filter q).map h).map f))) : H D = some (.lst ((((xs.take (i + 1)).filter q).map h).map f)) := by
  rw [a, take_succ_get hi, List.filter_append, List.filter_cons, if_neg (by rw [hq]; decide), List.filter_nil, List.append_nil]
theorem compM_rangeF {i : Nat} {y : β} {h : Nat → β} {q : Nat → Bool} (hq : q i = true) (a : H D = some (.lst ((((List.range i).filter q).map h).map f ++ [f y]))) (e : h i = y) : H D = some (.lst ((((List.range (i + 1)).filter q).map h).map f)) := by
  rw [a, ← e, List.range_succ, List.filter_append, List.filter_cons, if_pos hq, List.map_append, List.map_append] <;> rfl
theorem skipM_range {i : Nat} {h : Nat → β} {q : Nat → Bool} (hq : q i = false) (a : H D = some (.lst ((((List.range i).filter q).map h).map f))) : H D = some (.lst ((((List.range (i + 1)).filter q).map h).map f)) := by
  rw [a, List.range_succ, List.filter_append, List.filter_cons, if_neg (by rw [hq]; decide), List.filter_nil, List.append_nil]
end
/-! ### more rules -/
section
variable {X : Cx} {K : PySem.W.Frag}
theorem ix_tupK (hK : X.K = K := by rfl) : IxR X (rIxT K) := hK ▸ ix_tup
def rLenLK (K : PySem.W.Frag) : List V → Hp → VK → Prop := fun xs H Q => ∃ (p : Addr) (vs : List V) (n : Nat), xs = [.ref p] ∧ SqL K H p vs ∧ vs.length = n ∧ Q (.int (n : Int)) H
theorem call_lenLK (hK : X.K = K := by rfl) : CallR X (.builtin "len") (rLenLK K) := by
  subst hK
  intro pins s σ H xs us Q I r h
  obtain ⟨p, vs, n, rfl, hs, hn, q⟩ := h
  exact call_len_seq pins s σ H _ us Q I r ⟨p, _, rfl, Or.inl hs, by rw [hn]; exact q⟩
def rListLK (K : PySem.W.Frag) : List V → Hp → VK → Prop := fun xs H Q => ∃ (p : Addr) (vs : List V), xs = [.ref p] ∧ SqL K H p vs ∧ ∀ l, H l = none → Q (.ref l) (upd H l (.lst vs))
theorem call_listLK (hK : X.K = K := by rfl) : CallR X (.type "list") (rListLK K) := by
  subst hK
  intro pins s σ H xs us Q I r h
  obtain ⟨p, vs, rfl, hs, q⟩ := h
  exact call_list_of pins s σ H _ us Q I r ⟨p, _, rfl, Or.inl hs, q⟩
theorem cr_anyK (hc : X.calm = true) (hK : X.K = K := by rfl) : CallR X (.builtin "any") (rAny K) := hK ▸ cr_any hc
theorem cr_allK (hc : X.calm = true) (hK : X.K = K := by rfl) : CallR X (.builtin "all") (rAll K) := hK ▸ cr_all hc
theorem pi_tupK {tg l : Expr} {tl : TE} (hl : PE X l tl) (hK : X.K = K := by rfl) : PI X tg l (iTup K tl) := hK ▸ pi_tup hl
theorem pip {op : Operator} {r : R2} (h : OpR X (inplaceOp op) r) : PIp X op r := fun pins s σ H x y v u Q I rx ry q => h pins s σ H x y v u Q I rx ry q
/-- an item at a place from 0 on, by itself (ahead of o[i] op= e) -/
def rIxP (K : PySem.W.Frag) : R2 := fun x y H Q => ∃ (p : Addr) (xs : List V) (k : Int) (v : V), x = .ref p ∧ y = .int k ∧ SqL K H p xs ∧ 0 ≤ k ∧ k < 2 ^ 62 ∧ atI xs k = some v ∧ Q v H
theorem pget_list (hK : X.K = K := by rfl) : PGet X (rIxP K) := by
  subst hK
  intro pins s σ H o i ov iv Q I ro ri h
  obtain ⟨p, xs, k, v, rfl, rfl, hq, h0, h62, ha, q⟩ := h
  cases ro
  obtain ⟨t, rfl⟩ := ri
  obtain ⟨its, r, pl, hz⟩ := I.list hq
  obtain ⟨j, h1, h2, h3, h4, h5⟩ := atI_get ha
  obtain ⟨w, ew, rw'⟩ := r.get h2
  have hj : k.toNat = j := by
    rw [seqIndex_of h0 h5] at h1
    exact Option.some.inj h1
  exact getItem_listL pl.isList h0 (by omega) (by rw [hj]; simpa using ew) ⟨v, H, I, rw', q⟩
theorem tru_map {α : Type} [DecidableEq α] {f : α → V} {xs : List α} : (!decide (xs = [])) = !(xs.map f).isEmpty := by
  cases xs <;> simp
end
end Vx

namespace Vx
open PySem PySem.Spec PyProof.Rows L2
/-! ### objects -/
section
variable {M : List Addr} {H0 G0 G H H' : Hp} {O : List Addr} {p m : Addr} {o : HO}
theorem gen_obj {x dx : Addr} {o1 o2 : HO} (nx : H x = none) (nd : H dx = none) (ne : dx ≠ x) (h : upd (upd H dx o1) x o2 = H') : Same H H' ∧ H' x = some o2 := by
  subst h
  exact ⟨fun b u e => by rw [upd_ne (ne_of_none e nx), upd_ne (ne_of_none e nd)]; exact e, upd_same⟩
theorem sameX_of {m : Addr} (x : SameXs [m] H H') : SameX m H H' := fun b o e n => x b o e (by simpa using n)
theorem g_ne {a b : Addr} (h : G a = some o) (S : Sep M H0 G0 G H O) (hb : b ∈ O) : a ≠ b := fun z => by
  have := (S.ow b hb).1
  rw [← z, h] at this
  cases this
/-- an object whose making has laid some lists -/
theorem Sep.mutnew (S : Sep M H0 G0 G H O) {L : List Addr} (x : SameXs L H H') (hL : ∀ a ∈ L, a ∈ O) (hs : ∀ a ∈ L, H' a ≠ none) (hn : H p = none) (hp : H' p ≠ none) (h0 : H0 p = none) : Sep M H0 G0 G H' (p :: O) := by
  have S1 := S.mut x hL hs
  refine ⟨S1.base, S1.pm, S1.sG, S1.g0, S1.gn, all_cons ⟨S.gfree hn, hp, .inr h0⟩ S1.ow⟩
theorem Sep.init (S : Sep M H0 G0 G H O) (x : SameX m H H') (hm : m ∈ O) (h : H' m = some o) (L : List Addr) (hL : ∀ a ∈ L, H a = none ∧ H' a ≠ none ∧ H0 a = none) : Sep M H0 G0 G H' (L ++ O) := by
  have S1 := S.mut1 x hm h
  refine ⟨S1.base, S1.pm, S1.sG, S1.g0, S1.gn, fun a ha => ?_⟩
  rcases List.mem_append.mp ha with z | z
  · obtain ⟨h1, h2, h3⟩ := hL a z
    exact ⟨S.gfree h1, h2, .inr h3⟩
  · exact S1.ow a z
end
section
variable {P : Program} {w : World} {K : PySem.W.Frag} {mg : Str → Option Value} {base : Heap}
structure MethIn (K : PySem.W.Frag) (C : Addr) (q m : Str) (st : Stmt) (ps : List Str) : Prop where
  ex : ∃ (f : Addr) (fd : FuncData), Fun K m q st f fd ∧ Meth K C m f ∧ Binds K fd ps []
structure PropIn (K : PySem.W.Frag) (C : Addr) (q m : Str) (st : Stmt) (ps : List Str) : Prop where
  ex : ∃ (r f : Addr) (fd : FuncData), Fun K m q st f fd ∧ PropOf K C m r f ∧ Binds K fd ps []
structure InitIn (K : PySem.W.Frag) (mg : Str → Option Value) (C : Addr) (cn q : Str) (st : Stmt) (ps : List Str) : Prop where
  ex : ∃ (f : Addr) (fd : FuncData), Fun K "__init__" q st f fd ∧ Mk K C f ∧ mg cn = some (.ref C) ∧ Binds K fd ps []
structure MetC (P : Program) (w : World) (K : PySem.W.Frag) (mg : Str → Option Value) (base : Heap) (k : Nat) (C : Addr) (m : Str) (sp : Sp) : Prop where
  ex : ∃ (f : Addr) (fd : FuncData) (ps : List Str), Cls K C ∧ Meth K C m f ∧ FnOk P w K mg base CX0 k f fd ps sp ∧ Binds K fd ps []
structure PropC (P : Program) (w : World) (K : PySem.W.Frag) (mg : Str → Option Value) (base : Heap) (k : Nat) (C : Addr) (m : Str) (sp : Sp) : Prop where
  ex : ∃ (q f : Addr) (fd : FuncData) (ps : List Str), Cls K C ∧ PropOf K C m q f ∧ FnOk P w K mg base CX0 k f fd ps sp ∧ Binds K fd ps []
structure MakC (P : Program) (w : World) (K : PySem.W.Frag) (mg : Str → Option Value) (base : Heap) (k : Nat) (cn : Str) (C : Addr) (sp : Sp) : Prop where
  ex : ∃ (f : Addr) (fd : FuncData) (ps : List Str), Mk K C f ∧ FnOk P w K mg base CX0 k f fd ps sp ∧ mg cn = some (.ref C) ∧ Binds K fd ps []
abbrev Body (P : Program) (w : World) (K : PySem.W.Frag) (mg : Str → Option Value) (base : Heap) (x : Str) (st : Stmt) (N : List Str) (k : Nat) (sp : Sp) : Prop :=
  ∀ (f : Addr) (cdv : Value) (A : Around) (outer : List Env) (s : Shared) (H : Hp) (vs : List V) (Q : VK) (E : XK), Room k (A.deeper (envOfC x (defScope st) s.heap.objs.size f cdv)) → sp vs H Q E →
    ∃ t, PSs (cxOf CX0 P w K mg base N x (defScope st) f cdv A outer s H E).nox (defBody st) t ∧ t { nx := fun _ H' => Q .non H', rt := Q } (start N vs) H
theorem MethIn.ok {C : Addr} {q m : Str} {st : Stmt} {N ps : List Str} {k : Nat} {sp : Sp} (D : MethIn K C q m st ps) (c : Cls K C) (S : FnScope N ps (defScope st)) (len : ∀ vs H Q E, sp vs H Q E → vs.length = ps.length)
    (hbody : Body P w K mg base q st N k sp) : MetC P w K mg base (k + 1) C m sp := by
  obtain ⟨f, fd, F, me, b⟩ := D.ex
  exact ⟨f, fd, ps, c, me, F.ok S len (fun cdv A outer s H vs Q E hr h => hbody f cdv A outer s H vs Q E hr h), b⟩
theorem PropIn.ok {C : Addr} {q m : Str} {st : Stmt} {N ps : List Str} {k : Nat} {sp : Sp} (D : PropIn K C q m st ps) (c : Cls K C) (S : FnScope N ps (defScope st)) (len : ∀ vs H Q E, sp vs H Q E → vs.length = ps.length)
    (hbody : Body P w K mg base q st N k sp) : PropC P w K mg base (k + 1) C m sp := by
  obtain ⟨r, f, fd, F, me, b⟩ := D.ex
  exact ⟨r, f, fd, ps, c, me, F.ok S len (fun cdv A outer s H vs Q E hr h => hbody f cdv A outer s H vs Q E hr h), b⟩
theorem InitIn.ok {C : Addr} {cn q : Str} {st : Stmt} {N ps : List Str} {k : Nat} {sp : Sp} (D : InitIn K mg C cn q st ps) (S : FnScope N ps (defScope st)) (len : ∀ vs H Q E, sp vs H Q E → vs.length = ps.length)
    (hbody : Body P w K mg base q st N k sp) : MakC P w K mg base (k + 1) cn C sp := by
  obtain ⟨f, fd, F, me, hm, b⟩ := D.ex
  exact ⟨f, fd, ps, me, F.ok S len (fun cdv A outer s H vs Q E hr h => hbody f cdv A outer s H vs Q E hr h), hm, b⟩
end
section
variable {X : Cx} {k j : Nat} {C : Addr} {x m : Str} {sp : Sp} {p pos apos : Pos} {e o : Expr} {es : List Expr} {ta : TE} {t : TA}
theorem vx_call0 (c : Cal X.prog X.w X.K X.mg X.base k x sp) (hr : Room j X.A) (hk : k ≤ j) (hg : Gl X x) (hdb : (x == ("__debug__" : Str)) = false := by decide) : PE X (.Call (.Name x p) [] [] pos) (tCall sp [] E0 tNil) := by
  obtain ⟨f, fd, ps, F, hm, kp, b⟩ := c.ex
  exact pe_call0 F (hr.mono hk) hg hm kp b .nil pass0 hdb
theorem vx_make (c : MakC X.prog X.w X.K X.mg X.base k x C sp) (hr : Room j X.A) (hk : k + 1 ≤ j) (hg : Gl X x) (ha : PA X (e :: es) t)
    (hdb : (x == ("__debug__" : Str)) = false := by decide) (he : starEach (e :: es) X.env = (false, eval e X.env) :: starEach es X.env := by rfl) (hpl : (backTo pos (starEach es X.env)).any (·.1) = false := by rfl) :
    PE X (.Call (.Name x p) (e :: es) [] pos) (tMake C sp [] E0 t) := by
  obtain ⟨f, fd, ps, M, F, hm, b⟩ := c.ex
  exact pe_make M F (hr.mono hk) hg hm b .nil pass0 ha hdb he hpl
theorem vx_make0 (c : MakC X.prog X.w X.K X.mg X.base k x C sp) (hr : Room j X.A) (hk : k + 1 ≤ j) (hg : Gl X x) (hdb : (x == ("__debug__" : Str)) = false := by decide) :
    PE X (.Call (.Name x p) [] [] pos) (tMake C sp [] E0 tNil) := by
  obtain ⟨f, fd, ps, M, F, hm, b⟩ := c.ex
  exact pe_make0 M F (hr.mono hk) hg hm b .nil pass0 hdb
theorem vx_meth {pl : Sem Bool} (c : MetC X.prog X.w X.K X.mg X.base k C m sp) (hr : Room j X.A) (hk : k ≤ j) (he : PE X o ta) (ha : PA X (e :: es) t)
    (hst : starEach (e :: es) X.env = (false, eval e X.env) :: starEach es X.env := by rfl) (hpl : (backTo pos (starEach es X.env)).any (·.1) = false := by rfl)
    (ht : eval (.Call (.Attribute o m apos) (e :: es) [] pos) X.env = (do
      let ov ← eval o X.env
      standAt apos.atName
      let (f, first) ← holding [ov] (getMethod ov m pl)
      callWith pos f first (backTo pos (starEach (e :: es) X.env)) (backToKw pos (keywordEach [] X.env))) := by rfl) :
    PE X (.Call (.Attribute o m apos) (e :: es) [] pos) (tMeth C m sp [] E0 ta t) := by
  obtain ⟨f, fd, ps, hc, hm, F, b⟩ := c.ex
  exact pe_meth he hc hm F (hr.mono hk) b .nil pass0 ha hst hpl ht
theorem vx_meth0 {pl : Sem Bool} (c : MetC X.prog X.w X.K X.mg X.base k C m sp) (hr : Room j X.A) (hk : k ≤ j) (he : PE X o ta)
    (ht : eval (.Call (.Attribute o m apos) [] [] pos) X.env = (do
      let ov ← eval o X.env
      standAt apos.atName
      let (f, first) ← holding [ov] (getMethod ov m pl)
      callWith pos f first (backTo pos (starEach [] X.env)) (backToKw pos (keywordEach [] X.env))) := by rfl) :
    PE X (.Call (.Attribute o m apos) [] [] pos) (tMeth C m sp [] E0 ta tNil) := by
  obtain ⟨f, fd, ps, hc, hm, F, b⟩ := c.ex
  exact pe_meth0 he hc hm F (hr.mono hk) b .nil pass0 ht
theorem vx_prop (c : PropC X.prog X.w X.K X.mg X.base k C m sp) (hr : Room j X.A) (hk : k + 1 ≤ j) (he : PE X o ta) (hab : attributeBase o m X.env (eval o X.env) = eval o X.env) : PE X (.Attribute o m pos) (tProp C sp [] E0 ta) := by
  obtain ⟨q, f, fd, ps, hc, hp, F, b⟩ := c.ex
  exact pe_prop he hc hp F (hr.mono hk) b .nil pass0 hab
end
theorem iteBNT {b : Bool} {A B : Prop} (h : b = false) (k : A) : if (!b) = true then A else B := by rw [h]; exact iteT k
theorem iteNN {b : Bool} {A B : Prop} (h : if b = true then A else B) : if (!!b) = true then A else B := by rw [Bool.not_not]; exact h
theorem iteBNF {b : Bool} {A B : Prop} (h : b = true) (k : B) : if (!b) = true then A else B := by rw [h]; exact iteF k
theorem shl_side {i j : Int} (h0 : 0 ≤ j) (h1 : j ≤ 4096) (h2 : -(2 ^ 4096) < i) (h3 : i < 2 ^ 4096) : CShl i j := by
  obtain ⟨k, rfl⟩ := Int.eq_ofNat_of_zero_le h0
  exact shl_ok (n := 4096) (by omega) (by omega)
end Vx

namespace Vx
open PySem PySem.Spec PyProof.Rows L2
section
variable {X : Cx} {K : PySem.W.Frag}
theorem fldK {e : Expr} {f : Str} {pos : Pos} {ta : TE} (he : PE X e ta) (hb : attributeBase e f X.env (eval e X.env) = eval e X.env := by rfl) (hK : X.K = K := by rfl) : PE X (.Attribute e f pos) (tFld K ta f) := hK ▸ pe_fld he hb
theorem pg_tupK {es : List Expr} {k : Nat} {t : TGs} {n : Nat} {pos : Pos} (h : PGs X es t) (hc : X.calm = true := by rfl)
    (hn : (assignEach es X.env).length = n := by rfl) (hst : (assignEach es X.env).findIdx? (·.1) = none := by rfl) (hK : X.K = K := by rfl) : PG X (.Tuple es k pos) (gTup K n t) := hK ▸ pg_tup hc h hn hst
end
end Vx

namespace Vx
open PySem PySem.Spec PyProof.Rows L2
section
variable {α β : Type} {f : α → PyData} {g : β → PyData} {fv : α → V} {gv : β → V} {G : Hp} {vs ws : List V} {xs : List α} {ys : List β}
theorem big1 {n : Nat} (h : n ≤ 1000000) : n ≤ sizeLine := smallE h
theorem cat_len (a : RpAll G vs (xs.map f)) (b : RpAll G ws (ys.map g)) (h : xs.length + ys.length ≤ 1000000) : vs.length + ws.length ≤ sizeLine := by
  rw [a.len, b.len, List.length_map, List.length_map]; exact smallE h
theorem cat_lenM (h : xs.length + ys.length ≤ 1000000) : (xs.map fv).length + (ys.map gv).length ≤ sizeLine := by
  rw [List.length_map, List.length_map]; exact smallE h
theorem rep_len {k : Nat} (a : RpAll G vs (xs.map f)) (h : xs.length * k ≤ 1000000) : vs.length * k ≤ sizeLine := by
  rw [a.len, List.length_map]; exact smallE h
theorem rep_lenM {k : Nat} (h : xs.length * k ≤ 1000000) : (xs.map fv).length * k ≤ sizeLine := by
  rw [List.length_map]; exact smallE h
theorem app_len (a : RpAll G vs (xs.map f)) (h : xs.length ≤ 1000000) : vs.length < sizeLine := by
  rw [a.len, List.length_map]; exact small h
theorem app_lenM (h : xs.length ≤ 1000000) : (xs.map fv).length < sizeLine := by
  rw [List.length_map]; exact small h
theorem cutL_len {α : Type} (xs : List α) (lo hi : Option Int) : (cutL xs lo hi).length ≤ xs.length := by
  unfold cutL
  rw [List.length_take, List.length_drop]
  omega
theorem repL_len {α : Type} (xs : List α) (k : Int) : (repL xs k).length = k.toNat * xs.length := by
  unfold repL
  simp
end
end Vx
/-! # promises of defs that know that nothing is being shown (so that repr may be called) -/
namespace Vx
open PySem PySem.Spec PyProof.Rows L2
structure RoomG (k : Nat) (A : Around) : Prop extends Room k A where
  gd : A.guards = some []
theorem RoomG.low {j k : Nat} {A : Around} (r : RoomG k A) (h : j ≤ k) : RoomG j A := ⟨r.toRoom.mono h, r.gd⟩
theorem RoomG.one {k : Nat} {A : Around} (r : RoomG (k + 1) A) : RoomG k A.in1 := ⟨r.toRoom.in1, r.gd⟩
theorem make_gd {A : Around} (C : Addr) (us : List Value) (kw : List (Str × Value)) (h : A.guards = some []) : (A.under (.builtin "type.__call__" ⟨.ref C :: us, kw⟩)).guards = some [] := by
  obtain ⟨hd, d, fr, gs, u⟩ := A
  subst h
  simp [Around.under, Code.guards, Code.isGuard, guardIds, pushGuards]
theorem RoomG.made {k : Nat} {A : Around} (r : RoomG (k + 1) A) (C : Addr) (us : List Value) (kw : List (Str × Value)) : RoomG k (A.under (.builtin "type.__call__" ⟨.ref C :: us, kw⟩)) := ⟨r.toRoom.make C us kw, make_gd C us kw r.gd⟩
structure FnG (P : Program) (w : World) (K : PySem.W.Frag) (mg : Str → Option Value) (base : Heap) (cx : CXT) (k : Nat) (f : Addr) (fd : FuncData) (ps : List Str) (sp : Sp) : Prop where
  len : ∀ vs H Q E, sp vs H Q E → vs.length = ps.length
  run : ∀ (A : Around) (outer : List Env) (s : Shared) (H : Hp) (args : Args) (us : List Value) (vs : List V) (Q : VK) (E : XK), RoomG k A → Env0 P w K mg base A outer s H → BindsTo s fd args (ps.zip us) → Vals vs us → sp vs H Q E → codeAny (model P w) A (.call (.ref f) args) (CR cx outer P w H s Q E) s
section
variable {P : Program} {w : World} {K : PySem.W.Frag} {mg : Str → Option Value} {base : Heap} {cx : CXT} {j k : Nat} {f : Addr} {fd : FuncData} {ps : List Str} {sp sp' : Sp}
theorem FnG.imp (F : FnG P w K mg base cx k f fd ps sp) (h : ∀ vs H Q E, sp' vs H Q E → sp vs H Q E) : FnG P w K mg base cx k f fd ps sp' := ⟨fun vs H Q E q => F.len vs H Q E (h vs H Q E q), fun A o s H a us vs Q E r e b v q => F.run A o s H a us vs Q E r e b v (h vs H Q E q)⟩
/-- the body's promise is the def's -/
theorem FnG.body {x qual : Str} {params : Arguments} {body : List Stmt} {scope : Scope} {dvs : List V} {kws : List (Str × V)} {N : List Str} (F : FunD K x qual params body scope dvs kws f fd) (S : FnScope N ps scope) (len : ∀ vs H Q E, sp vs H Q E → vs.length = ps.length)
    (hb : ∀ (cdv : Value) (A : Around) (outer : List Env) (s : Shared) (H : Hp) (vs : List V) (Q : VK) (E : XK), RoomG k (A.deeper (envOfC qual scope s.heap.objs.size f cdv)) → sp vs H Q E →
      ∃ t, PSs (cxOf cx P w K mg base N qual scope f cdv A outer s H E) body t ∧ t { nx := fun _ H' => Q .non H', rt := Q } (start N vs) H) : FnG P w K mg base cx (k + 1) f fd ps sp := by
  obtain ⟨oc, od, dV, kV, doc, pm, an, cdv, ct, osl, rfl, lk, code, _, _⟩ := F.ex
  constructor
  · exact len
  · intro A outer s H args us vs Q E room env binds vals prom
    have nvs := len vs H Q E prom
    have kin : K.In s.heap := env.mod.kin.keeps fun b o q => (env.bs b o q).1
    have nolim : s.heap.NoLimit := env.mod.nolimit.keeps fun b o q => (env.bs b o q).1
    have kinds : ∀ q ∈ ps.zip us, scope.names.lookup q.1 = some .local ∨ (scope.names.lookup q.1 = some .cell ∧ ((cellsFrom (s.heap.objs.size + 1) scope.names []).lookup q.1).isSome = true) := by
      rintro ⟨n, v⟩ hq
      cases S.par n (List.of_mem_zip hq).1 with
      | inl z => exact .inl z
      | inr z => exact .inr ⟨z, PySem.W.cellsFrom_some _ _ _ (.inl z)⟩
    refine codeAny_call_function room.toRoom.depth (kin _ _ lk) rfl S.co S.gen rfl (PySem.W.codeRec_of kin code) (binds _ _ _ _ ?_)
    refine wpAny_newFunctionEnv_cells S.kind kinds ?_
    rintro _ rfl s1 made
    refine ⟨nolim.keeps made.toInCall.keep, codeAny_func ?_⟩
    obtain ⟨t, pss, start_⟩ := hb cdv A outer s H vs Q E ⟨room.toRoom.deeper _, room.gd⟩ prom
    have inv := inv_start (CX := cx) (E := E) S room.hd env nvs vals made
    have close : ∀ {τ : L2.St} {H2 : Hp} {v : V} {u : Value} {s2 : Shared}, Inv (cxOf cx P w K mg base N qual scope f cdv A outer s H E) [] τ H2 s2 → RelV v u → Q v H2 → CE outer P w H s Q u s2 := fun inv2 rel q => ⟨_, _, inv2.os, inv2.bare, inv2.base, inv2.hok, rel, q⟩
    refine wpAny_mono (pss.run [] s1 (start N vs) H _ inv start_) ?_ fun _ _ z => z
    intro flow s2 out
    cases flow with
    | next =>
      obtain ⟨τ, H2, inv2, q⟩ := out
      exact close (v := .non) (u := .none) inv2 rfl q
    | ret u =>
      obtain ⟨v, τ, H2, inv2, rel, q⟩ := out
      exact close inv2 rel q
    | brk =>
      obtain ⟨_, _, _, q⟩ := out
      exact q.elim
    | cont =>
      obtain ⟨_, _, _, q⟩ := out
      exact q.elim
/-- the same of a body that nothing leaves -/
theorem FnG.bodyN {x qual : Str} {params : Arguments} {body : List Stmt} {scope : Scope} {dvs : List V} {kws : List (Str × V)} {N : List Str} (F : FunD K x qual params body scope dvs kws f fd) (S : FnScope N ps scope) (len : ∀ vs H Q E, sp vs H Q E → vs.length = ps.length)
    (hb : ∀ (cdv : Value) (A : Around) (outer : List Env) (s : Shared) (H : Hp) (vs : List V) (Q : VK) (E : XK), RoomG k (A.deeper (envOfC qual scope s.heap.objs.size f cdv)) → sp vs H Q E →
      ∃ t, PSs (cxOf CX0 P w K mg base N qual scope f cdv A outer s H E).nox body t ∧ t { nx := fun _ H' => Q .non H', rt := Q } (start N vs) H) : FnG P w K mg base CX0 (k + 1) f fd ps sp :=
  FnG.body F S len fun cdv A outer s H vs Q E r p => by
    obtain ⟨t, h, q⟩ := hb cdv A outer s H vs Q E r p
    exact ⟨t, h.nox, q⟩
end
/-- where a law's call begins: an abstract heap that tells the script at most -/
theorem law_start {P : Program} {w : World} {K : PySem.W.Frag} {mg mb : Str → Option Value} {a : Addr} {s : Shared} {vs : List Value} {ns : List Int} (kin : K.In s.heap) (top : s.heap.Ns mainGlobals mg) (blt : s.heap.Ns builtinsNs mb) (boot : ∀ y : Str, y ≠ "__name__" → mb y = bootBuiltins y)
    (lim : s.heap.NoLimit) (gens : s.gens = #[]) (script : s.heap.get? a = some { cls := .type "list", data := .seq vs.toArray }) (whole : IntsAre vs ns) (short : ns.length ≤ sizeLine) :
    ∃ (H : Hp) (base : Heap), SqL K H a (ns.map V.int) ∧ K.In base ∧ base.Ns mainGlobals mg ∧ Env0 P w K mg base callerA [] s H ∧
      ∀ (Z : V → Prop) (u : Value) (s2 : Shared), CE [] P w H s (fun v _ => Z v) u s2 → (∃ v, RelV v u ∧ Z v) ∧ OldK s.heap s2.heap ∧ s2.os = s.os ∧ AllBare s2.gens := by
  have rel := vals_ints whole
  have lenV := whole.length
  -- any H that tells no more than the script, and that only where the written part does not hold it, will do
  have fits : ∀ H : Hp, (∀ b, H b = none ∨ ∃ o xs, H b = some (.frz o (.lst xs))) → SqL K H a (ns.map V.int) → HOk P w H s.heap → (∀ b, b ≠ a → H b = none) → (∀ o, K.lookup a = some o → H a = none) →
      ∃ (H : Hp) (base : Heap), SqL K H a (ns.map V.int) ∧ K.In base ∧ base.Ns mainGlobals mg ∧ Env0 P w K mg base callerA [] s H ∧
        ∀ (Z : V → Prop) (u : Value) (s2 : Shared), CE [] P w H s (fun v _ => Z v) u s2 → (∃ v, RelV v u ∧ Z v) ∧ OldK s.heap s2.heap ∧ s2.os = s.os ∧ AllBare s2.gens := by
    intro H only seq ok else_ apart
    have dictFree : ∀ (b : Addr) (o : Obj) (es : Array DictEntry) (n : Nat), s.heap.get? b = some o → o.data = .dict es n → H b = none := by
      intro b o es n e d
      by_cases z : b = a
      · subst z
        rw [script] at e
        injection e with e
        subst e
        cases d
      · exact else_ b z
    have nsOf : ∀ {b : Addr} {m : Str → Option Value}, s.heap.Ns b m → (hidT s.heap H).Ns b m := by
      rintro b m ⟨o, es, n, e, d, r⟩
      exact ⟨o, es, n, hidT_get e (dictFree b o es n e d), d, r⟩
    have kinB : K.In (hidT s.heap H) := by
      intro b o e
      refine hidT_get (kin b o e) ?_
      by_cases z : b = a
      · subst z
        exact apart o e
      · exact else_ b z
    obtain ⟨mc, lim1, lim2⟩ := lim
    refine ⟨H, hidT s.heap H, seq, kinB, nsOf top, ⟨rfl, ⟨kinB, nsOf top, ⟨mb, nsOf blt, boot⟩, mc, nsOf lim1, lim2⟩, fun b o e => of_hidT e, Nat.le_of_eq (hidT_size _ _), trivial, fun b hb => (nomatch (show b ∈ ([] : List Addr) from hb)), ok, .of_eq gens⟩, ?_⟩
    rintro Z u s2 ⟨v, H2, os, bare, un, ok2, r, z⟩
    refine ⟨⟨v, r, z⟩, OldK.of_keep fun b o e => ?_, os, bare⟩
    rcases only b with n | ⟨o1, xs, n⟩
    · exact un.keep b o e n (fun y => nomatch (show b ∈ ([] : List Addr) from y)) (fun y => nomatch y)
    · obtain ⟨e1, _⟩ := ok b _ n
      obtain ⟨e2, _⟩ := ok2 b _ (un.frzs b o1 _ n)
      rw [e] at e1
      injection e1 with e1
      subst e1
      exact e2
  cases kl : K.lookup a with
  | some o =>
    have e := kin a o kl
    rw [script] at e
    injection e with e
    subst e
    exact fits (fun _ => none) (fun _ => .inl rfl) (.inr ⟨_, vs.toArray, _, kl, rfl, rfl, rfl, by rw [List.size_toArray, lenV]; exact short, by simpa using rel⟩) (fun _ _ z => nomatch z) (fun _ _ => rfl) fun _ _ => rfl
  | none =>
    refine fits (fun b => if b = a then some (.frz { cls := .type "list", data := .seq vs.toArray } (.lst (ns.map V.int))) else none) ?_ (.inl (.inr ⟨_, if_pos rfl⟩)) ?_ (fun b n => if_neg n) fun o z => ?_
    · intro b
      by_cases z : b = a
      · exact .inr ⟨_, _, if_pos z⟩
      · exact .inl (if_neg z)
    · intro b u q
      by_cases z : b = a
      · subst z
        have q := (if_pos rfl).symm.trans q
        injection q with q
        subst q
        exact ⟨script, by rw [List.length_map]; exact short, vs, _, rel, script⟩
      · have q := (if_neg z).symm.trans q
        cases q
    · rw [kl] at z
      cases z
/-- the goal that the head leaves, from the law's promise; the script's numbers have at most 2 ^ 20 bits -/
theorem walkG {l : PySem.W.OpenLaw} {n k : Nat} {q : Program} {loose : List Str} {XP : (Str → Option Value) → Heap → Prop} {YP : World → Heap → Prop} {d : DefRec} {K : Params → PySem.W.Frag} {x : Str} (hn : l.most = some n) (hn2 : n ≤ sizeLine) (hdf : d.params.defaults = []) (room : Room k callerA)
    (hY : ∀ (w : World) (h : Heap), YP w h → (K w.params).In h)
    (F : ∀ (w : World) (mg : Str → Option Value) (fa : Addr) (h : Heap), (K w.params).In h → h.Ns mainGlobals mg → mg d.name = some (.ref fa) →
      ∃ fd : FuncData, (∀ (s : Shared) (u : Value), BindsTo s fd ⟨[u], []⟩ [(x, u)]) ∧ ∀ base : Heap, (K w.params).In base → base.Ns mainGlobals mg → FnG l.prog w (K w.params) mg base CX0 k fa fd [x] (fun vs H Q _ => ∃ (a : Addr) (ns : List Int), vs = [.ref a] ∧ SqL (K w.params) H a (ns.map V.int) ∧ ns.length ≤ n ∧ ∀ H', Q (.bl true) H')) :
    PySem.W.WalkO q loose XP YP l.row.toRowW d [] (fun f vs => PySem.call f vs) := by
  refine Att.attach_call hn hdf ?_
  intro w s₀ s₁ mg mb fa o pm cd doc a vs ns G Y _ _ _ hmg script whole short gens
  have kin := hY w _ Y
  obtain ⟨fd, bind, prom⟩ := F w mg fa _ kin G.T.g hmg
  obtain ⟨H, base, seq, kinB, nsB, env, fin⟩ := law_start (P := l.prog) (w := w) kin G.T.g G.T.b G.T.builtins G.T.nolimit gens script whole (Nat.le_trans short hn2)
  refine codeAny_mono ((prom base kinB nsB).run callerA [] s₁ H ⟨[.ref a], []⟩ [.ref a] [.ref a] (fun v _ => v = .bl true) (fun _ _ _ => False) ⟨room, rfl⟩ env (bind s₁ (.ref a)) (.cons rfl .nil) ⟨a, ns, rfl, seq, short, fun _ => rfl⟩) ?_
  intro r s2 out
  cases r with
  | error e => exact out.elim
  | ok flow =>
    cases flow with
    | ret u =>
      obtain ⟨⟨v, rv, z⟩, h1, h2, h3⟩ := fin (fun v => v = .bl true) u s2 out
      subst z
      obtain rfl : u = Value.bool true := rv
      exact ⟨rfl, h1, h2, h3⟩
    | next => exact out.elim
    | brk => exact out.elim
    | cont => exact out.elim
end Vx
/-! # third part: what a def computes, as a plain function with refusals -/
namespace Vx
open PySem PySem.Spec PyProof.Rows L2
inductive Rx (α : Type) where
  | ok (a : α)
  | er (e : Nat)
  | bad
def Rx.bind {α β : Type} (m : Rx α) (f : α → Rx β) : Rx β :=
  match m with
  | .ok a => f a
  | .er e => .er e
  | .bad => .bad
/-- what is wanted of an outcome -/
@[irreducible] def cW {α : Type} (m : Rx α) (K : α → Prop) (E : Nat → Prop) : Prop :=
  match m with
  | .ok a => K a
  | .er e => E e
  | .bad => False
def grd {α : Type} (p : Prop) [Decidable p] (m : Rx α) : Rx α := if p then m else .bad
/-- within a comprehension nothing may be raised -/
def noEr {α : Type} (m : Rx α) : Rx α :=
  match m with
  | .ok a => .ok a
  | _ => .bad
/-- what the clause does not name may not come -/
def tryR {α β : Type} (m : Rx α) (cs : List Nat) (f : α → Rx β) (h : Nat → Rx β) : Rx β :=
  match m with
  | .ok a => f a
  | .er e => if e ∈ cs then h e else .bad
  | .bad => .bad
def bnd {α β : Type} (a : α) (f : α → Rx β) : Rx β := f a
inductive Lp (σ ρ : Type) where
  | go (s : σ)
  | bk (s : σ)
  | rt (r : ρ)
def Lp.aft {σ ρ τ : Type} (l : Lp σ ρ) (kr : ρ → Rx τ) (k : σ → Rx τ) : Rx τ :=
  match l with
  | .go s => k s
  | .bk s => k s
  | .rt r => kr r
def forS {σ α : Type} : List α → σ → (σ → α → Rx σ) → Rx σ
  | [], s, _ => .ok s
  | x :: r, s, f => (f s x).bind fun s' => forS r s' f
def forR {σ α ρ : Type} : List α → σ → (σ → α → Rx (Lp σ ρ)) → Rx (Lp σ ρ)
  | [], s, _ => .ok (.go s)
  | x :: r, s, f => (f s x).bind fun l =>
    match l with
    | .go s' => forR r s' f
    | .bk s' => .ok (.go s')
    | .rt v => .ok (.rt v)
def whileR {σ ρ : Type} : Nat → σ → (σ → Rx (Lp σ ρ)) → Rx (Lp σ ρ)
  | 0, _, _ => .bad
  | n + 1, s, f => (f s).bind fun l =>
    match l with
    | .go s' => whileR n s' f
    | .bk s' => .ok (.go s')
    | .rt v => .ok (.rt v)
def mapA {α β : Type} : List α → List β → (α → Rx β) → Rx (List β)
  | [], acc, _ => .ok acc
  | x :: r, acc, f => grd (acc.length ≤ 1000000) ((f x).bind fun y => mapA r (acc ++ [y]) f)
def mapF {α β : Type} : List α → List β → (α → Rx (Option β)) → Rx (List β)
  | [], acc, _ => .ok acc
  | x :: r, acc, f => grd (acc.length ≤ 1000000) ((f x).bind fun y =>
    match y with
    | some z => mapF r (acc ++ [z]) f
    | none => mapF r acc f)
section
variable {α β γ σ ρ τ : Type} {K : α → Prop} {E : Nat → Prop}
theorem cW_ok {a : α} (h : cW (.ok a) K E) : K a := by
  unfold cW at h
  exact h
theorem cW_er {e : Nat} (h : cW (.er e : Rx α) K E) : E e := by
  unfold cW at h
  exact h
theorem cW_bad {C : Prop} (h : cW (.bad : Rx α) K E) : C := by
  unfold cW at h
  exact h.elim
theorem cW_mk {a : α} (h : K a) : cW (.ok a) K E := by
  unfold cW
  exact h
theorem cW_mkE {e : Nat} (h : E e) : cW (.er e : Rx α) K E := by
  unfold cW
  exact h
theorem cW_gen {m : Rx α} (h : cW m K E) : ∃ (K' : α → Prop) (E' : Nat → Prop), (∀ v, K' v → K v) ∧ (∀ e, E' e → E e) ∧ cW m K' E' := ⟨K, E, fun _ x => x, fun _ x => x, h⟩
theorem cW_grd {p : Prop} {dp : Decidable p} {m : Rx α} (h : cW (grd p m) K E) : p ∧ cW m K E := by
  unfold grd at h
  split at h
  · exact ⟨‹p›, h⟩
  · exact cW_bad h
theorem cW_pos {p : Prop} {dp : Decidable p} {a b : Rx α} (c : p) (h : cW (if p then a else b) K E) : cW a K E := by rwa [if_pos c] at h
theorem cW_neg {p : Prop} {dp : Decidable p} {a b : Rx α} (c : ¬ p) (h : cW (if p then a else b) K E) : cW b K E := by rwa [if_neg c] at h
theorem cW_call {m : Rx β} {f : β → Rx α} {K2 : β → Prop} {E2 : Nat → Prop} (h : cW (m.bind f) K E) (ho : ∀ v, cW (f v) K E → K2 v) (he : ∀ e, E e → E2 e) : cW m K2 E2 := by
  cases m with
  | ok a => exact cW_mk (ho a h)
  | er e => exact cW_mkE (he e (cW_er (α := α) h))
  | bad => exact cW_bad (α := α) h
theorem cW_push {m : Rx β} {f : β → Rx α} (h : cW (m.bind f) K E) : ∃ K2 : β → Prop, (∀ v, K2 v → cW (f v) K E) ∧ cW m K2 E := ⟨fun v => cW (f v) K E, fun _ x => x, cW_call h (fun _ x => x) fun _ x => x⟩
theorem cW_name {m : Rx α} (h : cW m K E) : ∃ K' : α → Prop, (∀ v, K' v → K v) ∧ cW m K' E := ⟨K, fun _ x => x, h⟩
theorem cW_noEr {m : Rx α} (h : cW (noEr m) K E) : cW m K (fun _ => False) := by
  cases m with
  | ok a => exact cW_mk (cW_ok (α := α) h)
  | er e => exact cW_bad (α := α) h
  | bad => exact cW_bad (α := α) h
theorem cW_try {m : Rx β} {cs : List Nat} {f : β → Rx α} {g : Nat → Rx α} {K2 : β → Prop} {E2 : Nat → Prop} (h : cW (tryR m cs f g) K E) (ho : ∀ v, cW (f v) K E → K2 v) (hc : ∀ e, e ∈ cs → cW (g e) K E → E2 e) : cW m K2 E2 := by
  cases m with
  | ok a => exact cW_mk (ho a h)
  | er e =>
    have h2 : cW (if e ∈ cs then g e else .bad) K E := h
    by_cases q : e ∈ cs
    · exact cW_mkE (hc e q (cW_pos q h2))
    · exact cW_bad (cW_neg q h2)
  | bad => exact cW_bad (α := α) h
theorem cW_bnd {a : β} {f : β → Rx α} (h : cW (bnd a f) K E) : cW (f a) K E := h
theorem cW_negB {b : Bool} {x y : Rx α} (c : b = false) (h : cW (if b = true then x else y) K E) : cW y K E := cW_neg (by rw [c]; decide) h
theorem cW_forS {xs : List β} {i : Nat} {x : β} {s : α} {f : α → β → Rx α} (hx : xs[i]? = some x) (h : cW (forS (xs.drop i) s f) K E) : cW (f s x) (fun s' => cW (forS (xs.drop (i + 1)) s' f) K E) E := by
  rw [List.drop_eq_getElem?_toList_append, hx] at h
  exact cW_call h (fun _ z => z) fun _ z => z
theorem cW_forS0 {xs : List β} {n : Nat} {s : α} {f : α → β → Rx α} (hn : n = xs.length) (h : cW (forS (xs.drop n) s f) K E) : K s := by
  subst hn
  rw [List.drop_length] at h
  exact cW_ok h
theorem cW_forR {K : Lp σ ρ → Prop} {xs : List β} {i : Nat} {x : β} {s : σ} {f : σ → β → Rx (Lp σ ρ)} (hx : xs[i]? = some x) (h : cW (forR (xs.drop i) s f) K E) :
    cW (f s x) (fun l => match l with | .go s' => cW (forR (xs.drop (i + 1)) s' f) K E | .bk s' => K (.go s') | .rt v => K (.rt v)) E := by
  rw [List.drop_eq_getElem?_toList_append, hx] at h
  refine cW_call h (fun l z => ?_) fun _ z => z
  cases l with
  | go s' => exact z
  | bk s' => exact cW_ok (K := K) (a := .go s') z
  | rt v => exact cW_ok (K := K) (a := .rt v) z
theorem cW_forR0 {K : Lp σ ρ → Prop} {xs : List β} {n : Nat} {s : σ} {f : σ → β → Rx (Lp σ ρ)} (hn : n = xs.length) (h : cW (forR (xs.drop n) s f) K E) : K (.go s) := by
  subst hn
  rw [List.drop_length] at h
  exact cW_ok h
theorem cW_whileR {K : Lp σ ρ → Prop} {m : Nat} {s : σ} {f : σ → Rx (Lp σ ρ)} (h : cW (whileR m s f) K E) :
    ∃ n, m = n + 1 ∧ cW (f s) (fun l => match l with | .go s' => cW (whileR n s' f) K E | .bk s' => K (.go s') | .rt v => K (.rt v)) E := by
  cases m with
  | zero => exact cW_bad h
  | succ n =>
    refine ⟨n, rfl, cW_call h (fun l z => ?_) fun _ z => z⟩
    cases l with
    | go s' => exact z
    | bk s' => exact cW_ok (K := K) (a := .go s') z
    | rt v => exact cW_ok (K := K) (a := .rt v) z
theorem cW_mapA {K : List α → Prop} {xs : List β} {acc : List α} {i : Nat} {x : β} {f : β → Rx α} (hx : xs[i]? = some x) (h : cW (mapA (xs.drop i) acc f) K E) :
    acc.length ≤ 1000000 ∧ cW (f x) (fun y => cW (mapA (xs.drop (i + 1)) (acc ++ [y]) f) K E) E := by
  rw [List.drop_eq_getElem?_toList_append, hx] at h
  obtain ⟨z, h⟩ := cW_grd h
  exact ⟨z, cW_call h (fun _ z => z) fun _ z => z⟩
theorem cW_mapA0 {K : List α → Prop} {xs : List β} {acc : List α} {n : Nat} {f : β → Rx α} (hn : n = xs.length) (h : cW (mapA (xs.drop n) acc f) K E) : K acc := by
  subst hn
  rw [List.drop_length] at h
  exact cW_ok h
theorem cW_mapF {K : List α → Prop} {xs : List β} {acc : List α} {i : Nat} {x : β} {f : β → Rx (Option α)} (hx : xs[i]? = some x) (h : cW (mapF (xs.drop i) acc f) K E) :
    acc.length ≤ 1000000 ∧ cW (f x) (fun y => match y with | some z => cW (mapF (xs.drop (i + 1)) (acc ++ [z]) f) K E | none => cW (mapF (xs.drop (i + 1)) acc f) K E) E := by
  rw [List.drop_eq_getElem?_toList_append, hx] at h
  obtain ⟨z, h⟩ := cW_grd h
  refine ⟨z, cW_call h (fun y z => ?_) fun _ z => z⟩
  cases y with
  | none => exact z
  | some w => exact z
theorem cW_mapF0 {K : List α → Prop} {xs : List β} {acc : List α} {n : Nat} {f : β → Rx (Option α)} (hn : n = xs.length) (h : cW (mapF (xs.drop n) acc f) K E) : K acc := by
  subst hn
  rw [List.drop_length] at h
  exact cW_ok h
end
/-- the numbers of a range -/
def rng (lo : Int) (n : Nat) : List Int := (List.range n).map fun (j : Nat) => lo + (j : Int)
theorem rng_get {lo : Int} {n i : Nat} (h : i < n) : (rng lo n)[i]? = some (lo + (i : Int)) := by
  unfold rng
  rw [List.getElem?_map, List.getElem?_range h] <;> rfl
theorem rng_len (lo : Int) (n : Nat) : (rng lo n).length = n := by
  unfold rng
  rw [List.length_map, List.length_range]

def rngD (lo : Int) (n : Nat) : List Int := (List.range n).map fun (j : Nat) => lo + (j : Int) * (-1)
theorem rngD_get {lo : Int} {n i : Nat} (h : i < n) : (rngD lo n)[i]? = some (lo + (i : Int) * (-1)) := by
  unfold rngD
  rw [List.getElem?_map, List.getElem?_range h] <;> rfl
theorem rngD_len (lo : Int) (n : Nat) : (rngD lo n).length = n := by
  unfold rngD
  rw [List.length_map, List.length_range]

/-! ### calls that may raise -/
/-- what a call with n values and keywords ks gives the parameters -/
structure Bnd (K : PySem.W.Frag) (fd : FuncData) (ps : List Str) (n : Nat) (ks : List Str) (g : List V → List V → List V) : Prop where
  to : ∀ (s : Shared) (us ws : List Value) (vs zs : List V), K.In s.heap → vs.length = n → zs.length = ks.length → Vals vs us → Vals zs ws → ∃ vv : List Value, BindsTo s fd ⟨us, ks.zip ws⟩ (ps.zip vv) ∧ Vals (g vs zs) vv
theorem Bnd.of_kbn {K : PySem.W.Frag} {fd : FuncData} {ps ks : List Str} {n : Nat} {g : List Value → List Value → List Value} {gV : List V → List V → List V} (b : KBn K fd ps n ks g gV) : Bnd K fd ps n ks gV :=
  ⟨fun s us ws vs zs X l1 l2 r rz => ⟨g us ws, b.to s us ws X (r.length.symm.trans l1) (rz.length.symm.trans l2), b.rel r rz⟩⟩
theorem Bnd.all {K : PySem.W.Frag} {fd : FuncData} {ps ks : List Str} {n : Nat} {g : List V → List V → List V} (h : ∀ (us ws : List Value) (vs zs : List V), vs.length = n → zs.length = ks.length → Vals vs us → Vals zs ws →
    ∃ vv : List Value, bindArgs fd ⟨us, ks.zip ws⟩ = pure (ps.zip vv) ∧ Vals (g vs zs) vv) : Bnd K fd ps n ks g :=
  ⟨fun s us ws vs zs _ l1 l2 r rz => by
    obtain ⟨vv, e, q⟩ := h us ws vs zs l1 l2 r rz
    exact ⟨vv, BindsTo.of_eq e, q⟩⟩
abbrev Pat := Nat × List Str × (List V → List V → List V)
def Bnd1 (K : PySem.W.Frag) (fd : FuncData) (ps : List Str) (p : Pat) : Prop := Bnd K fd ps p.1 p.2.1 p.2.2
section
variable {P : Program} {w : World} {K : PySem.W.Frag} {mg : Str → Option Value} {base : Heap}
/-- a def of the top, with the ways it is called -/
structure DefX (K : PySem.W.Frag) (mg : Str → Option Value) (x : Str) (st : Stmt) (ps : List Str) (pats : List Pat) : Prop where
  ex : ∃ (f : Addr) (fd : FuncData) (dvs : List V) (kws : List (Str × V)), FunD K x x (defArgs st) (defBody st) (defScope st) dvs kws f fd ∧ mg x = some (.ref f) ∧ ∀ p ∈ pats, Bnd1 K fd ps p
structure CalX (P : Program) (w : World) (K : PySem.W.Frag) (mg : Str → Option Value) (base : Heap) (k : Nat) (x : Str) (sp : Sp) (pats : List Pat) : Prop where
  ex : ∃ (f : Addr) (fd : FuncData) (ps : List Str), FnG P w K mg base (L2.CX P w) k f fd ps sp ∧ mg x = some (.ref f) ∧ PySem.W.keepIn K (.ref f) = true ∧ ∀ p ∈ pats, Bnd1 K fd ps p
abbrev BodyX (P : Program) (w : World) (K : PySem.W.Frag) (mg : Str → Option Value) (base : Heap) (x : Str) (st : Stmt) (N : List Str) (k : Nat) (sp : Sp) : Prop :=
  ∀ (f : Addr) (cdv : Value) (A : Around) (outer : List Env) (s : Shared) (H : Hp) (vs : List V) (Q : VK) (E : XK), RoomG k (A.deeper (envOfC x (defScope st) s.heap.objs.size f cdv)) → sp vs H Q E →
    ∃ t, PSs (cxOf (L2.CX P w) P w K mg base N x (defScope st) f cdv A outer s H E) (defBody st) t ∧ t { nx := fun _ H' => Q .non H', rt := Q } (start N vs) H
theorem DefX.ok {x : Str} {st : Stmt} {N ps : List Str} {pats : List Pat} {k : Nat} {sp : Sp} (D : DefX K mg x st ps pats) (S : FnScope N ps (defScope st)) (len : ∀ vs H Q E, sp vs H Q E → vs.length = ps.length)
    (hbody : BodyX P w K mg base x st N k sp) : CalX P w K mg base (k + 1) x sp pats := by
  obtain ⟨f, fd, dvs, kws, F, hm, b⟩ := D.ex
  exact ⟨f, fd, ps, FnG.body F S len (fun cdv A outer s H vs Q E hr h => hbody f cdv A outer s H vs Q E hr h), hm, F.kp, b⟩
end
section
variable {X : Cx} {k j n : Nat} {f : Addr} {fd : FuncData} {ps ks : List Str} {g : List V → List V → List V} {sp : Sp} {x : Str} {pos p : Pos} {e : Expr} {es : List Expr} {kws : List Keyword} {t tk : TA} {W : WX}
theorem run_X {pins : List (Addr × Obj)} {σ : L2.St} {H : Hp} {s : Shared} {Q : VK} {us ws : List Value} {vs zs : List V} (F : FnG X.prog X.w X.K X.mg X.base (L2.CX X.prog X.w) k f fd ps sp) (hr : RoomG k X.A) (hb : Bnd X.K fd ps n ks g) (tkW : Takes X W)
    (I : Inv X pins σ H s) (r : Vals vs us) (rz : Vals zs ws) (l1 : vs.length = n) (l2 : zs.length = ks.length) (h : sp (g vs zs) H Q (WE W σ)) :
    wpAny (model X.prog X.w) X.A (call (.ref f) us (ks.zip ws)) (EP X pins σ Q) X.xe s := by
  obtain ⟨vv, b, r2⟩ := hb.to s us ws vs zs I.kIn l1 l2 r rz
  refine wpAny_call (codeAny_mono (F.run X.A X.stack s H ⟨us, ks.zip ws⟩ vv (g vs zs) Q (WE W σ) hr I.env0 b r2 h) fun rr s' hq => ?_)
  cases rr with
  | error er => exact passAt tkW σ pins H s er s' I hq
  | ok fl =>
    cases fl with
    | ret u => exact I.after hq
    | next => exact hq.elim
    | brk => exact hq.elim
    | cont => exact hq.elim
/-- f(e, .., k = v, ..) -/
def tCallX (n m : Nat) (sp : Sp) (g : List V → List V → List V) (W : WX) (t tk : TA) : TE := fun σ H Q => t σ H fun vs H1 => tk σ H1 fun zs H2 => vs.length = n ∧ zs.length = m ∧ sp (g vs zs) H2 Q (WE W σ)
theorem vx_callX {pats : List Pat} (c : CalX X.prog X.w X.K X.mg X.base k x sp pats) (pt : Pat) (hpt : pt ∈ pats) (hr : RoomG j X.A) (hk : k ≤ j) (tkW : Takes X W) (hg : Gl X x) (ha : PA X (e :: es) t) (hkw : PK X kws tk)
    (hall : (backToKw pos (keywordEach kws X.env)).all (·.1.isSome) = true := by rfl) (hks : (backToKw pos (keywordEach kws X.env)).filterMap (·.1) = pt.2.1 := by rfl)
    (hdb : (x == ("__debug__" : Str)) = false := by decide) (he : starEach (e :: es) X.env = (false, eval e X.env) :: starEach es X.env := by rfl)
    (hpl : ((backTo pos (starEach (e :: es) X.env)).any (·.1) || (backToKw pos (keywordEach kws X.env)).any (·.1.isNone)) = false := by rfl) :
    PE X (.Call (.Name x p) (e :: es) kws pos) (tCallX pt.1 pt.2.1.length sp pt.2.2 W t tk) := by
  obtain ⟨f, fd, ps, F, hm, kp, b⟩ := c.ex
  refine ⟨fun pins s σ H Q I h => ?_⟩
  refine wpAny_Call_Name_kw (ld_glob I hg hm ?_ hdb)
  refine PySem.W.callWith_KW (h₀ := X.base) I.ok.mod.kin kp hall (thn (ha.run pos pins s σ H _ I h) fun us s1 ⟨vs, H1, I1, r, q⟩ => ?_) hpl he
  refine thn (hkw.run pos pins s1 σ H1 _ I1 q) fun ws s2 ⟨zs, H2, I2, rz, l1, l2, q2⟩ => ⟨I2.kIn, ?_⟩
  rw [hks]
  exact run_X F (hr.low hk) (b pt hpt) tkW I2 r rz l1 l2 q2
theorem vx_callX0 {pats : List Pat} (c : CalX X.prog X.w X.K X.mg X.base k x sp pats) (pt : Pat) (hpt : pt ∈ pats) (hr : RoomG j X.A) (hk : k ≤ j) (tkW : Takes X W) (hg : Gl X x) (hks : pt.2.1 = [] := by rfl)
    (hdb : (x == ("__debug__" : Str)) = false := by decide) : PE X (.Call (.Name x p) [] [] pos) (tCallX pt.1 pt.2.1.length sp pt.2.2 W tNil tNil) := by
  obtain ⟨f, fd, ps, F, hm, kp, b⟩ := c.ex
  refine ⟨fun pins s σ H Q I h => ?_⟩
  refine wpAny_Call_Name_kw (ld_glob I hg hm ?_ hdb)
  obtain ⟨l1, l2, q2⟩ := h
  have hz := run_X (us := []) (ws := []) F (hr.low hk) (b pt hpt) tkW I .nil .nil l1 l2 q2
  rw [hks] at hz
  exact PySem.W.callWith_K0 I.kIn kp hz
end
/-! ### borrowed things -/
theorem Sep.bM {M : List Addr} {H0 G0 G H : Hp} {O : List (Addr)} (S : Sep M H0 G0 G H O) : Same (hideL M H0) H := fun b o e => by
  by_cases h : b ∈ M
  · rw [hideL_in h] at e
    cases e
  · rw [hideL_out h] at e
    exact S.base b o e h
theorem b_ne {M : List Addr} {H0 G0 G H : Hp} {O : List Addr} {a b : Addr} {o : HO} (h : (hideL M H0) a = some o) (S : Sep M H0 G0 G H O) (hb : b ∈ O) : a ≠ b := fun z => by
  subst z
  rcases (S.ow a hb).2.2 with q | q
  · rw [hideL_in q] at h
    cases h
  · by_cases hM : a ∈ M
    · rw [hideL_in hM] at h
      cases h
    · rw [hideL_out hM, q] at h
      cases h
theorem hide0 {H : Hp} : hideL [] H = H := by
  funext b
  unfold hideL
  rw [if_neg List.not_mem_nil]
theorem hide_nil {H : Hp} {a : Addr} {o : HO} (h : H a = some o) : (hideL [] H) a = some o := by
  rw [hide0]
  exact h
theorem Rp.hide_nil {H : Hp} {v : V} {d : PyData} (h : Rp H v d) : Rp (hideL [] H) v d := by
  rw [hide0]
  exact h
theorem Sep.startM {M : List Addr} {G H : Hp} (e : Same G H) (hM : ∀ a ∈ M, H a ≠ none) (hG : ∀ a ∈ M, G a = none) : Sep M H G G H M :=
  ⟨fun _ _ e _ => e, hM, e, Same.refl _, fun _ _ e => e, fun a ha => ⟨hG a ha, hM a ha, .inl ha⟩⟩
theorem Sep.gno {M : List Addr} {H0 G0 G H : Hp} {O L : List Addr} (S : Sep M H0 G0 G H O) (h : ∀ a ∈ L, a ∈ O) : ∀ a ∈ L, G a = none := fun a ha => (S.ow a (h a ha)).1
theorem RpAll.ixD {α : Type} [Inhabited α] {f : α → PyData} {H : Hp} {vs : List V} {xs : List α} {k : Int} (r : RpAll H vs (xs.map f)) (h : -(xs.length : Int) ≤ k ∧ k < xs.length) : ∃ v, atI vs k = some v ∧ Rp H v (f (itD xs k)) := by
  obtain ⟨v, x, h1, h2, h3⟩ := RpAll.ix r h
  refine ⟨v, h1, ?_⟩
  unfold itD
  rw [h2]
  exact h3
theorem tru_all {α : Type} [DecidableEq α] {f : α → PyData} {H : Hp} {vs : List V} {xs : List α} (r : RpAll H vs (xs.map f)) : (!decide (xs = [])) = !vs.isEmpty := by
  have h := r.len
  rw [List.length_map] at h
  cases xs <;> cases vs <;> simp_all
theorem ix_nn {α : Type} {xs : List α} {k : Int} (h0 : 0 ≤ k) (h1 : k < xs.length) : -(xs.length : Int) ≤ k ∧ k < xs.length := ⟨by omega, h1⟩
theorem all_nilQ {α : Type} {P : α → Prop} : ∀ x ∈ ([] : List α), P x := fun x h => by cases h
theorem all_consQ {α : Type} {P : α → Prop} {a : α} {l : List α} (h : P a) (t : ∀ x ∈ l, P x) : ∀ x ∈ a :: l, P x := fun x hx => by
  rcases List.mem_cons.mp hx with rfl | hx
  · exact h
  · exact t x hx
theorem mem_one {a b : Nat} (h : a ∈ [b]) : a = b := by simpa using h
theorem mem_cons2 {a b : Nat} {l : List Nat} (h : a ∈ b :: l) : a = b ∨ a ∈ l := List.mem_cons.mp h
theorem len0 {α : Type} {l : List α} (h : l.length = 0) : l = [] := List.length_eq_zero_iff.mp h
theorem len1 {α : Type} {l : List α} (h : l.length = 1) : ∃ a, l = [a] := List.length_eq_one_iff.mp h
theorem len_s {α : Type} {l : List α} {n : Nat} (h : l.length = n + 1) : ∃ a r, l = a :: r ∧ r.length = n := by
  cases l with
  | nil => cases h
  | cons a r => exact ⟨a, r, rfl, Nat.succ.inj h⟩
theorem len2 {α : Type} {l : List α} (h : l.length = 2) : ∃ a b, l = [a, b] := by
  obtain ⟨a, r, rfl, h2⟩ := len_s h
  obtain ⟨b, rfl⟩ := len1 h2
  exact ⟨a, b, rfl⟩
theorem len3 {α : Type} {l : List α} (h : l.length = 3) : ∃ a b c, l = [a, b, c] := by
  obtain ⟨a, r, rfl, h2⟩ := len_s h
  obtain ⟨b, c, rfl⟩ := len2 h2
  exact ⟨a, b, c, rfl⟩
theorem len4 {α : Type} {l : List α} (h : l.length = 4) : ∃ a b c d, l = [a, b, c, d] := by
  obtain ⟨a, r, rfl, h2⟩ := len_s h
  obtain ⟨b, c, d, rfl⟩ := len3 h2
  exact ⟨a, b, c, d, rfl⟩
theorem len5 {α : Type} {l : List α} (h : l.length = 5) : ∃ a b c d e, l = [a, b, c, d, e] := by
  obtain ⟨a, r, rfl, h2⟩ := len_s h
  obtain ⟨b, c, d, e, rfl⟩ := len4 h2
  exact ⟨a, b, c, d, e, rfl⟩
theorem len6 {α : Type} {l : List α} (h : l.length = 6) : ∃ a b c d e f, l = [a, b, c, d, e, f] := by
  obtain ⟨a, r, rfl, h2⟩ := len_s h
  obtain ⟨b, c, d, e, f, rfl⟩ := len5 h2
  exact ⟨a, b, c, d, e, f, rfl⟩
theorem len7 {α : Type} {l : List α} (h : l.length = 7) : ∃ a b c d e f g, l = [a, b, c, d, e, f, g] := by
  obtain ⟨a, r, rfl, h2⟩ := len_s h
  obtain ⟨b, c, d, e, f, g, rfl⟩ := len6 h2
  exact ⟨a, b, c, d, e, f, g, rfl⟩
def rLenTK (K : PySem.W.Frag) : List V → Hp → VK → Prop := fun xs H Q => ∃ (p : Addr) (vs : List V) (n : Nat), xs = [.ref p] ∧ SqT K H p vs ∧ vs.length = n ∧ Q (.int (n : Int)) H
theorem call_lenTK {X : Cx} {K : PySem.W.Frag} (hK : X.K = K := by rfl) : CallR X (.builtin "len") (rLenTK K) := by
  subst hK
  intro pins s σ H xs us Q I r h
  obtain ⟨p, vs, n, rfl, hs, hn, q⟩ := h
  exact call_len_seq pins s σ H _ us Q I r ⟨p, _, rfl, Or.inr hs, by rw [hn]; exact q⟩
theorem exm_mk {K : PySem.W.Frag} {S C : Addr} (h1 : PySem.W.subIn K (.ref C) (.type "BaseException") = some true) (h2 : PySem.W.isClsIn K C = true) (h3 : PySem.W.typeIn K (.ref C) = some (.type "type")) (h4 : PySem.W.subIn K (.ref S) (.ref C) = some true) :
    PySem.W.exmOne K (.ref S) (.ref C) = some true := by
  unfold PySem.W.isClsIn at h2
  unfold PySem.W.exmOne
  unfold PySem.W.kitCls
  simp only [h1, h2, h3, h4, beq_self_eq_true, Bool.and_self, if_true]
theorem kit_mk {K : PySem.W.Frag} {S C : Addr} (h2 : PySem.W.isClsIn K C = true) (h3 : PySem.W.typeIn K (.ref C) = some (.type "type")) (h4 : PySem.W.subIn K (.ref S) (.ref C) = some true) :
    PySem.W.kitOne K (.ref S) (.ref C) = some true := by
  unfold PySem.W.isClsIn at h2
  unfold PySem.W.kitOne
  split
  · rfl
  · unfold PySem.W.kitCls
    simp only [h2, h3, h4, beq_self_eq_true, Bool.and_self, if_true]
/-- isinstance(e, C) of the exception in hand -/
def rIsX (K : PySem.W.Frag) (a : Addr) (cls : Value) (d : Option Addr) : List V → Hp → VK → Prop := fun xs H Q => ∃ (D C : Addr) (b : Bool), cls = .ref D ∧ d = none ∧ ExcC K D ∧ xs = [.ref a, .ref C] ∧ PySem.W.kitOne K (.ref D) (.ref C) = some b ∧ Q (.bl b) H
theorem call_isX {X : Cx} {K : PySem.W.Frag} {a : Addr} {cls : Value} {d : Option Addr} {oe : Obj} {pn : List (Addr × Obj)} (hz : Zc cls d oe) (hf : ∃ vs, oe.data = .fields vs) (hK : X.K = K := by rfl) : CallR (X.suite a ((a, oe) :: pn)) (.builtin "isinstance") (rIsX K a cls d) := by
  subst hK
  intro pins s σ H xs us Q I r h
  obtain ⟨D, C, b, rfl, rfl, c, rfl, e, q⟩ := h
  exact call_isE c hz hf pins s σ H _ us Q I r ⟨_, _, b, rfl, fun u z => z, e, q⟩
/-! ### unpacking a list -/
section
variable {X : Cx} {K : PySem.W.Frag} {pos : Pos}
theorem pg_seqK {es : List Expr} {k : Nat} {t : TGs} {n : Nat} (h : PGs X es t) (hc : X.calm = true := by rfl) (hK : X.K = K := by rfl)
    (hn : (assignEach es X.env).length = n := by rfl) (hst : (assignEach es X.env).findIdx? (·.1) = none := by rfl) : PG X (.Tuple es k pos) (gLst K n t) := hK ▸ pg_lst hc h hn hst
end
theorem SqL.cast {K : PySem.W.Frag} {H : Hp} {a : Addr} {xs ys : List V} (h : SqL K H a xs) (e : xs = ys) : SqL K H a ys := e ▸ h
section
variable {α : Type} [Inhabited α] {f : α → V}
theorem unp2 {xs : List α} (h : xs.length = 2) : xs.map f = [f (itD xs 0), f (itD xs 1)] := by
  obtain ⟨a, b, rfl⟩ := len2 h
  rfl
theorem unp3 {xs : List α} (h : xs.length = 3) : xs.map f = [f (itD xs 0), f (itD xs 1), f (itD xs 2)] := by
  obtain ⟨a, b, c, rfl⟩ := len3 h
  rfl
theorem unp4 {xs : List α} (h : xs.length = 4) : xs.map f = [f (itD xs 0), f (itD xs 1), f (itD xs 2), f (itD xs 3)] := by
  obtain ⟨a, b, c, d, rfl⟩ := len4 h
  rfl
theorem unp6 {xs : List α} (h : xs.length = 6) : xs.map f = [f (itD xs 0), f (itD xs 1), f (itD xs 2), f (itD xs 3), f (itD xs 4), f (itD xs 5)] := by
  obtain ⟨a, b, c, d, e, g, rfl⟩ := len6 h
  rfl
theorem unp8 {xs : List α} (h : xs.length = 8) : xs.map f = [f (itD xs 0), f (itD xs 1), f (itD xs 2), f (itD xs 3), f (itD xs 4), f (itD xs 5), f (itD xs 6), f (itD xs 7)] := by
  obtain ⟨a, r, rfl, h2⟩ := len_s h
  obtain ⟨b, c, d, e, g, i, j, rfl⟩ := len7 h2
  rfl
end
/-! ### classes -/
section
variable {P : Program} {w : World} {K : PySem.W.Frag} {mg : Str → Option Value} {base : Heap}
structure MethX (K : PySem.W.Frag) (C : Addr) (q m : Str) (st : Stmt) (ps : List Str) (pats : List Pat) : Prop where
  ex : ∃ (f : Addr) (fd : FuncData) (dvs : List V) (kws : List (Str × V)), FunD K m q (defArgs st) (defBody st) (defScope st) dvs kws f fd ∧ Meth K C m f ∧ ∀ p ∈ pats, Bnd1 K fd ps p
structure InitX (K : PySem.W.Frag) (mg : Str → Option Value) (C : Addr) (cn q : Str) (st : Stmt) (ps : List Str) (pats : List Pat) : Prop where
  ex : ∃ (f : Addr) (fd : FuncData) (dvs : List V) (kws : List (Str × V)), FunD K "__init__" q (defArgs st) (defBody st) (defScope st) dvs kws f fd ∧ Mk K C f ∧ mg cn = some (.ref C) ∧ ∀ p ∈ pats, Bnd1 K fd ps p
structure PropX (K : PySem.W.Frag) (C : Addr) (q m : Str) (st : Stmt) (ps : List Str) (pats : List Pat) : Prop where
  ex : ∃ (r f : Addr) (fd : FuncData) (dvs : List V) (kws : List (Str × V)), FunD K m q (defArgs st) (defBody st) (defScope st) dvs kws f fd ∧ PropOf K C m r f ∧ Binds K fd ps []
structure MetX (P : Program) (w : World) (K : PySem.W.Frag) (mg : Str → Option Value) (base : Heap) (k : Nat) (C : Addr) (m : Str) (sp : Sp) (pats : List Pat) : Prop where
  ex : ∃ (f : Addr) (fd : FuncData) (ps : List Str), Cls K C ∧ Meth K C m f ∧ FnG P w K mg base (L2.CX P w) k f fd ps sp ∧ ∀ p ∈ pats, Bnd1 K fd ps p
structure PropY (P : Program) (w : World) (K : PySem.W.Frag) (mg : Str → Option Value) (base : Heap) (k : Nat) (C : Addr) (m : Str) (sp : Sp) (pats : List Pat) : Prop where
  ex : ∃ (q f : Addr) (fd : FuncData) (ps : List Str), Cls K C ∧ PropOf K C m q f ∧ FnG P w K mg base (L2.CX P w) k f fd ps sp ∧ Binds K fd ps []
structure MakX (P : Program) (w : World) (K : PySem.W.Frag) (mg : Str → Option Value) (base : Heap) (k : Nat) (cn : Str) (C : Addr) (sp : Sp) (pats : List Pat) : Prop where
  ex : ∃ (f : Addr) (fd : FuncData) (ps : List Str), Mk K C f ∧ FnG P w K mg base (L2.CX P w) k f fd ps sp ∧ mg cn = some (.ref C) ∧ ∀ p ∈ pats, Bnd1 K fd ps p
theorem MethX.ok {C : Addr} {q m : Str} {st : Stmt} {N ps : List Str} {pats : List Pat} {k : Nat} {sp : Sp} (D : MethX K C q m st ps pats) (c : Cls K C) (S : FnScope N ps (defScope st)) (len : ∀ vs H Q E, sp vs H Q E → vs.length = ps.length)
    (hbody : BodyX P w K mg base q st N k sp) : MetX P w K mg base (k + 1) C m sp pats := by
  obtain ⟨f, fd, dvs, kws, F, me, b⟩ := D.ex
  exact ⟨f, fd, ps, c, me, FnG.body F S len (fun cdv A outer s H vs Q E hr h => hbody f cdv A outer s H vs Q E hr h), b⟩
theorem PropX.ok {C : Addr} {q m : Str} {st : Stmt} {N ps : List Str} {pats : List Pat} {k : Nat} {sp : Sp} (D : PropX K C q m st ps pats) (c : Cls K C) (S : FnScope N ps (defScope st)) (len : ∀ vs H Q E, sp vs H Q E → vs.length = ps.length)
    (hbody : BodyX P w K mg base q st N k sp) : PropY P w K mg base (k + 1) C m sp pats := by
  obtain ⟨r, f, fd, dvs, kws, F, me, b⟩ := D.ex
  exact ⟨r, f, fd, ps, c, me, FnG.body F S len (fun cdv A outer s H vs Q E hr h => hbody f cdv A outer s H vs Q E hr h), b⟩
theorem InitX.ok {C : Addr} {cn q : Str} {st : Stmt} {N ps : List Str} {pats : List Pat} {k : Nat} {sp : Sp} (D : InitX K mg C cn q st ps pats) (S : FnScope N ps (defScope st)) (len : ∀ vs H Q E, sp vs H Q E → vs.length = ps.length)
    (hbody : BodyX P w K mg base q st N k sp) : MakX P w K mg base (k + 1) cn C sp pats := by
  obtain ⟨f, fd, dvs, kws, F, me, hm, b⟩ := D.ex
  exact ⟨f, fd, ps, me, FnG.body F S len (fun cdv A outer s H vs Q E hr h => hbody f cdv A outer s H vs Q E hr h), hm, b⟩
end
theorem cW_callN {α β : Type} {m : Rx β} {f : β → Rx α} {K : α → Prop} {E : Nat → Prop} {K2 : β → Prop} {E2 : Nat → Prop} (h : cW ((noEr m).bind f) K E) (ho : ∀ v, cW (f v) K E → K2 v) (_ : True) : cW m K2 E2 := by
  cases m with
  | ok a => exact cW_mk (ho a h)
  | er e => exact cW_bad (α := α) h
  | bad => exact cW_bad (α := α) h
section
variable {X : Cx} {k j n : Nat} {f C : Addr} {fd : FuncData} {ps ks : List Str} {g : List V → List V → List V} {sp : Sp} {x m : Str} {pos p apos : Pos} {e o : Expr} {es : List Expr} {kws : List Keyword} {ta : TE} {t tk : TA} {W : WX}
theorem run_mkX {pins : List (Addr × Obj)} {σ : L2.St} {H : Hp} {s : Shared} {Q : VK} {us ws : List Value} {vs zs : List V} (M : Mk X.K C f) (F : FnG X.prog X.w X.K X.mg X.base (L2.CX X.prog X.w) k f fd ps sp) (hr : RoomG (k + 1) X.A) (hb : Bnd X.K fd ps n ks g) (tkW : Takes X W)
    (I : Inv X pins σ H s) (r : Vals vs us) (rz : Vals zs ws) (l1 : vs.length + 1 = n) (l2 : zs.length = ks.length)
    (h : ∀ x dx, H x = none → H dx = none → dx ≠ x → sp (g (.ref x :: vs) zs) (upd (upd H dx (.own x)) x (.ins C dx [])) (fun v H2 => v = .non ∧ Q (.ref x) H2) (WE W σ)) :
    wpAny (model X.prog X.w) X.A (call (.ref C) us (ks.zip ws)) (EP X pins σ Q) X.xe s := by
  have hq := h (s.heap.objs.size + 1) s.heap.objs.size (I.hok.fresh (Nat.le_succ _)) (I.hok.fresh (Nat.le_refl _)) (Nat.ne_of_lt (Nat.lt_succ_self _))
  have I2 := Inv.made (C := C) I
  have r1 : Vals (V.ref (s.heap.objs.size + 1) :: vs) (Value.ref (s.heap.objs.size + 1) :: us) := .cons rfl r
  obtain ⟨vv, b, r2⟩ := hb.to _ (Value.ref (s.heap.objs.size + 1) :: us) ws (V.ref (s.heap.objs.size + 1) :: vs) zs I2.kIn (by rw [List.length_cons, l1]) l2 r1 rz
  refine wpAny_call (make_map (f := f) I.kIn M.makes M.init (beq_iff_eq.mp M.fn) (codeAny_mono (F.run _ X.stack _ _ ⟨Value.ref (s.heap.objs.size + 1) :: us, ks.zip ws⟩ vv _ _ (WE W σ) (hr.made C us (ks.zip ws))
    (I2.env0.make C us (ks.zip ws)) b r2 hq) fun r s' hq' => ?_))
  cases r with
  | error e => exact passAt tkW σ pins _ _ e s' I2 hq'
  | ok fl =>
    cases fl with
    | ret u =>
      obtain ⟨v, H', I3, rv, ev, q3⟩ := I2.after hq'
      subst ev
      exact ⟨rv, ⟨V.ref (s.heap.objs.size + 1), H', I3, rfl, q3⟩⟩
    | next => exact False.elim hq'
    | brk => exact False.elim hq'
    | cont => exact False.elim hq'
/-- C(e, .., k = v, ..) -/
def tMakeX (C : Addr) (n m : Nat) (sp : Sp) (g : List V → List V → List V) (W : WX) (t tk : TA) : TE := fun σ H Q => t σ H fun vs H1 => tk σ H1 fun zs H2 => vs.length + 1 = n ∧ zs.length = m ∧ ∀ x dx, H2 x = none → H2 dx = none → dx ≠ x →
  sp (g (.ref x :: vs) zs) (upd (upd H2 dx (.own x)) x (.ins C dx [])) (fun v H3 => v = .non ∧ Q (.ref x) H3) (WE W σ)
theorem vx_makeX {pats : List Pat} (c : MakX X.prog X.w X.K X.mg X.base k x C sp pats) (pt : Pat) (hpt : pt ∈ pats) (hr : RoomG j X.A) (hk : k + 1 ≤ j) (tkW : Takes X W) (hg : Gl X x) (ha : PA X (e :: es) t) (hkw : PK X kws tk)
    (hall : (backToKw pos (keywordEach kws X.env)).all (·.1.isSome) = true := by rfl) (hks : (backToKw pos (keywordEach kws X.env)).filterMap (·.1) = pt.2.1 := by rfl) (hdb : (x == ("__debug__" : Str)) = false := by decide)
    (he : starEach (e :: es) X.env = (false, eval e X.env) :: starEach es X.env := by rfl) (hpl : ((backTo pos (starEach (e :: es) X.env)).any (·.1) || (backToKw pos (keywordEach kws X.env)).any (·.1.isNone)) = false := by rfl) :
    PE X (.Call (.Name x p) (e :: es) kws pos) (tMakeX C pt.1 pt.2.1.length sp pt.2.2 W t tk) := by
  obtain ⟨f, fd, ps, M, F, hm, b⟩ := c.ex
  refine ⟨fun pins s σ H Q I h => ?_⟩
  refine wpAny_Call_Name_kw (ld_glob I hg hm ?_ hdb)
  refine PySem.W.callWith_KW (h₀ := X.base) I.ok.mod.kin M.kp hall (thn (ha.run pos pins s σ H _ I h) fun us s1 ⟨vs, H1, I1, r, q⟩ => ?_) hpl he
  refine thn (hkw.run pos pins s1 σ H1 _ I1 q) fun ws s2 ⟨zs, H2, I2, rz, l1, l2, q2⟩ => ⟨I2.kIn, ?_⟩
  rw [hks]
  exact run_mkX M F (hr.low hk) (b pt hpt) tkW I2 r rz l1 l2 q2
theorem vx_makeX0 {pats : List Pat} (c : MakX X.prog X.w X.K X.mg X.base k x C sp pats) (pt : Pat) (hpt : pt ∈ pats) (hr : RoomG j X.A) (hk : k + 1 ≤ j) (tkW : Takes X W) (hg : Gl X x) (hks : pt.2.1 = [] := by rfl)
    (hdb : (x == ("__debug__" : Str)) = false := by decide) : PE X (.Call (.Name x p) [] [] pos) (tMakeX C pt.1 pt.2.1.length sp pt.2.2 W tNil tNil) := by
  obtain ⟨f, fd, ps, M, F, hm, b⟩ := c.ex
  refine ⟨fun pins s σ H Q I h => ?_⟩
  refine wpAny_Call_Name_kw (ld_glob I hg hm ?_ hdb)
  obtain ⟨l1, l2, q2⟩ := h
  have hz := run_mkX (us := []) (ws := []) M F (hr.low hk) (b pt hpt) tkW I .nil .nil l1 l2 q2
  rw [hks] at hz
  exact PySem.W.callWith_K0 I.kIn M.kp hz
/-- o.m(e, .., k = v, ..) -/
def tMethX (C : Addr) (m : Str) (n mm : Nat) (sp : Sp) (g : List V → List V → List V) (W : WX) (ta : TE) (t tk : TA) : TE := fun σ H Q => ta σ H fun x H1 => ∃ a dx fs, x = .ref a ∧ H1 a = some (.ins C dx fs) ∧ fs.lookup m = none ∧
  t σ H1 fun vs H2 => tk σ H2 fun zs H3 => (x :: vs).length = n ∧ zs.length = mm ∧ sp (g (x :: vs) zs) H3 Q (WE W σ)
theorem vx_methX {pats : List Pat} {pl : Sem Bool} (c : MetX X.prog X.w X.K X.mg X.base k C m sp pats) (pt : Pat) (hpt : pt ∈ pats) (hr : RoomG j X.A) (hk : k ≤ j) (tkW : Takes X W) (he : PE X o ta) (ha : PA X (e :: es) t) (hkw : PK X kws tk)
    (hall : (backToKw pos (keywordEach kws X.env)).all (·.1.isSome) = true := by rfl) (hks : (backToKw pos (keywordEach kws X.env)).filterMap (·.1) = pt.2.1 := by rfl)
    (hst : starEach (e :: es) X.env = (false, eval e X.env) :: starEach es X.env := by rfl) (hpl : ((backTo pos (starEach (e :: es) X.env)).any (·.1) || (backToKw pos (keywordEach kws X.env)).any (·.1.isNone)) = false := by rfl)
    (ht : eval (.Call (.Attribute o m apos) (e :: es) kws pos) X.env = (do
      let ov ← eval o X.env
      standAt apos.atName
      let (f, first) ← holding [ov] (getMethod ov m pl)
      callWith pos f first (backTo pos (starEach (e :: es) X.env)) (backToKw pos (keywordEach kws X.env))) := by rfl) :
    PE X (.Call (.Attribute o m apos) (e :: es) kws pos) (tMethX C m pt.1 pt.2.1.length sp pt.2.2 W ta t tk) := by
  obtain ⟨f, fd, ps, hc, hm, F, b⟩ := c.ex
  refine ⟨fun pins s σ H Q I h => ?_⟩
  refine PySem.W.methodCall_KW (pl := pl) (thn (he.run pins s σ H _ I h) fun u s1 ⟨x, H1, I1, rx, a, dx, fs, ex, ea, l, q⟩ => ?_) ht
  subst ex
  obtain rfl : u = Value.ref a := rx
  refine getmeth_ok I1 ea hc hm l ?_
  refine PySem.W.callWith_KW (first := [.ref a]) (h₀ := X.base) I.ok.mod.kin hm.kp hall (thn (ha.run pos pins s1 σ H1 _ I1 q) fun us s2 ⟨vs, H2, I2, r, q2⟩ => ?_) hpl hst
  refine thn (hkw.run pos pins s2 σ H2 _ I2 q2) fun ws s3 ⟨zs, H3, I3, rz, l1, l2, q3⟩ => ⟨I3.kIn, ?_⟩
  rw [hks]
  exact run_X (us := .ref a :: us) (vs := .ref a :: vs) F (hr.low hk) (b pt hpt) tkW I3 (.cons rfl r) rz l1 l2 q3
theorem vx_methX0 {pats : List Pat} {pl : Sem Bool} (c : MetX X.prog X.w X.K X.mg X.base k C m sp pats) (pt : Pat) (hpt : pt ∈ pats) (hr : RoomG j X.A) (hk : k ≤ j) (tkW : Takes X W) (he : PE X o ta) (hks : pt.2.1 = [] := by rfl)
    (ht : eval (.Call (.Attribute o m apos) [] [] pos) X.env = (do
      let ov ← eval o X.env
      standAt apos.atName
      let (f, first) ← holding [ov] (getMethod ov m pl)
      callWith pos f first (backTo pos (starEach [] X.env)) (backToKw pos (keywordEach [] X.env))) := by rfl) :
    PE X (.Call (.Attribute o m apos) [] [] pos) (tMethX C m pt.1 pt.2.1.length sp pt.2.2 W ta tNil tNil) := by
  obtain ⟨f, fd, ps, hc, hm, F, b⟩ := c.ex
  refine ⟨fun pins s σ H Q I h => ?_⟩
  refine PySem.W.methodCall_KW (pl := pl) (thn (he.run pins s σ H _ I h) fun u s1 ⟨x, H1, I1, rx, a, dx, fs, ex, ea, l, q⟩ => ?_) ht
  subst ex
  obtain rfl : u = Value.ref a := rx
  refine getmeth_ok I1 ea hc hm l ?_
  obtain ⟨l1, l2, q3⟩ := q
  have hz := run_X (us := [.ref a]) (vs := [.ref a]) (ws := []) F (hr.low hk) (b pt hpt) tkW I1 (.cons rfl .nil) .nil l1 l2 q3
  rw [hks] at hz
  exact PySem.W.callWith_K0 (first := [.ref a]) I1.kIn hm.kp hz
theorem vx_propX {pats : List Pat} (c : PropY X.prog X.w X.K X.mg X.base k C m sp pats) (hr : RoomG j X.A) (hk : k + 1 ≤ j) (he : PE X o ta) (hab : attributeBase o m X.env (eval o X.env) = eval o X.env := by rfl) : PE X (.Attribute o m pos) (tProp C sp [] E0 ta) := by
  obtain ⟨q, f, fd, ps, cls, prop, F, bind⟩ := c.ex
  constructor
  intro pins s σ H Q I h
  refine attr_of hab (thn (he.run pins s σ H _ I h) ?_)
  rintro u s1 ⟨x, H1, I1, rx, a, dx, fs, rfl, ea, prom⟩
  cases rx
  obtain ⟨mA, O, _⟩ := ins_get I1.hok ea
  obtain ⟨od, J, _⟩ := O.look
  obtain ⟨rest, rec_⟩ := prop.rec_
  have short : [Value.ref a].length = ps.length := (F.len _ _ _ _ prom).symm ▸ rfl
  have isCls : (PySem.W.clsIn X.K C).isSome = true := by
    obtain ⟨cd, e, _⟩ := PySem.W.any_some cls.hd
    rw [e]
    rfl
  refine PySem.W.get_bind I1.kIn J (PySem.W.plainGet_of (cls.get m)).1 (PySem.W.findObj_data isCls prop.at_ prop.get prop.tak) (PySem.W.plainGet_of (cls.get m)).2 (wpAny_call (PySem.W.prop_get (s := { s1 with toks := s1.toks + 1 }) I1.kIn rec_ ?_))
  have I2 := I1.tok (s1.toks + 1)
  refine codeAny_mono (F.run X.A.in1 X.stack _ H1 ⟨[.ref a], []⟩ [.ref a] [.ref a] Q E0 (hr.low hk).one I2.env0.in1 (by simpa using bind _ [.ref a] I2.kIn (by simpa using short)) (.cons rfl .nil) prom) ?_
  intro r s2 out
  cases r with
  | error er => exact (passL (X := X.nox) pins σ H1 _ er s2 (I2.wish _) out).elim
  | ok flow =>
    cases flow with
    | ret v =>
      obtain ⟨y, H2, I3, ry, qy⟩ := I2.after out
      have given := PySem.W.handedOut_of (handed_of ry)
      show wpAny _ _ (handedOut v) _ _ s2
      rw [given]
      exact wpAny_pure ⟨y, H2, I3, ry, qy⟩
    | next => exact out.elim
    | brk => exact out.elim
    | cont => exact out.elim
end
theorem Sep.news {M : List Addr} {H0 G0 G H H' : Hp} {O : List Addr} (S : Sep M H0 G0 G H O) (e : Same H H') (L : List Addr) (hL : ∀ a ∈ L, H a = none ∧ H' a ≠ none ∧ H0 a = none) : Sep M H0 G0 G H' (L ++ O) := by
  have S2 := S.same e
  refine ⟨S2.base, S2.pm, S2.sG, S2.g0, S2.gn, fun a ha => ?_⟩
  rcases List.mem_append.mp ha with h | h
  · obtain ⟨h1, h2, h3⟩ := hL a h
    exact ⟨S.gfree h1, h2, .inr h3⟩
  · exact S2.ow a h
theorem vv_chain {r r' : R2} {ta tb tc : TE} {σ : L2.St} {H : Hp} {x y z : V} {a b : Bool} (ha : Val ta σ H x) (hb : Val tb σ H y) (hc : Val tc σ H z) (h1 : ∀ Q : VK, Q (.bl a) H → r x y H Q) (h2 : ∀ Q : VK, Q (.bl b) H → r' y z H Q) :
    Val (tChain r r' ta tb tc) σ H (.bl (a && b)) := fun Q q => ha _ (hb _ (h1 _ ⟨a, rfl, by
  cases a with
  | true =>
    rw [if_pos rfl]
    exact hc _ (h2 _ q)
  | false =>
    rw [if_neg Bool.false_ne_true]
    exact q⟩))
/-! ### constants that are tuples, lists backwards, zip -/
theorem inV_ints (x : Int) : ∀ xs : List Int, inV (V.int x) (xs.map V.int) = decide (x ∈ xs)
  | [] => by simp [inV]
  | y :: r => by
    have h := inV_ints x r
    unfold inV at h ⊢
    rw [List.map_cons, List.any_cons, h]
    by_cases c : x = y
    · subst c
      simp [eqV]
    · simp [eqV, c, Ne.symm c]
theorem flat_ints : ∀ xs : List Int, (xs.map V.int).all flatV = true
  | [] => rfl
  | _ :: r => flat_ints r
def rInI (K : PySem.W.Frag) : R2 := fun x y H Q => ∃ (i : Int) (p : Addr) (xs : List Int), x = .int i ∧ y = .ref p ∧ (SqL K H p (xs.map V.int) ∨ SqT K H p (xs.map V.int)) ∧ Q (.bl (decide (i ∈ xs))) H
def rNotInI (K : PySem.W.Frag) : R2 := fun x y H Q => ∃ (i : Int) (p : Addr) (xs : List Int), x = .int i ∧ y = .ref p ∧ (SqL K H p (xs.map V.int) ∨ SqT K H p (xs.map V.int)) ∧ Q (.bl (!decide (i ∈ xs))) H
theorem op_inI {X : Cx} {K : PySem.W.Frag} (hK : X.K = K := by rfl) : OpR X (compareOp .In) (rInI K) := by
  subst hK
  intro pins s σ H x y v u Q I rx ry h
  obtain ⟨i, p, xs, rfl, rfl, hs, q⟩ := h
  refine op_in_seq pins s σ H _ _ v u Q I rx ry ⟨p, _, rfl, hs, rfl, flat_ints xs, ?_⟩
  rw [if_neg Bool.false_ne_true, inV_ints]
  exact q
theorem op_notInI {X : Cx} {K : PySem.W.Frag} (hK : X.K = K := by rfl) : OpR X (compareOp .NotIn) (rNotInI K) := by
  subst hK
  intro pins s σ H x y v u Q I rx ry h
  obtain ⟨i, p, xs, rfl, rfl, hs, q⟩ := h
  refine op_notIn_seq pins s σ H _ _ v u Q I rx ry ⟨p, _, rfl, hs, rfl, flat_ints xs, ?_⟩
  rw [if_pos rfl, inV_ints]
  exact q
theorem pe_revLK {X : Cx} {K : PySem.W.Frag} {e : Expr} {te : TE} {k : Nat} {p1 p2 p3 pos : Pos} (he : PE X e te) (hK : X.K = K := by rfl) : PE X (.Subscript e (.Slice none none (some (.UnaryOp .USub (.Constant (.int 1) k p1) p2)) p3) pos) (tRevL K te) := hK ▸ pe_revL he
theorem rev_map {α : Type} {f : α → V} {xs : List α} {H : Hp} {p : Addr} (h : H p = some (.lst (xs.map f).reverse)) : H p = some (.lst (xs.reverse.map f)) := by
  rw [List.map_reverse]
  exact h
theorem RpAll.rev {G : Hp} : ∀ {vs : List V} {ds : List PyData}, RpAll G vs ds → RpAll G vs.reverse ds.reverse
  | _, _, .nil => .nil
  | _, _, .cons h t => by
    rw [List.reverse_cons, List.reverse_cons]
    exact (RpAll.rev t).append (.one h)
theorem rev_all {α : Type} {f : α → PyData} {xs : List α} {G : Hp} {vs : List V} (a : RpAll G vs (xs.map f)) : RpAll G vs.reverse (xs.reverse.map f) := by
  rw [List.map_reverse]
  exact a.rev
theorem pi_zipK {X : Cx} {K : PySem.W.Frag} {e e2 : Expr} {ta : TA} {p pos tpos : Pos} {elts : List Expr} {kk : Nat} (hg : Gl X "zip") (hm : X.mg "zip" = none) (ha : PA X [e, e2] ta) (hK : X.K = K := by rfl)
    (hs : starEach [e, e2] X.env = (false, eval e X.env) :: starEach [e2] X.env := by rfl) (hpl : (backTo pos (starEach [e2] X.env)).any (·.1) = false := by rfl) :
    PI X (.Tuple elts kk tpos) (.Call (.Name "zip" p) [e, e2] [] pos) (RZ.iZipA K ta) := hK ▸ RZ.pi_zipA hg hm ha hs hpl
/-- a comprehension over zip of two lists of one length -/
theorem lc_zipL {K : PySem.W.Frag} {a b : Addr} {xs ys : List V} {g : TG} {tt : TT} {te : TE} {vs : List Nat} {σ : L2.St} {H1 : Hp} {D : Addr} {Qd : Hp → Prop} (hl : xs.length = ys.length) (Pv : Nat → Hp → Prop) (h0 : Pv 0 (upd H1 D (.lst []))) (hq : ∀ i H, i ≤ xs.length → Pv i H → SqL K H a xs ∧ SqL K H b ys)
    (hs : ∀ (i : Nat) (x y : V) (T : Addr) (H : Hp), xs[i]? = some x → ys[i]? = some y → H T = none → Pv i H → g (.ref T) (wipe σ vs) (upd H T (.tup [x, y])) fun σ2 H2 => wipe σ2 vs = wipe σ vs ∧ tt σ2 H2 fun b H3 =>
      if b = true then te σ2 H3 fun y H4 => ∃ acc, H4 D = some (.lst acc) ∧ acc.length < sizeLine ∧ Pv (i + 1) (upd H4 D (.lst (acc ++ [y]))) else Pv (i + 1) H3) (hd : ∀ H, Pv xs.length H → Qd H) :
    ∃ W : Nat → Nat → Hp → Prop, (∃ m, W 0 m (upd H1 D (.lst []))) ∧ ∀ i m H, W i m H →
      ((Itz K a b).stop i H ∧ Qd H) ∨ ((Itz K a b).go i H ∧ ∃ Nx : Hp → Prop, (∀ H', Nx H' → ∃ m', m' < m ∧ W (i + 1) m' H') ∧ ∀ x H', (Itz K a b).yld i H x H' → g x (wipe σ vs) H' fun σ2 H2 => wipe σ2 vs = wipe σ vs ∧ tt σ2 H2 fun b H3 =>
        if b = true then te σ2 H3 fun y H4 => ∃ acc, H4 D = some (.lst acc) ∧ acc.length < sizeLine ∧ Nx (upd H4 D (.lst (acc ++ [y]))) else Nx H3) := by
  refine ⟨fun i m H => m = xs.length - i ∧ i ≤ xs.length ∧ Pv i H, ⟨xs.length, by simp, Nat.zero_le _, h0⟩, ?_⟩
  rintro i m H ⟨rfl, hi, p⟩
  obtain ⟨qx, qy⟩ := hq i H hi p
  by_cases hlt : i < xs.length
  · have hlt2 : i < ys.length := by omega
    refine .inr ⟨⟨xs, ys, xs[i], ys[i], qx, qy, List.getElem?_eq_getElem hlt, List.getElem?_eq_getElem hlt2⟩, Pv (i + 1), fun H' p' => ⟨xs.length - (i + 1), by omega, rfl, hlt, p'⟩, fun v H' y => ?_⟩
    obtain ⟨T, x', y', rfl, hT, rfl, f1, f2⟩ := y
    exact hs i x' y' T H (f1 xs qx) (f2 ys qy) hT p
  · have e : i = xs.length := by omega
    subst e
    exact .inl ⟨⟨xs, ys, qx, qy, Or.inl (Nat.le_refl _)⟩, hd H p⟩
theorem zip_get {α β : Type} {xs : List α} {ys : List β} {i : Nat} {x : α} {y : β} (h1 : xs[i]? = some x) (h2 : ys[i]? = some y) : (xs.zip ys)[i]? = some (x, y) := by
  rw [List.getElem?_zip_eq_some]
  exact ⟨h1, h2⟩
theorem zip_len {α β : Type} {xs : List α} {ys : List β} {n : Nat} (h : xs.length = ys.length) (e : n = xs.length) : n = (xs.zip ys).length := by
  rw [List.length_zip, ← h, Nat.min_self]
  exact e
theorem zlen {α β : Type} {vs ws : List V} {xs : List α} {ys : List β} (a : vs.length = xs.length) (b : ws.length = ys.length) (h : xs.length = ys.length) : vs.length = ws.length := by rw [a, b, h]
section
variable {t : TT} {ta tb : TE} {σ : L2.St} {H : Hp}
theorem vv_ifP {p : Prop} [Decidable p] {a b : Int} (ht : Ans t σ H (decide p)) (hx : p → Val ta σ H (.int a)) (hy : ¬ p → Val tb σ H (.int b)) : Val (tIf t ta tb) σ H (.int (if p then a else b)) := by
  by_cases h : p
  · have := vv_if (p := p) (a := a) (b := a) ht (hx h) (tb := ta) (hx h)
    intro Q q
    refine ht _ ?_
    rw [decide_eq_true h, if_pos rfl]
    rw [if_pos h] at q
    exact hx h _ q
  · intro Q q
    refine ht _ ?_
    rw [decide_eq_false h, if_neg Bool.false_ne_true]
    rw [if_neg h] at q
    exact hy h _ q
theorem vv_ifQ {c : Bool} {a b : Int} (ht : Ans t σ H c) (hx : c = true → Val ta σ H (.int a)) (hy : c = false → Val tb σ H (.int b)) : Val (tIf t ta tb) σ H (.int (if c = true then a else b)) := by
  intro Q q
  refine ht _ ?_
  cases c with
  | true =>
    rw [if_pos rfl]
    rw [if_pos rfl] at q
    exact hx rfl _ q
  | false =>
    rw [if_neg Bool.false_ne_true]
    rw [if_neg Bool.false_ne_true] at q
    exact hy rfl _ q
end
theorem kit_mk0 {K : PySem.W.Frag} {S C : Addr} (h1 : (Value.ref S == Value.ref C) = false) (h2 : PySem.W.isClsIn K C = true) (h3 : PySem.W.typeIn K (.ref C) = some (.type "type")) (h4 : PySem.W.subIn K (.ref S) (.ref C) = some false) :
    PySem.W.kitOne K (.ref S) (.ref C) = some false := by
  unfold PySem.W.isClsIn at h2
  unfold PySem.W.kitOne
  rw [if_neg (by rw [h1]; exact Bool.false_ne_true)]
  unfold PySem.W.kitCls
  simp only [h2, h3, h4, beq_self_eq_true, Bool.and_self, if_true]
theorem vv_call2 {ta tb : TE} {σ : L2.St} {H : Hp} {x y z : V} {r : List V → Hp → VK → Prop} (ha : Val ta σ H x) (hb : Val tb σ H y) (hr : ∀ Q : VK, Q z H → r [x, y] H Q) : Val (tCB r (tCons ta (tCons tb tNil))) σ H z := fun Q q => ha _ (hb _ (hr Q q))
/-! ### lists of data that the caller owns; values that are a truth value or a number -/
theorem Sep.stepnew {M : List Addr} {H0 G0 G H H' : Hp} {O : List Addr} {p : Addr} {o : HO} (S : Sep M H0 G0 G H O) {G' : Hp} (e : Same H H') (eG : Same G G') (sG : Same G' H') (hn : ∀ b, H b ≠ none → G b = none → G' b = none) (_n : H p = none) (h : H' p = some o) (g : G' p = none) (hm : H0 p = none) : Sep M H0 G0 G' H' (p :: O) := by
  have S2 := S.step e eG sG hn
  refine ⟨S2.base, S2.pm, S2.sG, S2.g0, S2.gn, fun a ha => ?_⟩
  rcases List.mem_cons.mp ha with rfl | ha
  · exact ⟨g, (fun z => by rw [z] at h; cases h), .inr hm⟩
  · exact S2.ow a ha
inductive Bi where
  | b (x : Bool)
  | n (i : Int)
deriving DecidableEq
def biV : Bi → V
  | .b x => .bl x
  | .n i => .int i
def Bi.el {α : Type} (v : Bi) (f : Bool → α) (g : Int → α) : α :=
  match v with
  | .b x => f x
  | .n i => g i
theorem cW_elb {α : Type} {x : Bool} {f : Bool → Rx α} {g : Int → Rx α} {K : α → Prop} {E : Nat → Prop} (h : cW (Bi.el (.b x) f g) K E) : cW (f x) K E := h
theorem cW_eln {α : Type} {x : Int} {f : Bool → Rx α} {g : Int → Rx α} {K : α → Prop} {E : Nat → Prop} (h : cW (Bi.el (.n x) f g) K E) : cW (g x) K E := h
theorem rp_tup4 {α β γ δ : Type} {f : α → PyData} {g : β → PyData} {h : γ → PyData} {i : δ → PyData} {H : Hp} {v : V} {x : α × β × γ × δ} (r : Rp H v (encT4 f g h i x)) : ∃ a v1 v2 v3 v4, v = .ref a ∧ H a = some (.tup [v1, v2, v3, v4]) ∧ Rp H v1 (f x.1) ∧ Rp H v2 (g x.2.1) ∧ Rp H v3 (h x.2.2.1) ∧ Rp H v4 (i x.2.2.2) := by
  unfold encT4 at r
  cases r with
  | tup h1 h2 =>
    cases h2 with
    | cons a b =>
      cases b with
      | cons b c =>
        cases c with
        | cons c d =>
          cases d with
          | cons d e =>
            cases e
            exact ⟨_, _, _, _, _, rfl, h1, a, b, c, d⟩
theorem rp_mk4 {α β γ δ : Type} {f : α → PyData} {g : β → PyData} {h : γ → PyData} {i : δ → PyData} {H : Hp} {a : Addr} {v1 v2 v3 v4 : V} {x : α} {y : β} {z : γ} {w : δ} (h1 : H a = some (.tup [v1, v2, v3, v4])) (r1 : Rp H v1 (f x)) (r2 : Rp H v2 (g y)) (r3 : Rp H v3 (h z)) (r4 : Rp H v4 (i w)) : Rp H (.ref a) (encT4 f g h i (x, y, z, w)) := .tup h1 (.cons r1 (.cons r2 (.cons r3 (.cons r4 .nil))))
theorem Sep.b0M {M : List Addr} {H0 G0 G H : Hp} {O : List Addr} (S : Sep M H0 G0 G H O) (h : ∀ a ∈ M, H a = H0 a) : Same H0 H := fun b o e => by
  by_cases z : b ∈ M
  · rw [h b z]
    exact e
  · exact S.base b o e z
section
variable {X : Cx} {k j n : Nat} {f C : Addr} {fd : FuncData} {ps ks : List Str} {g : List V → List V → List V} {sp : Sp} {x m : Str} {pos p apos : Pos} {e o : Expr} {es : List Expr} {kws : List Keyword} {ta : TE} {t tk : TA} {W : WX}
/-- keywords alone -/
theorem vx_makeXK {pats : List Pat} (c : MakX X.prog X.w X.K X.mg X.base k x C sp pats) (pt : Pat) (hpt : pt ∈ pats) (hr : RoomG j X.A) (hk : k + 1 ≤ j) (tkW : Takes X W) (hg : Gl X x) (hkw : PK X kws tk)
    (hall : (backToKw pos (keywordEach kws X.env)).all (·.1.isSome) = true := by rfl) (hks : (backToKw pos (keywordEach kws X.env)).filterMap (·.1) = pt.2.1 := by rfl) (hdb : (x == ("__debug__" : Str)) = false := by decide)
    (hpl : ((backTo pos (starEach [] X.env)).any (·.1) || (backToKw pos (keywordEach kws X.env)).any (·.1.isNone)) = false := by rfl) :
    PE X (.Call (.Name x p) [] kws pos) (tMakeX C pt.1 pt.2.1.length sp pt.2.2 W tNil tk) := by
  obtain ⟨f, fd, ps, M, F, hm, b⟩ := c.ex
  refine ⟨fun pins s σ H Q I h => ?_⟩
  refine wpAny_Call_Name_kw (ld_glob I hg hm ?_ hdb)
  refine PySem.W.callWith_KW0 (h₀ := X.base) I.ok.mod.kin M.kp hall ?_ hpl
  refine thn (hkw.run pos pins s σ H _ I h) fun ws s2 ⟨zs, H2, I2, rz, l1, l2, q2⟩ => ⟨I2.kIn, ?_⟩
  rw [hks]
  exact run_mkX (us := []) (vs := []) M F (hr.low hk) (b pt hpt) tkW I2 .nil rz l1 l2 q2
theorem vx_callXK {pats : List Pat} (c : CalX X.prog X.w X.K X.mg X.base k x sp pats) (pt : Pat) (hpt : pt ∈ pats) (hr : RoomG j X.A) (hk : k ≤ j) (tkW : Takes X W) (hg : Gl X x) (hkw : PK X kws tk)
    (hall : (backToKw pos (keywordEach kws X.env)).all (·.1.isSome) = true := by rfl) (hks : (backToKw pos (keywordEach kws X.env)).filterMap (·.1) = pt.2.1 := by rfl) (hdb : (x == ("__debug__" : Str)) = false := by decide)
    (hpl : ((backTo pos (starEach [] X.env)).any (·.1) || (backToKw pos (keywordEach kws X.env)).any (·.1.isNone)) = false := by rfl) :
    PE X (.Call (.Name x p) [] kws pos) (tCallX pt.1 pt.2.1.length sp pt.2.2 W tNil tk) := by
  obtain ⟨f, fd, ps, F, hm, kp, b⟩ := c.ex
  refine ⟨fun pins s σ H Q I h => ?_⟩
  refine wpAny_Call_Name_kw (ld_glob I hg hm ?_ hdb)
  refine PySem.W.callWith_KW0 (h₀ := X.base) I.ok.mod.kin kp hall ?_ hpl
  refine thn (hkw.run pos pins s σ H _ I h) fun ws s2 ⟨zs, H2, I2, rz, l1, l2, q2⟩ => ⟨I2.kIn, ?_⟩
  rw [hks]
  exact run_X (us := []) (vs := []) F (hr.low hk) (b pt hpt) tkW I2 .nil rz l1 l2 q2
theorem vx_methXK {pats : List Pat} {pl : Sem Bool} (c : MetX X.prog X.w X.K X.mg X.base k C m sp pats) (pt : Pat) (hpt : pt ∈ pats) (hr : RoomG j X.A) (hk : k ≤ j) (tkW : Takes X W) (he : PE X o ta) (hkw : PK X kws tk)
    (hall : (backToKw pos (keywordEach kws X.env)).all (·.1.isSome) = true := by rfl) (hks : (backToKw pos (keywordEach kws X.env)).filterMap (·.1) = pt.2.1 := by rfl)
    (hpl : ((backTo pos (starEach [] X.env)).any (·.1) || (backToKw pos (keywordEach kws X.env)).any (·.1.isNone)) = false := by rfl)
    (ht : eval (.Call (.Attribute o m apos) [] kws pos) X.env = (do
      let ov ← eval o X.env
      standAt apos.atName
      let (f, first) ← holding [ov] (getMethod ov m pl)
      callWith pos f first (backTo pos (starEach [] X.env)) (backToKw pos (keywordEach kws X.env))) := by rfl) :
    PE X (.Call (.Attribute o m apos) [] kws pos) (tMethX C m pt.1 pt.2.1.length sp pt.2.2 W ta tNil tk) := by
  obtain ⟨f, fd, ps, hc, hm, F, b⟩ := c.ex
  refine ⟨fun pins s σ H Q I h => ?_⟩
  refine PySem.W.methodCall_KW (pl := pl) (thn (he.run pins s σ H _ I h) fun u s1 ⟨x, H1, I1, rx, a, dx, fs, ex, ea, l, q⟩ => ?_) ht
  subst ex
  obtain rfl : u = Value.ref a := rx
  refine getmeth_ok I1 ea hc hm l ?_
  refine PySem.W.callWith_KW0 (first := [.ref a]) (h₀ := X.base) I.ok.mod.kin hm.kp hall ?_ hpl
  refine thn (hkw.run pos pins s1 σ H1 _ I1 q) fun ws s3 ⟨zs, H3, I3, rz, l1, l2, q3⟩ => ⟨I3.kIn, ?_⟩
  rw [hks]
  exact run_X (us := [.ref a]) (vs := [.ref a]) F (hr.low hk) (b pt hpt) tkW I3 (.cons rfl .nil) rz l1 l2 q3
end
end Vx
/-! # lists within lists that are owned as a whole -/
namespace Vx
open PySem PySem.Spec PyProof.Rows L2
inductive Kd where
  | lst
  | tup
  | ins (C dx : Addr) (ns : List Str)
def Kd.ho : Kd → List V → HO
  | .lst, vs => .lst vs
  | .tup, vs => .tup vs
  | .ins C dx ns, vs => .ins C dx (ns.zip vs)
/-- what stands in the heap as a tree: values as they are, data that stay, nodes of its own -/
inductive Dt where
  | val (v : V)
  | frz (d : PyData)
  | nod (k : Kd) (xs : List Dt)
mutual
inductive Ow (G H : Hp) : List Addr → V → Dt → Prop
  | val (v : V) : Ow G H [] v (.val v)
  | frz {v : V} {d : PyData} : Rp G v d → Ow G H [] v (.frz d)
  | nod {a : Addr} {k : Kd} {vs : List V} {ds : List Dt} {L : List Addr} : H a = some (k.ho vs) → OwAll G H L vs ds → a ∉ L → Ow G H (a :: L) (.ref a) (.nod k ds)
inductive OwAll (G H : Hp) : List Addr → List V → List Dt → Prop
  | nil : OwAll G H [] [] []
  | cons {L1 L2 : List Addr} {v : V} {vs : List V} {d : Dt} {ds : List Dt} : Ow G H L1 v d → OwAll G H L2 vs ds → (∀ b ∈ L1, b ∉ L2) → OwAll G H (L1 ++ L2) (v :: vs) (d :: ds)
end
def Keeps (L : List Addr) (H H' : Hp) : Prop := ∀ b ∈ L, ∀ o, H b = some o → H' b = some o
mutual
theorem Ow.mono {G G' H H' : Hp} (e : Same G G') : ∀ {L : List Addr} {v : V} {d : Dt}, Keeps L H H' → Ow G H L v d → Ow G' H' L v d
  | _, _, _, _, .val v => .val v
  | _, _, _, _, .frz r => .frz (r.mono e)
  | _, _, _, k, .nod h r n => .nod (k _ List.mem_cons_self _ h) (OwAll.mono e (fun b hb => k b (List.mem_cons_of_mem _ hb)) r) n
theorem OwAll.mono {G G' H H' : Hp} (e : Same G G') : ∀ {L : List Addr} {vs : List V} {ds : List Dt}, Keeps L H H' → OwAll G H L vs ds → OwAll G' H' L vs ds
  | _, _, _, _, .nil => .nil
  | _, _, _, k, .cons a r d => .cons (Ow.mono e (fun b hb => k b (List.mem_append_left _ hb)) a) (OwAll.mono e (fun b hb => k b (List.mem_append_right _ hb)) r) d
end
mutual
theorem Ow.there {G H : Hp} : ∀ {L : List Addr} {v : V} {d : Dt}, Ow G H L v d → ∀ b ∈ L, H b ≠ none
  | _, _, _, .val _, _, hb => nomatch hb
  | _, _, _, .frz _, _, hb => nomatch hb
  | _, _, _, .nod h r n, b, hb => by
    rcases List.mem_cons.mp hb with rfl | hb
    · exact some_ne h
    · exact OwAll.there r b hb
theorem OwAll.there {G H : Hp} : ∀ {L : List Addr} {vs : List V} {ds : List Dt}, OwAll G H L vs ds → ∀ b ∈ L, H b ≠ none
  | _, _, _, .nil, _, hb => nomatch hb
  | _, _, _, .cons a r d, b, hb => by
    rcases List.mem_append.mp hb with hb | hb
    · exact Ow.there a b hb
    · exact OwAll.there r b hb
end
theorem OwAll.len {G H : Hp} : ∀ {L : List Addr} {vs : List V} {ds : List Dt}, OwAll G H L vs ds → vs.length = ds.length
  | _, _, _, .nil => rfl
  | _, _, _, .cons _ r _ => congrArg Nat.succ r.len
theorem OwAll.snoc {G H : Hp} {L1 : List Addr} {v : V} {d : Dt} (h : Ow G H L1 v d) : ∀ {L : List Addr} {vs : List V} {ds : List Dt}, OwAll G H L vs ds → (∀ b ∈ L, b ∉ L1) → OwAll G H (L ++ L1) (vs ++ [v]) (ds ++ [d])
  | _, _, _, .nil, _ => by
    have z : OwAll G H (L1 ++ []) [v] [d] := .cons h .nil (fun _ _ z => nomatch z)
    rw [List.append_nil] at z
    exact z
  | _, _, _, .cons (L1 := La) (L2 := Lb) a r n, k => by
    have z := OwAll.cons a (OwAll.snoc h r fun b hb => k b (List.mem_append_right _ hb)) (fun b hb q => by
      rcases List.mem_append.mp q with q | q
      · exact n b hb q
      · exact k b (List.mem_append_left _ hb) q)
    rw [← List.append_assoc] at z
    exact z
theorem OwAll.app {G H : Hp} {L2 : List Addr} {ws : List V} {es : List Dt} (h : OwAll G H L2 ws es) : ∀ {L : List Addr} {vs : List V} {ds : List Dt}, OwAll G H L vs ds → (∀ b ∈ L, b ∉ L2) → OwAll G H (L ++ L2) (vs ++ ws) (ds ++ es)
  | _, _, _, .nil, _ => h
  | _, _, _, .cons (L1 := La) (L2 := Lb) a r n, k => by
    have z := OwAll.cons a (OwAll.app h r fun b hb => k b (List.mem_append_right _ hb)) (fun b hb q => by
      rcases List.mem_append.mp q with q | q
      · exact n b hb q
      · exact k b (List.mem_append_left _ hb) q)
    rw [← List.append_assoc] at z
    exact z
/-! ### trees that are data -/
mutual
inductive Dd : Dt → PyData → Prop
  | non : Dd (.val .non) .none
  | bl (b : Bool) : Dd (.val (.bl b)) (.bool b)
  | int (i : Int) : Dd (.val (.int i)) (.int i)
  | str (x : Str) : Dd (.val (.str x)) (.str x)
  | frz (d : PyData) : Dd (.frz d) d
  | lst {xs : List Dt} {ds : List PyData} : DdAll xs ds → Dd (.nod .lst xs) (.list ds)
  | tup {xs : List Dt} {ds : List PyData} : DdAll xs ds → Dd (.nod .tup xs) (.tuple ds)
inductive DdAll : List Dt → List PyData → Prop
  | nil : DdAll [] []
  | cons {x : Dt} {xs : List Dt} {d : PyData} {ds : List PyData} : Dd x d → DdAll xs ds → DdAll (x :: xs) (d :: ds)
end
mutual
/-- read in any heap that holds its nodes -/
theorem Ow.rp {G H I : Hp} (e : Same G I) : ∀ {L : List Addr} {v : V} {d : Dt} {p : PyData}, Keeps L H I → Ow G H L v d → Dd d p → Rp I v p
  | _, _, _, _, _, .val _, .non => .non
  | _, _, _, _, _, .val _, .bl b => .bl b
  | _, _, _, _, _, .val _, .int i => .int i
  | _, _, _, _, _, .val _, .str x => .str x
  | _, _, _, _, _, .frz r, .frz _ => r.mono e
  | _, _, _, _, k, .nod h r _, .lst q => .lst (k _ List.mem_cons_self _ h) (OwAll.rp e (fun b hb => k b (List.mem_cons_of_mem _ hb)) r q)
  | _, _, _, _, k, .nod h r _, .tup q => .tup (k _ List.mem_cons_self _ h) (OwAll.rp e (fun b hb => k b (List.mem_cons_of_mem _ hb)) r q)
theorem OwAll.rp {G H I : Hp} (e : Same G I) : ∀ {L : List Addr} {vs : List V} {ds : List Dt} {ps : List PyData}, Keeps L H I → OwAll G H L vs ds → DdAll ds ps → RpAll I vs ps
  | _, _, _, _, _, .nil, .nil => .nil
  | _, _, _, _, k, .cons a r _, .cons x xs => .cons (Ow.rp e (fun b hb => k b (List.mem_append_left _ hb)) a x) (OwAll.rp e (fun b hb => k b (List.mem_append_right _ hb)) r xs)
end
def oI (i : Int) : Dt := .val (.int i)
def oB (b : Bool) : Dt := .val (.bl b)
def oF {α : Type} (f : α → PyData) (x : α) : Dt := .frz (f x)
def oL {α : Type} (f : α → Dt) (xs : List α) : Dt := .nod .lst (xs.map f)
def EncO {α : Type} (f : α → Dt) (g : α → PyData) : Prop := ∀ x, Dd (f x) (g x)
theorem encO_I : EncO oI PyData.int := fun i => .int i
theorem encO_B : EncO oB PyData.bool := fun i => .bl i
theorem encO_F {α : Type} {f : α → PyData} : EncO (oF f) f := fun _ => .frz _
theorem EncO.all {α : Type} {f : α → Dt} {g : α → PyData} (h : EncO f g) : ∀ xs : List α, DdAll (xs.map f) (xs.map g)
  | [] => .nil
  | x :: xs => .cons (h x) (EncO.all h xs)
theorem encO_L {α : Type} {f : α → Dt} {g : α → PyData} (h : EncO f g) : EncO (oL f) (encL g) := fun xs => .lst (h.all xs)
theorem keeps_same {L : List Addr} {H H' : Hp} (e : Same H H') : Keeps L H H' := fun b _ o q => e b o q
theorem keeps_refl {L : List Addr} {H : Hp} : Keeps L H H := fun _ _ _ q => q
theorem keeps_mut {L : List Addr} {H H' : Hp} {m : Addr} (x : SameX m H H') (n : ∀ b ∈ L, b ≠ m) : Keeps L H H' := fun b hb o q => x b o q (n b hb)
theorem keeps_muts {L M : List Addr} {H H' : Hp} (x : SameXs M H H') (n : ∀ b ∈ L, b ∉ M) : Keeps L H H' := fun b hb o q => x b o q (n b hb)
theorem keeps_hide {L M : List Addr} {H : Hp} (n : ∀ b ∈ L, b ∉ M) : Keeps L H (hideL M H) := fun b hb o q => by
  rw [hideL_out (n b hb)]
  exact q
section
variable {α : Type} {f : α → Dt} {g : α → PyData} {G H I : Hp} {L : List Addr} {vs : List V} {xs : List α}
theorem OwAll.rpA (w : OwAll G H L vs (xs.map f)) (h : EncO f g) (e : Same G H) : RpAll H vs (xs.map g) := OwAll.rp e keeps_refl w (h.all xs)
theorem OwAll.rpH (w : OwAll G H L vs (xs.map f)) (h : EncO f g) (e : Same G I) (k : Keeps L H I) : RpAll I vs (xs.map g) := OwAll.rp e k w (h.all xs)
theorem OwAll.lenM (w : OwAll G H L vs (xs.map f)) : vs.length = xs.length := by rw [w.len, List.length_map]
theorem OwAll.snocM {L1 : List Addr} {v : V} {y : α} (w : OwAll G H L vs (xs.map f)) (h : Ow G H L1 v (f y)) (n : ∀ b ∈ L, b ∉ L1) : OwAll G H (L ++ L1) (vs ++ [v]) ((xs ++ [y]).map f) := by
  rw [List.map_append]
  exact OwAll.snoc h w n
theorem Ow.ints {a : Addr} {ys : List Int} (h : H a = some (.lst (ys.map V.int))) : Ow G H [a] (.ref a) (oL oI ys) := by
  have z : ∀ ys : List Int, OwAll G H [] (ys.map V.int) (ys.map oI) := fun ys => by
    induction ys with
    | nil => exact .nil
    | cons y r ih => exact .cons (L1 := []) (L2 := []) (.val _) ih (fun _ z => nomatch z)
  exact .nod (k := .lst) h (z ys) (fun z => nomatch z)
theorem Ow.list {a : Addr} {xs : List α} {L : List Addr} {vs : List V} (h : H a = some (.lst vs)) (w : OwAll G H L vs (xs.map f)) (n : ∀ b ∈ L, b ≠ a) : Ow G H (a :: L) (.ref a) (oL f xs) := .nod (k := .lst) h w (fun z => n a z rfl)
theorem Ow.toList {v : V} {L : List Addr} {xs : List α} (w : Ow G H L v (oL f xs)) : ∃ a vs L', v = .ref a ∧ L = a :: L' ∧ H a = some (.lst vs) ∧ OwAll G H L' vs (xs.map f) ∧ ∀ b ∈ L', b ≠ a := by
  unfold oL at w
  cases w with
  | nod h r n => exact ⟨_, _, _, rfl, rfl, h, r, fun b hb z => n (z ▸ hb)⟩
theorem OwAll.toInts : ∀ {L : List Addr} {vs : List V} {xs : List Int}, OwAll G H L vs (xs.map oI) → L = [] ∧ vs = xs.map V.int
  | _, _, [], .nil => ⟨rfl, rfl⟩
  | _, _, x :: xs, .cons a r _ => by
    obtain ⟨h1, h2⟩ := OwAll.toInts r
    cases a
    exact ⟨by rw [h1] <;> rfl, by rw [h2] <;> rfl⟩
theorem Ow.toInts {v : V} {L : List Addr} {xs : List Int} (w : Ow G H L v (oL oI xs)) : ∃ a, v = .ref a ∧ L = [a] ∧ H a = some (.lst (xs.map V.int)) := by
  obtain ⟨a, vs, L', rfl, rfl, h, r, _⟩ := w.toList
  obtain ⟨rfl, rfl⟩ := r.toInts
  exact ⟨a, rfl, rfl, h⟩
/-- the part at a place, and how a change of it alone changes the whole -/
theorem OwAll.part : ∀ {L : List Addr} {vs : List V} {ds : List Dt} {i : Nat} {d : Dt}, OwAll G H L vs ds → ds[i]? = some d → ∃ v L1, vs[i]? = some v ∧ Ow G H L1 v d ∧ (∀ b ∈ L1, b ∈ L) ∧
    ∀ H' d', (∀ b ∈ L, b ∉ L1 → ∀ o, H b = some o → H' b = some o) → Ow G H' L1 v d' → OwAll G H' L vs (ds.set i d')
  | _, _, _, _, _, .nil, h => by simp at h
  | _, _, _, 0, _, .cons (L1 := La) (L2 := Lb) a r n, h => by
    simp at h
    subst h
    refine ⟨_, La, rfl, a, fun b hb => List.mem_append_left _ hb, fun H' d' k w => ?_⟩
    exact .cons w (OwAll.mono (Same.refl G) (fun b hb => k b (List.mem_append_right _ hb) fun z => n b z hb) r) n
  | _, _, _, i + 1, _, .cons (L1 := La) (L2 := Lb) a r n, h => by
    obtain ⟨v, L1, h1, h2, h3, h4⟩ := OwAll.part (i := i) r (by simpa using h)
    refine ⟨v, L1, by simpa using h1, h2, fun b hb => List.mem_append_right _ (h3 b hb), fun H' d' k w => ?_⟩
    refine .cons (Ow.mono (Same.refl G) (fun b hb => k b (List.mem_append_left _ hb) fun z => n b hb (h3 b z)) a) (h4 H' d' (fun b hb nb => k b (List.mem_append_right _ hb) nb) w) n
/-- the same, where the part grows: its new footprint is the old one and what is new -/
theorem OwAll.part2 : ∀ {L : List Addr} {vs : List V} {ds : List Dt} {i : Nat} {d : Dt}, OwAll G H L vs ds → ds[i]? = some d → ∃ v L1, vs[i]? = some v ∧ Ow G H L1 v d ∧ (∀ b ∈ L1, b ∈ L) ∧
    (∀ H' d', (∀ b ∈ L, b ∉ L1 → ∀ o, H b = some o → H' b = some o) → Ow G H' L1 v d' → OwAll G H' L vs (ds.set i d')) ∧
    ∀ H' d' Fv L1', (∀ b ∈ L, b ∉ L1 → ∀ o, H b = some o → H' b = some o) → (∀ b ∈ L1', b ∈ L1 ++ Fv) → (∀ b ∈ Fv, b ∉ L) → Ow G H' L1' v d' → ∃ L', (∀ b ∈ L', b ∈ L ++ Fv) ∧ OwAll G H' L' vs (ds.set i d')
  | _, _, _, _, _, .nil, h => by simp at h
  | _, _, _, 0, _, .cons (L1 := La) (L2 := Lb) a r n, h => by
    simp at h
    subst h
    refine ⟨_, La, rfl, a, fun b hb => List.mem_append_left _ hb, fun H' d' k w => ?_, fun H' d' Fv L1' k s nf w => ⟨L1' ++ Lb, fun b hb => ?_, ?_⟩⟩
    · exact .cons w (OwAll.mono (Same.refl G) (fun b hb => k b (List.mem_append_right _ hb) fun z => n b z hb) r) n
    · rcases List.mem_append.mp hb with hb | hb
      · rcases List.mem_append.mp (s b hb) with q | q
        · exact List.mem_append_left _ (List.mem_append_left _ q)
        · exact List.mem_append_right _ q
      · exact List.mem_append_left _ (List.mem_append_right _ hb)
    · refine .cons w (OwAll.mono (Same.refl G) (fun b hb => k b (List.mem_append_right _ hb) fun z => n b z hb) r) fun b hb q => ?_
      rcases List.mem_append.mp (s b hb) with z | z
      · exact n b z q
      · exact nf b z (List.mem_append_right _ q)
  | _, _, _, i + 1, _, .cons (L1 := La) (L2 := Lb) a r n, h => by
    obtain ⟨v, L1, h1, h2, h3, h4, h5⟩ := OwAll.part2 (i := i) r (by simpa using h)
    refine ⟨v, L1, by simpa using h1, h2, fun b hb => List.mem_append_right _ (h3 b hb), fun H' d' k w => ?_, fun H' d' Fv L1' k s nf w => ?_⟩
    · refine .cons (Ow.mono (Same.refl G) (fun b hb => k b (List.mem_append_left _ hb) fun z => n b hb (h3 b z)) a) (h4 H' d' (fun b hb nb => k b (List.mem_append_right _ hb) nb) w) n
    · obtain ⟨L', s2, z⟩ := h5 H' d' Fv L1' (fun b hb nb => k b (List.mem_append_right _ hb) nb) s (fun b hb q => nf b hb (List.mem_append_right _ q)) w
      refine ⟨La ++ L', fun b hb => ?_, .cons (Ow.mono (Same.refl G) (fun b hb => k b (List.mem_append_left _ hb) fun z => n b hb (h3 b z)) a) z fun b hb q => ?_⟩
      · rcases List.mem_append.mp hb with hb | hb
        · exact List.mem_append_left _ (List.mem_append_left _ hb)
        · rcases List.mem_append.mp (s2 b hb) with q | q
          · exact List.mem_append_left _ (List.mem_append_right _ q)
          · exact List.mem_append_right _ q
      · rcases List.mem_append.mp (s2 b q) with y | y
        · exact n b hb y
        · exact nf b y (List.mem_append_left _ hb)
theorem OwAll.partM [Inhabited α] {k : Int} (w : OwAll G H L vs (xs.map f)) (h : -(xs.length : Int) ≤ k ∧ k < xs.length) : ∃ v L1, atI vs k = some v ∧ Ow G H L1 v (f (itD xs k)) ∧ (∀ b ∈ L1, b ∈ L) ∧
    (∀ H' y, (∀ b ∈ L, b ∉ L1 → ∀ o, H b = some o → H' b = some o) → Ow G H' L1 v (f y) → OwAll G H' L vs ((setL xs k y).map f)) ∧
    ∀ H' y Fv L1', (∀ b ∈ L, b ∉ L1 → ∀ o, H b = some o → H' b = some o) → (∀ b ∈ L1', b ∈ L1 ++ Fv) → (∀ b ∈ Fv, b ∉ L) → Ow G H' L1' v (f y) → ∃ L', (∀ b ∈ L', b ∈ L ++ Fv) ∧ OwAll G H' L' vs ((setL xs k y).map f) := by
  obtain ⟨j, e, hj⟩ := ixN_some h
  have hx := List.getElem?_eq_getElem hj
  obtain ⟨v, L1, h1, h2, h3, h4, h5⟩ := OwAll.part2 (i := j) (d := f xs[j]) w (by rw [List.getElem?_map, hx] <;> rfl)
  have ei : itD xs k = xs[j] := by
    unfold itD atI
    rw [e]
    show (xs[j]?).getD default = _
    rw [hx] <;> rfl
  refine ⟨v, L1, ?_, by rw [ei]; exact h2, h3, fun H' y q w2 => ?_, fun H' y Fv L1' q s nf w2 => ?_⟩
  · unfold atI
    rw [w.lenM, e]
    exact h1
  · have z := h4 H' (f y) q w2
    unfold setL
    rw [e, List.map_set]
    exact z
  · obtain ⟨L', s2, z⟩ := h5 H' (f y) Fv L1' q s nf w2
    refine ⟨L', s2, ?_⟩
    unfold setL
    rw [e, List.map_set]
    exact z
theorem grow_keeps {L L1 : List Addr} {m : Addr} {H H1 H2 : Hp} (e : Same H H1) (x : SameX m H1 H2) (hm : m ∈ L1) : ∀ b ∈ L, b ∉ L1 → ∀ o, H b = some o → H2 b = some o := fun b _ n o q => x b o (e b o q) (fun z => n (z ▸ hm))
theorem grow_sub {a : Addr} {L' Lr Fv : List Addr} (h : ∀ b ∈ L', b ∈ Lr ++ Fv) : ∀ b ∈ a :: L', b ∈ (a :: Lr) ++ Fv := fun b hb => by
  rcases List.mem_cons.mp hb with rfl | hb
  · exact List.mem_cons_self
  · exact List.mem_cons_of_mem _ (h b hb)
/-- the item of a turn -/
theorem OwAll.turn {i : Nat} {v : V} (w : OwAll G H L vs (xs.map f)) (h : vs[i]? = some v) : ∃ x L1, xs[i]? = some x ∧ Ow G H L1 v (f x) ∧ ∀ b ∈ L1, b ∈ L := by
  have hl := get_len h
  have e := w.lenM
  have hx := List.getElem?_eq_getElem (show i < xs.length by omega)
  obtain ⟨v2, L1, h1, h2, h3, _⟩ := OwAll.part (i := i) (d := f xs[i]) w (by rw [List.getElem?_map, hx] <;> rfl)
  rw [h] at h1
  cases h1
  exact ⟨_, L1, hx, h2, h3⟩
end
/-! ### what is owned, in pieces -/
theorem all_app {P : Addr → Prop} {L l : List Addr} (h : ∀ x ∈ L, P x) (t : ∀ x ∈ l, P x) : ∀ x ∈ L ++ l, P x := fun x hx => by
  rcases List.mem_append.mp hx with q | q
  · exact h x q
  · exact t x q
theorem nm_nil {a : Addr} : a ∉ ([] : List Addr) := fun z => nomatch z
theorem nm_cons {a m : Addr} {l : List Addr} (h : a ≠ m) (t : a ∉ l) : a ∉ m :: l := fun z => by
  rcases List.mem_cons.mp z with q | q
  · exact h q
  · exact t q
theorem nm_app {a : Addr} {L l : List Addr} (h : a ∉ L) (t : a ∉ l) : a ∉ L ++ l := fun z => by
  rcases List.mem_append.mp z with q | q
  · exact h q
  · exact t q
theorem there_ne {H : Hp} {L : List Addr} {x : Addr} (t : ∀ b ∈ L, H b ≠ none) (n : H x = none) : ∀ b ∈ L, b ≠ x := fun b hb z => t b hb (z ▸ n)
theorem new_ne {H : Hp} {L : List Addr} {x : Addr} {o : HO} (n : ∀ b ∈ L, H b = none) (h : H x = some o) : ∀ b ∈ L, b ≠ x := fun b hb z => by
  have := n b hb
  rw [z, h] at this
  cases this
theorem new_nl {H : Hp} {L L2 : List Addr} (n : ∀ b ∈ L, H b = none) (t : ∀ b ∈ L2, H b ≠ none) : ∀ b ∈ L, b ∉ L2 := fun b hb z => t b z (n b hb)
theorem nl_symm {L L2 : List Addr} (h : ∀ b ∈ L, b ∉ L2) : ∀ b ∈ L2, b ∉ L := fun b hb z => h b z hb
theorem none_of_same {H H' : Hp} {x : Addr} (e : Same H H') (n : H' x = none) : H x = none := by
  cases q : H x with
  | none => rfl
  | some o =>
    rw [e x o q] at n
    cases n
section
variable {M : List Addr} {H0 G0 G H H' : Hp} {O L : List Addr} {p m : Addr} {o : HO}
theorem Sep.h0 (S : Sep M H0 G0 G H O) {b : Addr} (hb : b ∈ O) (hM : b ∉ M) : H0 b = none := (S.ow b hb).2.2.elim (fun z => (hM z).elim) id
theorem g_nl {a : Addr} {o : HO} (h : G a = some o) (S : Sep M H0 G0 G H O) (hL : ∀ b ∈ L, b ∈ O) : ∀ b ∈ L, b ≠ a := fun b hb => (g_ne h S (hL b hb)).symm
theorem b_nl {a : Addr} {o : HO} (h : (hideL M H0) a = some o) (S : Sep M H0 G0 G H O) (hL : ∀ b ∈ L, b ∈ O) : ∀ b ∈ L, b ≠ a := fun b hb => (b_ne h S (hL b hb)).symm
/-- a whole tree that is to stay as it is -/
theorem Sep.freezeL (S : Sep M H0 G0 G H O) {O' : List Addr} (hL : ∀ b ∈ L, b ∈ O) (h0 : ∀ b ∈ L, H0 b = none) (hO : ∀ b ∈ O', b ∈ O ∧ b ∉ L) : ∃ G', Same G G' ∧ Keeps L H G' ∧ Sep M H0 G0 G' H O' := by
  have gn : ∀ b ∈ L, G b = none := fun b hb => (S.ow b (hL b hb)).1
  refine ⟨fun b => if b ∈ L then H b else G b, fun b u q => ?_, fun b hb u q => ?_, S.base, S.pm, fun b u q => ?_, fun b u q => ?_, fun b hb gb => ?_, fun a ha => ?_⟩
  · have n : b ∉ L := fun z => by
      rw [gn b z] at q
      cases q
    show (if b ∈ L then H b else G b) = _
    rw [if_neg n]
    exact q
  · show (if b ∈ L then H b else G b) = _
    rw [if_pos hb]
    exact q
  · by_cases z : b ∈ L
    · exact (if_pos z).symm.trans q
    · exact S.sG b u ((if_neg z).symm.trans q)
  · have z : b ∉ L := fun z => by
      have := S.g0 b u q
      rw [gn b z] at this
      cases this
    show (if b ∈ L then H b else G b) = _
    rw [if_neg z]
    exact S.g0 b u q
  · have z : b ∉ L := fun z => hb (h0 b z)
    show (if b ∈ L then H b else G b) = _
    rw [if_neg z]
    exact S.gn b hb gb
  · obtain ⟨h1, h2⟩ := hO a ha
    refine ⟨?_, (S.ow a h1).2⟩
    show (if a ∈ L then H a else G a) = _
    rw [if_neg h2]
    exact (S.ow a h1).1
/-- a callee hands over a list of lists of its own making -/
theorem Sep.steptree (S : Sep M H0 G0 G H O) {G' : Hp} (e : Same H H') (eG : Same G G') (sG : Same G' H') (hn : ∀ b, H b ≠ none → G b = none → G' b = none) (L : List Addr) (hL : ∀ b ∈ L, H b = none ∧ G' b = none ∧ H' b ≠ none) : Sep M H0 G0 G' H' (L ++ O) := by
  have S2 := S.step e eG sG hn
  refine ⟨S2.base, S2.pm, S2.sG, S2.g0, S2.gn, all_app (fun b hb => ⟨(hL b hb).2.1, (hL b hb).2.2, .inr (S.free (hL b hb).1)⟩) S2.ow⟩
end
theorem Rp.list_of {α : Type} {g : α → PyData} {H : Hp} {a : Addr} {vs : List V} {xs : List α} (h : H a = some (.lst vs)) (r : RpAll H vs (xs.map g)) : Rp H (.ref a) (encL g xs) := .lst h r
/-! ### repr of data -/
mutual
def nodes : PyData → Nat
  | .list xs => 1 + nodesAll xs
  | .tuple xs => 1 + nodesAll xs
  | _ => 1
def nodesAll : List PyData → Nat
  | [] => 0
  | x :: xs => nodes x + nodesAll xs
end
mutual
def smallD : PyData → Bool
  | .none => true
  | .bool _ => true
  | .int i => decide (i.natAbs < 10 ^ 19)
  | .str x => decide ((reprText x).length ≤ 20)
  | .list xs => smallAll xs
  | .tuple xs => smallAll xs
  | _ => false
def smallAll : List PyData → Bool
  | [] => true
  | x :: xs => smallD x && smallAll xs
end
theorem piled_list (ts : List Str) : (listText ts).length ≤ piled ts + 2 := by
  cases ts with
  | nil => exact Nat.le_refl 2
  | cons t r =>
    have e : (listText (t :: r)).length = (textFrom 1 ("[" ++ ("" : String) ++ t) r).length + 1 := by
      show (textFrom 0 "[" (t :: r) ++ "]").length = _
      rw [strLen_append]
      rfl
    rw [e, textFrom_length_pos r 1 _ (by decide), piled_cons, strLen_append, strLen_append]
    have h1 : (("[" : String) : Str).length = 1 := rfl
    have h2 : (("" : String) : Str).length = 0 := rfl
    omega
theorem piled_tup (ts : List Str) : (tupleText ts).length ≤ piled ts + 3 := by
  unfold tupleText
  rw [strLen_append, strLen_append]
  have h1 : (("(" : String) : Str).length = 1 := rfl
  have h2 : (((if ts.length == 1 then ",)" else ")" : String) : Str)).length ≤ 2 := by split <;> decide
  by_cases h : ts = []
  · subst h
    exact Nat.le_of_lt (by decide)
  · have := join_length_add ts h
    omega
mutual
theorem small_shown : ∀ d : PyData, smallD d = true → d.shown.length + 4 ≤ 26 * nodes d ∧ d.showable = true ∧ d.hasDict = false
  | .none, _ => ⟨by simp only [PyData.shown, nodes]; decide, by simp [PyData.showable], by simp [PyData.hasDict]⟩
  | .bool b, _ => ⟨by cases b <;> simp only [PyData.shown, nodes] <;> decide, by simp [PyData.showable], by simp [PyData.hasDict]⟩
  | .int i, h => by
    have h : i.natAbs < 10 ^ 19 := by simpa [smallD] using h
    refine ⟨?_, ?_, by simp [PyData.hasDict]⟩
    · have := int_text_length_le10 (k := 19) (by decide) h
      simp only [PyData.shown, nodes]
      rw [PySem.ofString_length]
      omega
    · simp only [PyData.showable, decide_eq_true_eq]
      have : i.natAbs < 2 ^ 64 := by omega
      rcases Nat.eq_zero_or_pos i.natAbs with z | z
      · rw [z]
        decide
      · have := (Nat.log2_lt (by omega)).mpr this
        omega
  | .str x, h => by
    have h : (reprText x).length ≤ 20 := by simpa [smallD] using h
    refine ⟨by simp only [PyData.shown, nodes]; omega, by simp [PyData.showable], by simp [PyData.hasDict]⟩
  | .list xs, h => by
    obtain ⟨h1, h2, h3⟩ := small_shownAll xs (by simpa [smallD] using h)
    refine ⟨?_, by simpa [PyData.showable] using h2, by simpa [PyData.hasDict] using h3⟩
    have := piled_list (PyData.shownAll xs)
    simp only [PyData.shown, nodes]
    omega
  | .tuple xs, h => by
    obtain ⟨h1, h2, h3⟩ := small_shownAll xs (by simpa [smallD] using h)
    refine ⟨?_, by simpa [PyData.showable] using h2, by simpa [PyData.hasDict] using h3⟩
    have := piled_tup (PyData.shownAll xs)
    simp only [PyData.shown, nodes]
    omega
  | .dict kvs, h => by simp [smallD] at h
theorem small_shownAll : ∀ ds : List PyData, smallAll ds = true → piled (PyData.shownAll ds) ≤ 26 * nodesAll ds ∧ PyData.showableAll ds = true ∧ PyData.hasDictAll ds = false
  | [], _ => ⟨by simp [PyData.shownAll, nodesAll, piled], by simp [PyData.showableAll], by simp [PyData.hasDictAll]⟩
  | d :: ds, h => by
    have h : smallD d = true ∧ smallAll ds = true := by simpa [smallAll] using h
    obtain ⟨a1, a2, a3⟩ := small_shown d h.1
    obtain ⟨b1, b2, b3⟩ := small_shownAll ds h.2
    refine ⟨?_, by simp [PyData.showableAll, a2, b2], by simp [PyData.hasDictAll, a3, b3]⟩
    simp only [PyData.shownAll, nodesAll, piled_cons]
    omega
end
/-- data that repr may show -/
def ShowOk (d : PyData) : Prop := smallD d = true ∧ nodes d ≤ 600000 ∧ d.depth ≤ 60
instance (d : PyData) : Decidable (ShowOk d) := by unfold ShowOk; infer_instance
def rRepr : List V → Hp → VK → Prop := fun xs H Q => ∃ (a : Addr) (d : PyData), xs = [.ref a] ∧ Rp H (.ref a) d ∧ ShowOk d ∧ Q (.str d.shown) H
theorem call_reprD {X : Cx} (hg : X.A.guards = some []) (hu : X.A.units + 64 < cLine) : CallR X (.builtin "repr") rRepr := by
  intro pins s σ H xs us Q I r h
  obtain ⟨a, d, rfl, rp, ⟨ok, nd, dp⟩, q⟩ := h
  obtain ⟨h1, h2, h3⟩ := small_shown d ok
  cases r with
  | cons ra rn =>
    cases rn
    cases ra
    obtain ⟨as, reads⟩ := Dp.reads I d _ _ rp.dp rfl
    refine repr_of_reads' reads h2 (PyData.noDict_hsm h3) hg (by omega) (fun _ _ e => e) (fun h' u tk k => ⟨.str d.shown, H, I.kept k, ⟨u, rfl⟩, q⟩) ?_
    show d.shown.length ≤ 2 ^ 24
    omega
/-- small data: nodes, depth -/
def Sm (n k : Nat) (d : PyData) : Prop := smallD d = true ∧ nodes d ≤ n ∧ d.depth ≤ k
theorem Sm.imp {n k n' k' : Nat} {d : PyData} (h : Sm n k d) (a : n ≤ n') (b : k ≤ k') : Sm n' k' d := ⟨h.1, Nat.le_trans h.2.1 a, Nat.le_trans h.2.2 b⟩
theorem Sm.show {n k : Nat} {d : PyData} (h : Sm n k d) (a : n ≤ 600000 := by decide) (b : k ≤ 60 := by decide) : ShowOk d := h.imp a b
theorem sm_non : Sm 1 0 .none := ⟨by simp [smallD], by simp [nodes], by simp [PyData.depth]⟩
theorem sm_bool (b : Bool) : Sm 1 0 (.bool b) := ⟨by simp [smallD], by simp [nodes], by simp [PyData.depth]⟩
theorem sm_int {i : Int} (h : -10000000000000000000 < i ∧ i < 10000000000000000000) : Sm 1 0 (.int i) := ⟨by simp only [smallD, decide_eq_true_eq]; omega, by simp [nodes], by simp [PyData.depth]⟩
theorem sm_all {α : Type} {f : α → PyData} {n k : Nat} : ∀ {xs : List α}, (∀ x ∈ xs, Sm n k (f x)) → smallAll (xs.map f) = true ∧ nodesAll (xs.map f) ≤ xs.length * n ∧ PyData.depthAll (xs.map f) ≤ k
  | [], _ => ⟨by simp [smallAll], by simp [nodesAll], by simp [PyData.depthAll]⟩
  | x :: xs, h => by
    obtain ⟨a1, a2, a3⟩ := h x List.mem_cons_self
    obtain ⟨b1, b2, b3⟩ := sm_all fun y hy => h y (List.mem_cons_of_mem _ hy)
    refine ⟨by simp [smallAll, a1, b1], ?_, ?_⟩
    · simp only [List.map_cons, nodesAll, List.length_cons, Nat.succ_mul]
      omega
    · simp only [List.map_cons, PyData.depthAll]
      omega
theorem sm_L {α : Type} {f : α → PyData} {n k m : Nat} {xs : List α} (h : ∀ x ∈ xs, Sm n k (f x)) (hm : xs.length ≤ m) : Sm (1 + m * n) (k + 1) (encL f xs) := by
  obtain ⟨a1, a2, a3⟩ := sm_all h
  refine ⟨by simp [encL, smallD, a1], ?_, ?_⟩
  · have := Nat.mul_le_mul_right n hm
    simp only [encL, nodes]
    omega
  · simp only [encL, PyData.depth]
    omega
theorem sm_ints {xs : List Int} {m : Nat} (h : ∀ x ∈ xs, -10000000000000000000 < x ∧ x < 10000000000000000000) (hm : xs.length ≤ m) : Sm (1 + m * 1) 1 (encL PyData.int xs) := sm_L (fun x hx => sm_int (h x hx)) hm
theorem sm_T2 {α β : Type} {f : α → PyData} {g : β → PyData} {n k m j : Nat} {p : α × β} (h1 : Sm n k (f p.1)) (h2 : Sm m j (g p.2)) : Sm (1 + n + m) (max k j + 1) (encT2 f g p) := by
  obtain ⟨a1, a2, a3⟩ := h1
  obtain ⟨b1, b2, b3⟩ := h2
  refine ⟨by simp [encT2, smallD, smallAll, a1, b1], ?_, ?_⟩
  · simp only [encT2, nodes, nodesAll]
    omega
  · simp only [encT2, PyData.depth, PyData.depthAll]
    omega
theorem sm_T3 {α β γ : Type} {f : α → PyData} {g : β → PyData} {h : γ → PyData} {n k m j l i : Nat} {p : α × β × γ} (h1 : Sm n k (f p.1)) (h2 : Sm m j (g p.2.1)) (h3 : Sm l i (h p.2.2)) : Sm (1 + n + m + l) (max k (max j i) + 1) (encT3 f g h p) := by
  obtain ⟨a1, a2, a3⟩ := h1
  obtain ⟨b1, b2, b3⟩ := h2
  obtain ⟨c1, c2, c3⟩ := h3
  refine ⟨by simp [encT3, smallD, smallAll, a1, b1, c1], ?_, ?_⟩
  · simp only [encT3, nodes, nodesAll]
    omega
  · simp only [encT3, PyData.depth, PyData.depthAll]
    omega
end Vx
namespace Vx
open PySem PySem.Spec PyProof.Rows L2
theorem new_ne2 {H : Hp} {L : List Addr} {x : Addr} (n : ∀ b ∈ L, H b = none) (h : H x ≠ none) : ∀ b ∈ L, b ≠ x := fun b hb z => h (z ▸ n b hb)
theorem upd_tree {α : Type} {f : α → Dt} {G H H' : Hp} {L L1 : List Addr} {vs : List V} {xs : List α} {k : Int} {v : V} {m : Addr} {y : α} (up : ∀ H' y, (∀ b ∈ L, b ∉ L1 → ∀ o, H b = some o → H' b = some o) → Ow G H' L1 v (f y) → OwAll G H' L vs ((setL xs k y).map f)) (x : SameX m H H') (hm : m ∈ L1) (w : Ow G H' L1 v (f y)) :
    OwAll G H' L vs ((setL xs k y).map f) := up H' y (fun c _ n o q => x c o q (fun z => n (z ▸ hm))) w
theorem Ow.toFrz {α : Type} {f : α → PyData} {G H : Hp} {L : List Addr} {v : V} {x : α} (w : Ow G H L v (oF f x)) : L = [] ∧ Rp G v (f x) := by
  unfold oF at w
  cases w with
  | frz r => exact ⟨rfl, r⟩
section
variable {α : Type} {f : α → Dt} {G H : Hp} {L : List Addr} {vs : List V} {xs : List α}
theorem OwAll.pin {i : Nat} {v : V} {x : α} (w : OwAll G H L vs (xs.map f)) (h : vs[i]? = some v) (hx : xs[i]? = some x) : ∃ L1, Ow G H L1 v (f x) ∧ ∀ b ∈ L1, b ∈ L := by
  obtain ⟨y, L1, h1, h2, h3⟩ := OwAll.turn w h
  rw [hx] at h1
  cases h1
  exact ⟨L1, h2, h3⟩
theorem OwAll.pinInts {i : Nat} {b : Addr} {xs : List (List Int)} {x : List Int} (w : OwAll G H L vs (xs.map (oL oI))) (h : vs[i]? = some (.ref b)) (hx : xs[i]? = some x) : H b = some (.lst (x.map V.int)) ∧ b ∈ L := by
  obtain ⟨L1, w1, h1⟩ := OwAll.pin w h hx
  obtain ⟨c, e, rfl, h2⟩ := Ow.toInts w1
  cases e
  exact ⟨h2, h1 _ List.mem_cons_self⟩
end
end Vx
namespace Vx
open PySem PySem.Spec PyProof.Rows L2
theorem lookup_relab {c : Str → Bool} {y : Str} : ∀ l : List (Str × NameKind), (l.lookup y = some .cell ∨ l.lookup y = some .free) →
    ((l.map fun (n, k) => if (k == .free && c n) then (n, NameKind.cell) else (n, k)).lookup y = some .cell ∨ (l.map fun (n, k) => if (k == .free && c n) then (n, NameKind.cell) else (n, k)).lookup y = some .free)
  | [], h => by simp at h
  | (n, k) :: r, h => by
    rw [List.map_cons]
    dsimp only
    by_cases e : y == n
    · have hk : k = .cell ∨ k = .free := by
        rw [List.lookup_cons, e] at h
        simpa using h
      by_cases q : (k == .free && c n) = true
      · left
        rw [if_pos q, List.lookup_cons, e]
      · rw [if_neg q, List.lookup_cons, e]
        simpa using hk
    · have e : (y == n) = false := by simpa using e
      rw [List.lookup_cons, e] at h
      have ih := lookup_relab (c := c) r h
      by_cases q : (k == .free && c n) = true
      · rw [if_pos q, List.lookup_cons, e]
        exact ih
      · rw [if_neg q, List.lookup_cons, e]
        exact ih
theorem blk_relabel {N : List Str} {sc scope : Scope} {env : Env} {own : List (Str × Nat)} (h : BlkOk N sc scope own) : BlkOk N (relabel sc env) scope own := by
  refine ⟨h.kind, h.uniq, h.ix, fun y hy e => ?_, h.own⟩
  have z := lookup_relab (c := fun n => env.scope.kind == .function && env.kindOf n == some .cell) (y := y.1) sc.names (h.free y hy e)
  unfold relabel
  simpa only [Bool.and_assoc] using z
end Vx
namespace Vx
open PySem PySem.Spec PyProof.Rows L2
theorem FnG.low {P : Program} {w : World} {K : PySem.W.Frag} {mg : Str → Option Value} {base : Heap} {cx : CXT} {j k : Nat} {f : Addr} {fd : FuncData} {ps : List Str} {sp : Sp} (F : FnG P w K mg base cx j f fd ps sp) (h : j ≤ k) : FnG P w K mg base cx k f fd ps sp := ⟨F.len, fun A o s H a us vs Q E r => F.run A o s H a us vs Q E (r.low h)⟩
/-! ### a local name that holds one of several defs -/
structure HeldX (P : Program) (w : World) (K : PySem.W.Frag) (mg : Str → Option Value) (base : Heap) (k n : Nat) (f : Addr) (sp : Sp) : Prop where
  ex : ∃ (fd : FuncData) (ps : List Str), FnG P w K mg base (L2.CX P w) k f fd ps sp ∧ PySem.W.keepIn K (.ref f) = true ∧ Bnd K fd ps n [] (fun vs _ => vs)
theorem HeldX.of {P : Program} {w : World} {K : PySem.W.Frag} {mg : Str → Option Value} {base : Heap} {j k n : Nat} {x : Str} {sp : Sp} {pats : List Pat} {a : Addr} (c : CalX P w K mg base j x sp pats) (hx : mg x = some (.ref a)) (hp : (n, [], fun vs _ => vs) ∈ pats) (hj : j ≤ k) : HeldX P w K mg base k n a sp := by
  obtain ⟨f, fd, ps, F, hm, kp, b⟩ := c.ex
  rw [hx] at hm
  injection hm with hm
  injection hm with hm
  subst hm
  exact ⟨fd, ps, F.low hj, kp, b _ hp⟩
def tCallF (i n : Nat) (L : List (Addr × Sp)) (W : WX) (t : TA) : TE := fun σ H Q => ∃ f sp, σ[i]? = some (some (.ref f)) ∧ (f, sp) ∈ L ∧ t σ H fun vs H1 => vs.length = n ∧ ([] : List V).length = 0 ∧ sp vs H1 Q (WE W σ)
theorem vx_callF {X : Cx} {k j i n : Nat} {x : Str} {p pos : Pos} {e : Expr} {es : List Expr} {t : TA} {W : WX} (L : List (Addr × Sp)) (A : ∀ q ∈ L, HeldX X.prog X.w X.K X.mg X.base k n q.1 q.2) (hr : RoomG j X.A) (hk : k ≤ j) (tkW : Takes X W) (hN : X.N[i]? = some x) (hv : Vis X.env.scope x) (ha : PA X (e :: es) t)
    (hdb : (x == ("__debug__" : Str)) = false := by decide) (hcd : (x == ("__classdict__" : Str)) = false := by decide) (he : starEach (e :: es) X.env = (false, eval e X.env) :: starEach es X.env := by rfl) (hpl : (backTo pos (starEach es X.env)).any (·.1) = false := by rfl) :
    PE X (.Call (.Name x p) (e :: es) [] pos) (tCallF i n L W t) := by
  constructor
  intro pins s σ H Q I h
  obtain ⟨f, sp, slot, mem, rest⟩ := h
  obtain ⟨fd, ps, F, kp, b⟩ := (A _ mem).ex
  refine wpAny_Call_Name_kw (thn ((pe_var (pos := p) hN hv hdb hcd).run pins s σ H (fun v H1 => v = .ref f ∧ H1 = H) I ⟨.ref f, slot, rfl, rfl⟩) ?_)
  rintro u s1 ⟨v, H1, I1, r1, rfl, rfl⟩
  cases r1
  refine PySem.W.callWith_K (h₀ := X.base) I.ok.mod.kin kp (thn (ha.run pos pins s1 σ _ _ I1 rest) ?_) he hpl
  rintro us s2 ⟨vs, H2, I2, r, l1, l2, q⟩
  exact ⟨I2.kIn, run_X (us := us) (ws := []) (zs := []) F (hr.low hk) b tkW I2 r .nil l1 l2 q⟩
/-! ### the least of a list, the place of an item -/
def minL : List Int → Int
  | [] => 0
  | [x] => x
  | x :: y :: r => if x ≤ minL (y :: r) then x else minL (y :: r)
theorem minL_spec : ∀ (xs : List Int), xs ≠ [] → minL xs ∈ xs ∧ ∀ y ∈ xs, minL xs ≤ y
  | [], h => absurd rfl h
  | [x], _ => ⟨List.mem_cons_self, fun y hy => by rw [List.mem_singleton.mp hy]; exact Int.le_refl x⟩
  | x :: y :: r, _ => by
    obtain ⟨h1, h2⟩ := minL_spec (y :: r) (fun z => nomatch z)
    unfold minL
    split
    · refine ⟨List.mem_cons_self, fun z hz => ?_⟩
      rcases List.mem_cons.mp hz with rfl | hz
      · exact Int.le_refl _
      · have := h2 z hz
        omega
    · refine ⟨List.mem_cons_of_mem _ h1, fun z hz => ?_⟩
      rcases List.mem_cons.mp hz with rfl | hz
      · omega
      · exact h2 z hz
def maxL (xs : List Int) : Int := -(minL (xs.map fun x => -x))
theorem maxL_spec (xs : List Int) (h : xs ≠ []) : maxL xs ∈ xs ∧ ∀ y ∈ xs, y ≤ maxL xs := by
  obtain ⟨h1, h2⟩ := minL_spec (xs.map fun x => -x) (by simpa using h)
  obtain ⟨z, hz, e⟩ := List.mem_map.mp h1
  unfold maxL
  refine ⟨by rw [← e, Int.neg_neg]; exact hz, fun y hy => ?_⟩
  have := h2 _ (List.mem_map_of_mem hy)
  omega
section
variable {X : Cx} {K : PySem.W.Frag}
def rMinL (K : PySem.W.Frag) : List V → Hp → VK → Prop := fun vs H Q => ∃ (a : Addr) (ns : List Int), vs = [V.ref a] ∧ SqL K H a (ns.map V.int) ∧ ns ≠ [] ∧ Q (.int (minL ns)) H
def rMaxL (K : PySem.W.Frag) : List V → Hp → VK → Prop := fun vs H Q => ∃ (a : Addr) (ns : List Int), vs = [V.ref a] ∧ SqL K H a (ns.map V.int) ∧ ns ≠ [] ∧ Q (.int (maxL ns)) H
theorem cr_minL (hc : X.calm = true) (hK : X.K = K := by rfl) : CallR X (.builtin "min") (rMinL K) := by
  subst hK
  intro pins s σ H vs us Q I r h
  obtain ⟨a, ns, rfl, hs, hn, q⟩ := h
  refine cr_min hc pins s σ H _ us Q I r ⟨a, ns, rfl, hs, List.length_pos_iff.mpr hn, fun m hm hle => ?_⟩
  obtain ⟨h1, h2⟩ := minL_spec ns hn
  have e : m = minL ns := Int.le_antisymm (by have := hle _ h1; omega) (h2 m hm)
  rw [e]
  exact q
theorem cr_maxL (hc : X.calm = true) (hK : X.K = K := by rfl) : CallR X (.builtin "max") (rMaxL K) := by
  subst hK
  intro pins s σ H vs us Q I r h
  obtain ⟨a, ns, rfl, hs, hn, q⟩ := h
  refine cr_max hc pins s σ H _ us Q I r ⟨a, ns, rfl, hs, List.length_pos_iff.mpr hn, fun m hm hle => ?_⟩
  obtain ⟨h1, h2⟩ := maxL_spec ns hn
  have e : m = maxL ns := Int.le_antisymm (h2 m hm) (by have := hle _ h1; omega)
  rw [e]
  exact q
end
end Vx
namespace Vx
open PySem PySem.Spec PyProof.Rows L2
def idxL (ns : List Int) (i : Int) : Int := (ns.idxOf i : Nat)
def rIndexI (K : PySem.W.Frag) : V → List V → Hp → VK → Prop := fun x xs H Q => ∃ (a : Addr) (ns : List Int) (i : Int), x = V.ref a ∧ xs = [.int i] ∧ SqL K H a (ns.map V.int) ∧ i ∈ ns ∧ Q (.int (idxL ns i)) H
theorem mt_indexI {X : Cx} {K : PySem.W.Frag} (hK : X.K = K := by rfl) : MtR X "list.index" (rIndexI K) := by
  subst hK
  intro pins s σ H x xs v us Q I rx rxs h
  obtain ⟨a, ns, i, rfl, rfl, hs, hi, q⟩ := h
  have hl := List.idxOf_lt_length_of_mem hi
  refine mt_index pins s σ H _ _ v us Q I rx rxs ⟨a, _, .int i, ns.idxOf i, .int i, rfl, rfl, hs, rfl, flat_ints ns, ?_, by simp [eqV], fun m z hm hz => ?_, q⟩
  · rw [List.getElem?_map, List.getElem?_eq_getElem hl, List.getElem_idxOf hl] <;> rfl
  · rw [List.getElem?_map] at hz
    cases e : ns[m]? with
    | none => rw [e] at hz; cases hz
    | some y =>
      rw [e] at hz
      cases hz
      have hml : m < ns.length := by omega
      have hy : ns[m] = y := by
        rw [List.getElem?_eq_getElem hml] at e
        exact Option.some.inj e
      have := List.not_of_lt_findIdx (p := (· == i)) (xs := ns) (i := m) hm
      simp only [beq_iff_eq, hy] at this
      simp [eqV, this]
theorem cW_aftgo {σ ρ τ : Type} {s : σ} {kr : ρ → Rx τ} {k : σ → Rx τ} {K : τ → Prop} {E : Nat → Prop} (h : cW ((Lp.go s : Lp σ ρ).aft kr k) K E) : cW (k s) K E := h
end Vx
namespace Vx
open PySem PySem.Spec PyProof.Rows L2
/-! ### a truth value or a number beside a number -/
def Bi.num : Bi → Int
  | .b x => if x then 1 else 0
  | .n i => i
def Bi.dat : Bi → PyData
  | .b x => .bool x
  | .n i => .int i
section
variable {X : Cx}
def rEqBI : R2 := fun x y H Q => ∃ (b : Bi) (i : Int), x = biV b ∧ y = .int i ∧ Q (.bl (decide (b.num = i))) H
def rNeBI : R2 := fun x y H Q => ∃ (b : Bi) (i : Int), x = biV b ∧ y = .int i ∧ Q (.bl (!decide (b.num = i))) H
theorem eqv_bi (b : Bi) (i : Int) : PyData.eqv b.dat (.int i) = decide (b.num = i) := by
  cases b with
  | b x => cases x <;> (rw [Bool.eq_iff_iff]; simp [Bi.dat, Bi.num, PyData.eqv])
  | n j =>
    rw [Bool.eq_iff_iff]
    simp only [Bi.dat, Bi.num, PyData.eqv, beq_iff_eq]
    exact decide_eq_true_iff.symm
theorem dp_bi {K : PySem.W.Frag} {H : Hp} : ∀ b : Bi, Dp K H (biV b) b.dat
  | .b x => .bl x
  | .n i => .int i
theorem shaped_bi : ∀ b : Bi, SeqAt.shaped b.dat = true
  | .b x => by unfold SeqAt.shaped; simp [Bi.dat, PyData.canLay0, PyData.depth]
  | .n i => by unfold SeqAt.shaped; simp [Bi.dat, PyData.canLay0, PyData.depth]
theorem op_eqBI (hu : X.A.units + 64 < cLine) : OpR X (compareOp .Eq) rEqBI := by
  intro pins s σ H x y v u Q I rx ry h
  obtain ⟨b, i, rfl, rfl, q⟩ := h
  exact op_eqD hu pins s σ H _ _ v u Q I rx ry ⟨b.dat, .int i, dp_bi b, .int i, shaped_bi b, shaped_bi (.n i), by rw [eqv_bi]; exact q⟩
theorem op_neBI (hu : X.A.units + 64 < cLine) : OpR X (compareOp .NotEq) rNeBI := by
  intro pins s σ H x y v u Q I rx ry h
  obtain ⟨b, i, rfl, rfl, q⟩ := h
  exact op_neD hu pins s σ H _ _ v u Q I rx ry ⟨b.dat, .int i, dp_bi b, .int i, shaped_bi b, shaped_bi (.n i), by rw [eqv_bi]; exact q⟩
end
end Vx
namespace Vx
open PySem PySem.Spec PyProof.Rows L2
/-! ### == of own objects by an own __eq__ that never raises -/
section
variable {X : Cx} {k j : Nat}
def rEqX (C : Addr) (n mm : Nat) (sp : Sp) (g : List V → List V → List V) : R2 := fun x y H Q => ∃ (a b dx dy : Addr) (fs gs : List (Str × V)), x = .ref a ∧ y = .ref b ∧ H a = some (.ins C dx fs) ∧ H b = some (.ins C dy gs) ∧ 2 = n ∧ 0 = mm ∧ sp (g [x, y] []) H (fun v H' => (∃ r, v = .bl r) ∧ Q v H') E0
theorem op_eqX {C : Addr} {sp : Sp} {pats : List Pat} (c : MetX X.prog X.w X.K X.mg X.base k C "__eq__" sp pats) (pt : Pat) (hpt : pt ∈ pats) (hr : RoomG j X.A) (hk : k ≤ j) (hks : pt.2.1 = [] := by rfl) : OpR X (compareOp .Eq) (rEqX C pt.1 pt.2.1.length sp pt.2.2) := by
  intro pins s σ H x y v u Q I rx ry hq
  obtain ⟨a, b, dx, dy, fs, gs, rfl, rfl, ha, hb', l1, l2, q⟩ := hq
  obtain ⟨f, fd, ps, hc, hm, F, bb⟩ := c.ex
  cases rx
  cases ry
  obtain ⟨mA, J, _⟩ := ins_get I.hok ha
  obtain ⟨mB, J', _⟩ := ins_get I.hok hb'
  obtain ⟨od, J, _⟩ := J.look
  obtain ⟨od', J', _⟩ := J'.look
  obtain ⟨m, hF⟩ := I.fr
  have hz := run_X (us := [.ref a, .ref b]) (vs := [.ref a, .ref b]) (ws := []) (zs := []) F (hr.low hk) (bb pt hpt) (takes0 (X := X)) I (.cons rfl (.cons rfl .nil)) .nil l1 l2 q
  rw [hks] at hz
  show wpAny (model X.prog X.w) X.A (richCompare .Eq (.ref a) (.ref b)) (EP X pins σ Q) X.xe s
  refine PySem.W.cmp_K (op := .Eq) (tb := .ref C) (hr.low hk).toRoom.units0 hF I.ok.mod.kin J J'.type (by simp [PySem.W.notFirst]) hm.at_ hm.fn ?_
  refine wpAny_mono hz (fun r s' z => ?_) fun _ _ e => e
  obtain ⟨w, H', I', rw', ⟨⟨q1, rfl⟩, q2⟩⟩ := z
  cases rw'
  exact ⟨V.bl q1, H', I', rfl, q2⟩
end
end Vx
namespace Vx
open PySem PySem.Spec PyProof.Rows L2
/-! ### isinstance of the exception in hand: a built-in class, a tuple of classes -/
theorem kit_blt {K : PySem.W.Frag} {D : Addr} {T : String} {b : Bool} (h : PySem.W.subIn K (.ref D) (.type T) = some b) (h0 : PySem.W.kitMeta T = true := by decide +kernel) : PySem.W.kitOne K (.ref D) (.type T) = some b := by
  unfold PySem.W.kitOne
  rw [if_neg (show ¬ (Value.ref D == Value.type T) = true from fun z => nomatch (show false = true from z))]
  show (if PySem.W.kitMeta T = true then PySem.W.subIn K (.ref D) (.type T) else none) = some b
  rw [if_pos h0, h]
def rIsXB (K : PySem.W.Frag) (a : Addr) (cls : Value) (d : Option Addr) : List V → Hp → VK → Prop := fun xs H Q => ∃ (D : Addr) (T : String) (b : Bool), cls = .ref D ∧ d = none ∧ ExcC K D ∧ xs = [.ref a, .ty T] ∧ PySem.W.kitOne K (.ref D) (.type T) = some b ∧ Q (.bl b) H
theorem call_isXB {X : Cx} {K : PySem.W.Frag} {a : Addr} {cls : Value} {d : Option Addr} {oe : Obj} {pn : List (Addr × Obj)} (hz : Zc cls d oe) (hf : ∃ vs, oe.data = .fields vs) (hK : X.K = K := by rfl) : CallR (X.suite a ((a, oe) :: pn)) (.builtin "isinstance") (rIsXB K a cls d) := by
  subst hK
  intro pins s σ H xs us Q I r h
  obtain ⟨D, T, b, rfl, rfl, c, rfl, e, q⟩ := h
  exact call_isE c hz hf pins s σ H _ us Q I r ⟨_, _, b, rfl, fun u z => z, e, q⟩
def rIsXT (K : PySem.W.Frag) (a : Addr) (cls : Value) (d : Option Addr) : List V → Hp → VK → Prop := fun xs H Q => ∃ (D tp : Addr) (cs : List V) (ws : List Value) (b : Bool), cls = .ref D ∧ d = none ∧ ExcC K D ∧ xs = [.ref a, .ref tp] ∧ H tp = some (.tup cs) ∧ Paired ClsV cs ws ∧ PySem.W.kitAny K (.ref D) ws = some b ∧ Q (.bl b) H
theorem call_isXT {X : Cx} {K : PySem.W.Frag} {a : Addr} {cls : Value} {d : Option Addr} {oe : Obj} {pn : List (Addr × Obj)} (hz : Zc cls d oe) (hf : ∃ vs, oe.data = .fields vs) (hK : X.K = K := by rfl) : CallR (X.suite a ((a, oe) :: pn)) (.builtin "isinstance") (rIsXT K a cls d) := by
  subst hK
  intro pins s σ H xs us Q I r h
  obtain ⟨D, tp, cs, ws, b, rfl, rfl, C, rfl, hT, k, e, q⟩ := h
  cases r with
  | cons rx rr =>
    cases rr with
    | cons rt rr =>
      cases rr
      cases rx
      cases rt
      obtain ⟨hget, _⟩ := I.pin (a, oe) (List.mem_append.mpr (.inl List.mem_cons_self))
      obtain ⟨vs, hv⟩ := hf
      have J : PySem.W.InstAt s.heap a oe D none := by
        obtain ⟨oc, od, oda, osl⟩ := oe
        obtain ⟨h1, h2⟩ := hz
        dsimp only at h1 h2 hv
        subst h1 h2 hv
        exact ⟨hget, rfl, rfl, trivial⟩
      obtain ⟨_, its, rv, o, h1, h2, n, h3⟩ := (show ObjOk X.prog X.w H s.heap tp (.tup cs) from I.hok tp _ hT)
      have e3 := ClsV.all k rv
      subst e3
      obtain ⟨oc, od, dt, sl⟩ := o
      simp only at h2 h3
      subst h2 h3
      exact PySem.W.kia_tup (PySem.W.handS_kitx_exc C.hg C.hk C.hs C.hd C.ha C.hn C.ht C.hm) I.kIn J h1 e (fun z => nomatch z) fun tk => ⟨.bl b, H, I.kept (t' := tk) fun _ _ z => z, rfl, q⟩
theorem kit_self {K : PySem.W.Frag} {t : Value} (h : (t == t) = true := by simp) : PySem.W.kitOne K t t = some true := by
  unfold PySem.W.kitOne
  rw [if_pos h]
/-- what a class must say, so that isinstance asks its objects rightly -/
structure IsiC (K : PySem.W.Frag) (C : Addr) : Prop where
  ha : PySem.W.findIn K (.ref C) "__class__" = some (some (.builtin "object.__class__"))
  hn : PySem.W.specialIn K (.builtin "object.__class__") "__get__" = some (some (.builtin "getset_descriptor.__get__"))
  ht : PySem.W.takesIn K (.builtin "object.__class__") = some true
  hm : PySem.W.mroIn K C (.type "object") = some true
theorem tyX_ins {K : PySem.W.Frag} {H : Hp} {a C dx : Addr} {fs : List (Str × V)} (e : H a = some (.ins C dx fs)) (cl : Cls K C) (c : IsiC K C) : TyX K H (.ref a) (.ref C) := .base (.ins e cl c.ha c.hn c.ht c.hm)
end Vx
namespace Vx
open PySem PySem.Spec PyProof.Rows L2
theorem op_notTrue {X : Cx} : OpR X (compareOp .IsNot) (fun x y H Q => ∃ b : Bool, x = .bl b ∧ y = .bl true ∧ Q (.bl (!b)) H) := by
  intro pins s σ H x y v u Q I rx ry h
  obtain ⟨b, rfl, rfl, q⟩ := h
  cases rx
  cases ry
  show wpAny (model X.prog X.w) X.A (compareOp .IsNot (.bool b) (.bool true)) (EP X pins σ Q) X.xe s
  have e : compareOp .IsNot (.bool b) (.bool true) = pure (.bool (!b)) := by cases b <;> rfl
  rw [e]
  exact wpAny_pure ⟨.bl (!b), H, I, rfl, q⟩
end Vx
/-! # lists stored into trees -/
namespace Vx
open PySem PySem.Spec PyProof.Rows L2
section
variable {G H I : Hp} {α : Type} {f : α → Dt} {L : List Addr} {vs : List V} {xs : List α}
theorem OwAll.set {L1 : List Addr} {v : V} {d : Dt} (h : Ow G H L1 v d) : ∀ {L : List Addr} {vs : List V} {ds : List Dt} (i : Nat), i < ds.length → OwAll G H L vs ds → (∀ b ∈ L1, b ∉ L) → ∃ L', (∀ b ∈ L', b ∈ L ++ L1) ∧ OwAll G H L' (vs.set i v) (ds.set i d)
  | _, _, _, _, hi, .nil, _ => absurd hi (Nat.not_lt_zero _)
  | _, _, _, 0, _, .cons (L1 := La) (L2 := Lb) a r n, nf => by
    refine ⟨L1 ++ Lb, fun b hb => ?_, .cons h r fun b hb q => nf b hb (List.mem_append_right _ q)⟩
    rcases List.mem_append.mp hb with q | q
    · exact List.mem_append_right _ q
    · exact List.mem_append_left _ (List.mem_append_right _ q)
  | _, _, _, i + 1, hi, .cons (L1 := La) (L2 := Lb) a r n, nf => by
    obtain ⟨L', s, w⟩ := OwAll.set h i (Nat.lt_of_succ_lt_succ hi) r fun b hb q => nf b hb (List.mem_append_right _ q)
    refine ⟨La ++ L', fun b hb => ?_, .cons a w fun b hb q => ?_⟩
    · rcases List.mem_append.mp hb with q | q
      · exact List.mem_append_left _ (List.mem_append_left _ q)
      · rcases List.mem_append.mp (s b q) with z | z
        · exact List.mem_append_left _ (List.mem_append_right _ z)
        · exact List.mem_append_right _ z
    · rcases List.mem_append.mp (s b q) with z | z
      · exact n b hb z
      · exact nf b z (List.mem_append_left _ hb)
theorem ixN_len {k : Int} (e : vs.length = xs.length) (h : -(xs.length : Int) ≤ k ∧ k < xs.length) : ixN vs.length k = some ((ixN vs.length k).getD 0) := by
  rw [e]
  obtain ⟨j, hj, _⟩ := ixN_some h
  rw [hj]
  rfl
theorem OwAll.setM {k : Int} {L1 : List Addr} {v : V} {y : α} (w : OwAll G H L vs (xs.map f)) (h : -(xs.length : Int) ≤ k ∧ k < xs.length) (ow : Ow G H L1 v (f y)) (n : ∀ b ∈ L1, b ∉ L) :
    ∃ L', (∀ b ∈ L', b ∈ L ++ L1) ∧ OwAll G H L' (vs.set ((ixN vs.length k).getD 0) v) ((setL xs k y).map f) := by
  obtain ⟨j, e, hj⟩ := ixN_some h
  obtain ⟨L', s, z⟩ := OwAll.set ow j (by simpa using hj) w n
  refine ⟨L', s, ?_⟩
  unfold setL
  rw [w.lenM, e, List.map_set]
  exact z
end
theorem ne_of_len {α : Type} {xs : List α} (h : xs.length = 4 ∨ xs.length = 6 ∨ xs.length = 8) : xs ≠ [] := by
  rintro rfl
  simp at h
end Vx
namespace Vx
open PySem PySem.Spec PyProof.Rows L2
/-! ### written dicts of ints -/
inductive EI : List (Int × Int) → List DictEntry → Prop
  | nil : EI [] []
  | cons {k v : Int} {t u : Tok} {r : List (Int × Int)} {es : List DictEntry} (h : EI r es) : EI ((k, v) :: r) (⟨hashInt k, .int k t, .int v u⟩ :: es)
def lookI : List (Int × Int) → Int → Option Int
  | [], _ => none
  | (k, v) :: r, i => if i = k then some v else lookI r i
def KDI (K : PySem.W.Frag) (a : Addr) (kvs : List (Int × Int)) : Prop :=
  ∃ es n, K.lookup a = some ⟨.type "dict", none, .dict es n, #[]⟩ ∧ (a == sysModules) = false ∧ EI kvs es.toList
theorem lookI_mem {kvs : List (Int × Int)} {i : Int} : (lookI kvs i).isSome = decide (i ∈ kvs.map (·.1)) := by
  induction kvs with
  | nil => rfl
  | cons p r ih =>
    obtain ⟨k, v⟩ := p
    unfold lookI
    by_cases q : i = k
    · rw [if_pos q]; simp [q]
    · rw [if_neg q, ih]; simp [q]
theorem EI.find {i : Int} : ∀ {kvs : List (Int × Int)} {es : List DictEntry}, EI kvs es → match lookI kvs i with
    | some v => ∃ u, (es.find? fun e => keyIs (.inl i) e.key).map (·.val) = some (.int v u)
    | none => (es.find? fun e => keyIs (.inl i) e.key).map (·.val) = none
  | _, _, .nil => rfl
  | _, _, .cons (k := k) (v := v) (t := t) (u := u) (r := r) (es := es) h => by
    have ih := EI.find (i := i) h
    unfold lookI
    by_cases q : i = k
    · subst q
      rw [if_pos rfl]
      refine ⟨u, ?_⟩
      rw [List.find?_cons_of_pos (by exact keyIs_int i t)]
      rfl
    · rw [if_neg q]
      have e : ¬ (keyIs (.inl i) (Value.int k t) = true) := by
        intro z
        obtain ⟨t', e'⟩ := Value.isInt_shape (k := i) (v := Value.int k t) z
        injection e' with e1 _
        exact q e1.symm
      rw [List.find?_cons_of_neg (by exact e)]
      exact ih
theorem EI.keys {P : Program} {w : World} : ∀ {kvs : List (Int × Int)} {es : List DictEntry}, EI kvs es → ∀ e ∈ es, ∃ k, (mixKind P w).is k e.key = true ∧ e.hash = (mixKind P w).hash k
  | _, _, .nil, e, he => nomatch he
  | _, _, .cons (k := k) (t := t) h, e, he => by
    rcases List.mem_cons.mp he with rfl | he
    · exact ⟨.inl k, keyIs_int k t, rfl⟩
    · exact EI.keys h e he
section
variable {X : Cx} {K : PySem.W.Frag}
theorem KDI.map {d : Addr} {kvs : List (Int × Int)} {pins : List (Addr × Obj)} {σ : L2.St} {H : Hp} {s : Shared} (D : KDI X.K d kvs) (I : Inv X pins σ H s) : (d == sysModules) = false ∧ ∃ f, s.heap.MapOf (mixKind X.prog X.w) d f ∧ ∀ i, match lookI kvs i with
    | some v => ∃ u, f (.inl i) = some (.int v u)
    | none => f (.inl i) = none := by
  obtain ⟨es, n, hl, hd, he⟩ := D
  refine ⟨hd, fun k => findBy keyIs es k, ⟨_, es, n, I.kIn _ _ hl, ⟨rfl, rfl, rfl⟩, rfl, fun e q => EI.keys he e (Array.mem_toList_iff.mpr q), fun _ => rfl⟩, fun i => ?_⟩
  have := EI.find (i := i) he
  have e : findBy keyIs es (.inl i) = (es.toList.find? fun e => keyIs (.inl i) e.key).map (·.val) := by
    obtain ⟨l⟩ := es
    unfold findBy
    rw [List.find?_toArray]
  show match lookI kvs i with
    | some v => ∃ u, findBy keyIs es (.inl i) = some (.int v u)
    | none => findBy keyIs es (.inl i) = none
  rw [e]
  exact this
def rInDI (K : PySem.W.Frag) : R2 := fun x y H Q => ∃ (i : Int) (d : Addr) (kvs : List (Int × Int)) (ks : List Int), x = .int i ∧ y = .ref d ∧ KDI K d kvs ∧ ks = kvs.map (·.1) ∧ Q (.bl (decide (i ∈ ks))) H
def rNotInDI (K : PySem.W.Frag) : R2 := fun x y H Q => ∃ (i : Int) (d : Addr) (kvs : List (Int × Int)) (ks : List Int), x = .int i ∧ y = .ref d ∧ KDI K d kvs ∧ ks = kvs.map (·.1) ∧ Q (.bl (!decide (i ∈ ks))) H
def rIxDI (K : PySem.W.Frag) : R2 := fun x y H Q => ∃ (d : Addr) (i v : Int) (kvs : List (Int × Int)), x = .ref d ∧ y = .int i ∧ KDI K d kvs ∧ lookI kvs i = some v ∧ Q (.int v) H
theorem op_inDI (hK : X.K = K := by rfl) : OpR X (compareOp .In) (rInDI K) := by
  subst hK
  intro pins s σ H x y v u Q I rx ry h
  obtain ⟨i, d, kvs, ks, rfl, rfl, D, rfl, q⟩ := h
  rw [← lookI_mem] at q
  obtain ⟨t, rfl⟩ := rx
  cases ry
  obtain ⟨hd, f, hm, hf⟩ := D.map I
  refine wpAny_in_of (knd := mixKind X.prog X.w) (kV_is (k := .inl i) ⟨t, rfl⟩) hd hm ?_
  have e : (f (.inl i)).isSome = (lookI kvs i).isSome := by
    have := hf i
    split at this
    · next v hv => obtain ⟨u, hu⟩ := this; rw [hu, hv]; rfl
    · next hv => rw [this, hv]; rfl
  rw [e]
  exact ⟨.bl (lookI kvs i).isSome, H, I.tok _, rfl, q⟩
theorem op_notInDI (hK : X.K = K := by rfl) : OpR X (compareOp .NotIn) (rNotInDI K) := by
  subst hK
  intro pins s σ H x y v u Q I rx ry h
  obtain ⟨i, d, kvs, ks, rfl, rfl, D, rfl, q⟩ := h
  rw [← lookI_mem] at q
  obtain ⟨t, rfl⟩ := rx
  cases ry
  obtain ⟨hd, f, hm, hf⟩ := D.map I
  refine wpAny_notIn_of (knd := mixKind X.prog X.w) (kV_is (k := .inl i) ⟨t, rfl⟩) hd hm ?_
  have e : (f (.inl i)).isSome = (lookI kvs i).isSome := by
    have := hf i
    split at this
    · next v hv => obtain ⟨u, hu⟩ := this; rw [hu, hv]; rfl
    · next hv => rw [this, hv]; rfl
  rw [e]
  exact ⟨.bl (!(lookI kvs i).isSome), H, I.tok _, rfl, q⟩
theorem ix_DI (hK : X.K = K := by rfl) : IxR X (rIxDI K) := by
  subst hK
  intro value slice pins s σ H x y v u Q I rx ry h hs
  obtain ⟨p, i, r, kvs, rfl, rfl, D, e, q⟩ := h
  obtain rfl : v = Value.ref p := rx
  obtain ⟨t, rfl⟩ := ry
  obtain ⟨hd, f, hm, hf⟩ := D.map I
  have := hf i
  rw [e] at this
  obtain ⟨u, hu⟩ := this
  exact tail_any hm.typeIs slot_dict_getitem.lookup (wpAny_getItem_of (knd := mixKind X.prog X.w) (kV_is (k := .inl i) ⟨t, rfl⟩) hm hu ⟨.int r, H, I.tok _, ⟨_, rfl⟩, q⟩) hs
end
/-- the value at a key that is there -/
def dictI (kvs : List (Int × Int)) (i : Int) : Int := (lookI kvs i).getD 0
theorem lookI_at {kvs : List (Int × Int)} {i : Int} (h : i ∈ kvs.map (·.1)) : lookI kvs i = some (dictI kvs i) := by
  have := lookI_mem (kvs := kvs) (i := i)
  rw [decide_eq_true h] at this
  unfold dictI
  cases e : lookI kvs i with
  | none => rw [e] at this; cases this
  | some v => rfl
/-! ### walks over two lists, over numbered items, backwards -/
theorem pi_enumK {X : Cx} {K : PySem.W.Frag} {e : Expr} {ta : TA} {p pos tpos : Pos} {elts : List Expr} {kk : Nat} (hg : Gl X "enumerate") (hm : X.mg "enumerate" = none) (ha : PA X [e] ta) (hK : X.K = K := by rfl) (hs : starEach [e] X.env = [(false, eval e X.env)] := by rfl) :
    PI X (.Tuple elts kk tpos) (.Call (.Name "enumerate" p) [e] [] pos) (iEnum K ta) := hK ▸ pi_enum hg hm ha hs
section
variable {K : PySem.W.Frag} {a b : Addr} {xs ys : List V} {g : TG} {tb : TS} {tt : TT} {te : TE} {D : Ends} {σ : L2.St} {H H1 : Hp} {vs : List Nat} {DD : Addr} {Qd : Hp → Prop}
theorem for_enum (Pv : Nat → L2.St → Hp → Prop) (h0 : Pv 0 σ H) (hq : ∀ i σ H, Pv i σ H → SqL K H a xs)
    (hs : ∀ (i : Nat) (y : V) (T : Addr) (σ : L2.St) (H : Hp), xs[i]? = some y → H T = none → Pv i σ H → g (.ref T) σ (upd H T (.tup [.int (i : Nat), y])) fun σ2 H2 => tb { D with nx := Pv (i + 1), ct := Pv (i + 1), bk := D.nx } σ2 H2) (hd : ∀ σ H, Pv xs.length σ H → D.nx σ H) :
    ∃ W : Nat → Nat → L2.St → Hp → Prop, (∃ m, W 0 m σ H) ∧ ∀ i m σ H, W i m σ H →
      ((Ite K a).stop i H ∧ D.nx σ H) ∨ ((Ite K a).go i H ∧ ∃ N : L2.St → Hp → Prop, (∀ σ' H', N σ' H' → ∃ m', m' < m ∧ W (i + 1) m' σ' H') ∧ ∀ v H', (Ite K a).yld i H v H' → g v σ H' fun σ2 H2 => tb { D with nx := N, ct := N, bk := D.nx } σ2 H2) := by
  refine for_it walk_enum Pv h0 (fun i σ H _ p => hq i σ H p) (fun i x σ H H' hi p y => ?_) hd
  obtain ⟨T, x1, y1, rfl, hT, rfl, h1, h2⟩ := y
  cases h1
  exact hs i y1 T σ H h2 hT p
theorem lc_enum (Pv : Nat → Hp → Prop) (h0 : Pv 0 (upd H1 DD (.lst []))) (hq : ∀ i H, i ≤ xs.length → Pv i H → SqL K H a xs)
    (hs : ∀ (i : Nat) (y : V) (T : Addr) (H : Hp), xs[i]? = some y → H T = none → Pv i H → g (.ref T) (wipe σ vs) (upd H T (.tup [.int (i : Nat), y])) fun σ2 H2 => wipe σ2 vs = wipe σ vs ∧ tt σ2 H2 fun b H3 =>
      if b = true then te σ2 H3 fun y H4 => ∃ acc, H4 DD = some (.lst acc) ∧ acc.length < sizeLine ∧ Pv (i + 1) (upd H4 DD (.lst (acc ++ [y]))) else Pv (i + 1) H3) (hd : ∀ H, Pv xs.length H → Qd H) :
    ∃ W : Nat → Nat → Hp → Prop, (∃ m, W 0 m (upd H1 DD (.lst []))) ∧ ∀ i m H, W i m H →
      ((Ite K a).stop i H ∧ Qd H) ∨ ((Ite K a).go i H ∧ ∃ Nx : Hp → Prop, (∀ H', Nx H' → ∃ m', m' < m ∧ W (i + 1) m' H') ∧ ∀ x H', (Ite K a).yld i H x H' → g x (wipe σ vs) H' fun σ2 H2 => wipe σ2 vs = wipe σ vs ∧ tt σ2 H2 fun b H3 =>
        if b = true then te σ2 H3 fun y H4 => ∃ acc, H4 DD = some (.lst acc) ∧ acc.length < sizeLine ∧ Nx (upd H4 DD (.lst (acc ++ [y]))) else Nx H3) := by
  refine lc_it walk_enum Pv h0 hq (fun i x H H' hi p y => ?_) hd
  obtain ⟨T, x1, y1, rfl, hT, rfl, h1, h2⟩ := y
  cases h1
  exact hs i y1 T H h2 hT p
/-- zip of two lists of any lengths -/
theorem for_zipM (n : Nat) (hn : n = min xs.length ys.length) (Pv : Nat → L2.St → Hp → Prop) (h0 : Pv 0 σ H) (hq : ∀ i σ H, Pv i σ H → SqL K H a xs ∧ SqL K H b ys)
    (hs : ∀ (i : Nat) (x y : V) (T : Addr) (σ : L2.St) (H : Hp), xs[i]? = some x → ys[i]? = some y → H T = none → Pv i σ H → g (.ref T) σ (upd H T (.tup [x, y])) fun σ2 H2 => tb { D with nx := Pv (i + 1), ct := Pv (i + 1), bk := D.nx } σ2 H2) (hd : ∀ σ H, Pv n σ H → D.nx σ H) :
    ∃ W : Nat → Nat → L2.St → Hp → Prop, (∃ m, W 0 m σ H) ∧ ∀ i m σ H, W i m σ H →
      ((Itz K a b).stop i H ∧ D.nx σ H) ∨ ((Itz K a b).go i H ∧ ∃ N : L2.St → Hp → Prop, (∀ σ' H', N σ' H' → ∃ m', m' < m ∧ W (i + 1) m' σ' H') ∧ ∀ v H', (Itz K a b).yld i H v H' → g v σ H' fun σ2 H2 => tb { D with nx := N, ct := N, bk := D.nx } σ2 H2) := by
  refine for_it (walk_zip hn) Pv h0 (fun i σ H _ p => hq i σ H p) (fun i x σ H H' hi p y => ?_) hd
  obtain ⟨T, x1, y1, rfl, hT, rfl, h1, h2⟩ := y
  exact hs i x1 y1 T σ H h1 h2 hT p
theorem lc_zipM (n : Nat) (hn : n = min xs.length ys.length) (Pv : Nat → Hp → Prop) (h0 : Pv 0 (upd H1 DD (.lst []))) (hq : ∀ i H, i ≤ n → Pv i H → SqL K H a xs ∧ SqL K H b ys)
    (hs : ∀ (i : Nat) (x y : V) (T : Addr) (H : Hp), xs[i]? = some x → ys[i]? = some y → H T = none → Pv i H → g (.ref T) (wipe σ vs) (upd H T (.tup [x, y])) fun σ2 H2 => wipe σ2 vs = wipe σ vs ∧ tt σ2 H2 fun b H3 =>
      if b = true then te σ2 H3 fun y H4 => ∃ acc, H4 DD = some (.lst acc) ∧ acc.length < sizeLine ∧ Pv (i + 1) (upd H4 DD (.lst (acc ++ [y]))) else Pv (i + 1) H3) (hd : ∀ H, Pv n H → Qd H) :
    ∃ W : Nat → Nat → Hp → Prop, (∃ m, W 0 m (upd H1 DD (.lst []))) ∧ ∀ i m H, W i m H →
      ((Itz K a b).stop i H ∧ Qd H) ∨ ((Itz K a b).go i H ∧ ∃ Nx : Hp → Prop, (∀ H', Nx H' → ∃ m', m' < m ∧ W (i + 1) m' H') ∧ ∀ x H', (Itz K a b).yld i H x H' → g x (wipe σ vs) H' fun σ2 H2 => wipe σ2 vs = wipe σ vs ∧ tt σ2 H2 fun b H3 =>
        if b = true then te σ2 H3 fun y H4 => ∃ acc, H4 DD = some (.lst acc) ∧ acc.length < sizeLine ∧ Nx (upd H4 DD (.lst (acc ++ [y]))) else Nx H3) := by
  refine lc_it (walk_zip hn) Pv h0 hq (fun i x H H' hi p y => ?_) hd
  obtain ⟨T, x1, y1, rfl, hT, rfl, h1, h2⟩ := y
  exact hs i x1 y1 T H h1 h2 hT p
end
theorem zipM_len {α β : Type} {xs : List α} {ys : List β} : min xs.length ys.length = (xs.zip ys).length := by rw [List.length_zip]
theorem zipM_n {α β : Type} {vs ws : List V} {xs : List α} {ys : List β} (a : vs.length = xs.length) (b : ws.length = ys.length) : min xs.length ys.length = min vs.length ws.length := by rw [a, b]
def rListTK (K : PySem.W.Frag) : List V → Hp → VK → Prop := fun xs H Q => ∃ (p : Addr) (vs : List V), xs = [.ref p] ∧ SqT K H p vs ∧ ∀ l, H l = none → Q (.ref l) (upd H l (.lst vs))
theorem call_listTK {X : Cx} {K : PySem.W.Frag} (hK : X.K = K := by rfl) : CallR X (.type "list") (rListTK K) := by
  subst hK
  intro pins s σ H xs us Q I r h
  obtain ⟨p, vs, rfl, hs, q⟩ := h
  exact call_list_of pins s σ H _ us Q I r ⟨p, _, rfl, Or.inr hs, q⟩
/-- two lists that keep step -/
inductive F2 {α β : Type} (P : α → β → Prop) : List α → List β → Prop
  | nil : F2 P [] []
  | cons {a : α} {b : β} {l : List α} {m : List β} (h : P a b) (t : F2 P l m) : F2 P (a :: l) (b :: m)
theorem F2.get {α β : Type} {P : α → β → Prop} : ∀ {l : List α} {m : List β}, F2 P l m → ∀ (j : Nat), j < l.length → ∃ a b, l[j]? = some a ∧ m[j]? = some b ∧ P a b
  | _, _, .nil, j, h => absurd h (Nat.not_lt_zero _)
  | _, _, .cons h t, 0, _ => ⟨_, _, rfl, rfl, h⟩
  | _, _, .cons h t, j + 1, hj => t.get j (Nat.lt_of_succ_lt_succ hj)
theorem F2.at {α β : Type} [Inhabited α] [Inhabited β] {P : α → β → Prop} {l : List α} {m : List β} (h : F2 P l m) (k : Int) (h0 : 0 ≤ k) (h1 : k < l.length) : P (itD l k) (itD m k) := by
  obtain ⟨j, rfl⟩ : ∃ j : Nat, k = (j : Int) := ⟨k.toNat, by omega⟩
  obtain ⟨a, b, ha, hb, p⟩ := h.get j (by omega)
  have e1 : itD l (j : Int) = a := by unfold itD; rw [atI_nat ha]; rfl
  have e2 : itD m (j : Int) = b := by unfold itD; rw [atI_nat hb]; rfl
  rw [e1, e2]
  exact p
theorem SqT.cast {K : PySem.W.Frag} {H : Hp} {a : Addr} {xs ys : List V} (h : SqT K H a xs) (e : xs = ys) : SqT K H a ys := e ▸ h
/-- enumerate(xs) -/
def enumL {α : Type} (xs : List α) : List (Int × α) := (rng 0 xs.length).zip xs
theorem enumL_len {α : Type} (xs : List α) : (enumL xs).length = xs.length := by
  unfold enumL
  rw [List.length_zip, rng_len, Nat.min_self]
theorem enumL_get {α : Type} {xs : List α} {i : Nat} {x : α} (h : xs[i]? = some x) : (enumL xs)[i]? = some ((i : Int), x) := by
  have hl : i < xs.length := (List.getElem?_eq_some_iff.mp h).1
  unfold enumL
  rw [List.getElem?_zip_eq_some]
  refine ⟨?_, h⟩
  have := rng_get (lo := 0) hl
  rw [this]
  congr 1
  omega
end Vx
namespace Vx
open PySem PySem.Spec PyProof.Rows L2
theorem wipe_get : ∀ (σ : L2.St) (vs : List Nat) (j : Nat), (wipe σ vs)[j]? = if j ∈ vs ∧ j < σ.length then some none else σ[j]?
  | σ, [], j => by simp [wipe]
  | σ, v :: vs, j => by
    unfold wipe
    by_cases e : v = j
    · subst e
      by_cases h : v < σ.length
      · rw [List.getElem?_set_self (by rw [wipe_length]; exact h), if_pos ⟨List.mem_cons_self, h⟩]
      · rw [if_neg (fun z => h z.2), List.getElem?_eq_none (by rw [List.length_set, wipe_length]; omega), List.getElem?_eq_none (by omega)]
    · rw [List.getElem?_set_ne e, wipe_get σ vs j]
      have : (j ∈ v :: vs ∧ j < σ.length) ↔ (j ∈ vs ∧ j < σ.length) := by
        constructor
        · rintro ⟨h1, h2⟩
          rcases List.mem_cons.mp h1 with rfl | h1
          · exact absurd rfl e
          · exact ⟨h1, h2⟩
        · rintro ⟨h1, h2⟩
          exact ⟨List.mem_cons_of_mem _ h1, h2⟩
      by_cases q : j ∈ vs ∧ j < σ.length
      · rw [if_pos q, if_pos (this.mpr q)]
      · rw [if_neg q, if_neg (fun z => q (this.mp z))]
theorem wipe_wipe {σ : L2.St} {vs : List Nat} : wipe (wipe σ vs) vs = wipe σ vs := by
  apply List.ext_getElem?
  intro j
  rw [wipe_get (wipe σ vs), wipe_length]
  by_cases q : j ∈ vs ∧ j < σ.length
  · rw [if_pos q, wipe_get, if_pos q]
  · rw [if_neg q]
theorem wipe_set {σ : L2.St} {vs : List Nat} {v : Nat} {x : Option V} (h : v ∈ vs) : wipe (σ.set v x) vs = wipe σ vs := by
  apply List.ext_getElem?
  intro j
  rw [wipe_get, wipe_get, List.length_set]
  by_cases q : j ∈ vs ∧ j < σ.length
  · rw [if_pos q, if_pos q]
  · rw [if_neg q, if_neg q]
    by_cases e : v = j
    · subst e
      have hl : ¬ v < σ.length := fun z => q ⟨h, z⟩
      rw [List.getElem?_eq_none (by rw [List.length_set]; omega), List.getElem?_eq_none (by omega)]
    · rw [List.getElem?_set_ne e]
/-- a comprehension over a step range -/
theorem lc_rangeC {lo c : Int} {n : Nat} {g : TG} {tt : TT} {te : TE} {vs : List Nat} {σ : L2.St} {H1 : Hp} {D : Addr} {Qd : Hp → Prop} (Pv : Nat → Hp → Prop) (h0 : Pv 0 (upd H1 D (.lst [])))
    (hs : ∀ i H, i < n → Pv i H → g (.int (lo + (i : Nat) * c)) (wipe σ vs) H fun σ2 H2 => wipe σ2 vs = wipe σ vs ∧ tt σ2 H2 fun b H3 =>
      if b = true then te σ2 H3 fun y H4 => ∃ acc, H4 D = some (.lst acc) ∧ acc.length < sizeLine ∧ Pv (i + 1) (upd H4 D (.lst (acc ++ [y]))) else Pv (i + 1) H3) (hd : ∀ H, Pv n H → Qd H) :
    ∃ W : Nat → Nat → Hp → Prop, (∃ m, W 0 m (upd H1 D (.lst []))) ∧ ∀ i m H, W i m H →
      ((Itc lo c n).stop i H ∧ Qd H) ∨ ((Itc lo c n).go i H ∧ ∃ Nx : Hp → Prop, (∀ H', Nx H' → ∃ m', m' < m ∧ W (i + 1) m' H') ∧ ∀ x H', (Itc lo c n).yld i H x H' → g x (wipe σ vs) H' fun σ2 H2 => wipe σ2 vs = wipe σ vs ∧ tt σ2 H2 fun b H3 =>
        if b = true then te σ2 H3 fun y H4 => ∃ acc, H4 D = some (.lst acc) ∧ acc.length < sizeLine ∧ Nx (upd H4 D (.lst (acc ++ [y]))) else Nx H3) := by
  refine ⟨fun i m H => m = n - i ∧ i ≤ n ∧ Pv i H, ⟨n, by simp, Nat.zero_le _, h0⟩, ?_⟩
  rintro i m H ⟨rfl, hi, p⟩
  rcases Nat.lt_or_ge i n with hlt | hge
  · refine .inr ⟨hlt, Pv (i + 1), fun H' p' => ⟨n - (i + 1), by omega, rfl, hlt, p'⟩, fun x H' y => ?_⟩
    obtain ⟨e, y⟩ := y
    subst e y
    exact hs i _ hlt p
  · cases Nat.le_antisymm hi hge
    exact .inl ⟨Nat.le_refl _, hd H p⟩

/-! ### reversed(list of ints), any(list of ints) -/
theorem pi_revK {X : Cx} {K : PySem.W.Frag} {tg : Expr} {e : Expr} {ta : TA} {p pos : Pos} (hg : Gl X "reversed") (hm : X.mg "reversed" = none) (ha : PA X [e] ta) (hK : X.K = K := by rfl) (hs : starEach [e] X.env = [(false, eval e X.env)] := by rfl) :
    PI X tg (.Call (.Name "reversed" p) [e] [] pos) (iRev K ta) := hK ▸ pi_reversed hg hm ha hs
theorem for_revI {K : PySem.W.Frag} {a : Addr} {xs : List Int} {g : TG} {tb : TS} {D : Ends} {σ : L2.St} {H : Hp} (Pv : Nat → L2.St → Hp → Prop) (h0 : Pv 0 σ H) (hl : ∀ i σ H, i ≤ (xs.reverse.map V.int).length → Pv i σ H → SqL K H a (xs.map V.int))
    (hs : ∀ i x σ H, (xs.reverse.map V.int)[i]? = some x → Pv i σ H → g x σ H fun σ2 H2 => tb { D with nx := Pv (i + 1), ct := Pv (i + 1), bk := D.nx } σ2 H2) (hd : ∀ σ H, Pv (xs.reverse.map V.int).length σ H → D.nx σ H) :
    ∃ W : Nat → Nat → L2.St → Hp → Prop, (∃ m, W 0 m σ H) ∧ ∀ i m σ H, W i m σ H →
      ((Itv K a (xs.map V.int).length).stop i H ∧ D.nx σ H) ∨ ((Itv K a (xs.map V.int).length).go i H ∧ ∃ N : L2.St → Hp → Prop, (∀ σ' H', N σ' H' → ∃ m', m' < m ∧ W (i + 1) m' σ' H') ∧ ∀ x H', (Itv K a (xs.map V.int).length).yld i H x H' → g x σ H' fun σ2 H2 => tb { D with nx := N, ct := N, bk := D.nx } σ2 H2) := by
  have en : (xs.reverse.map V.int).length = (xs.map V.int).length := by rw [List.length_map, List.length_map, List.length_reverse]
  rw [en] at hl hd
  refine for_it walk_rev Pv h0 hl (fun i x σ H H' hi p y => ?_) hd
  obtain ⟨rfl, hx⟩ := y
  refine hs i x σ _ ?_ p
  rw [List.map_reverse, List.getElem?_reverse hi]
  exact hx
theorem ints_get : ∀ {ns : List Int} {us : List Value} {i : Nat} {v : Value}, IntsAre us ns → us[i]? = some v → ∃ t, v = .int (ns.getD i 0) t := by
  intro ns us i v h
  induction h generalizing i with
  | nil => intro z; simp at z
  | cons n t _ ih =>
    intro z
    cases i with
    | zero => simp at z; exact ⟨t, by rw [← z]; rfl⟩
    | succ i => exact ih (by simpa using z)
theorem any_rangeI : ∀ ns : List Int, (List.range ns.length).any (fun i => ns.getD i 0 != 0) = ns.any (fun x => x != 0)
  | [] => rfl
  | b :: bs => by
    rw [List.length_cons, List.range_succ_eq_map, List.any_cons, List.any_map, List.any_cons, ← any_rangeI bs]
    all_goals rfl
theorem ints_len : ∀ {ns : List Int} {us : List Value}, IntsAre us ns → us.length = ns.length := by
  intro ns us h
  induction h with
  | nil => rfl
  | cons _ _ _ ih => simp [ih]
def rAnyI (K : PySem.W.Frag) : List V → Hp → VK → Prop := fun vs H Q => ∃ (a : Addr) (ns : List Int), vs = [V.ref a] ∧ SqL K H a (ns.map V.int) ∧ Q (.bl (ns.any fun x => x != 0)) H
theorem cr_anyI {X : Cx} (hc : X.calm = true) : CallR X (.builtin "any") (rAnyI X.K) := by
  intro pins s σ H vs us Q I r h
  obtain ⟨a, ns, rfl, hs, q⟩ := h
  obtain ⟨its, rv, hl, _⟩ := I.list hs
  rw [Vals.ref1 r]
  have hb := rv.ints
  refine call_any_walk (iter_any hl.isList fun s₂ e2 st hne => ?_)
  subst e2
  have ht : TruthOf X.prog X.w X.A.in1 (fun i v => its.toArray[i]? = some v) (fun i => ns.getD i 0 != 0) := fun i v s Q E hv hq => by
    obtain ⟨t, rfl⟩ := ints_get hb (by simpa using hv)
    exact PyProof.Rows.truthy_int hq
  refine ⟨_, _, _, _, _, _, _, rfl, Walks.list (A := X.A.in1) (I.ok.hd hc) _ a hne its.toArray, st, ht, fun h' tk hk => ?_⟩
  refine ⟨.bl _, H, I.kept fun b o eo => hk b o (fun hmem => ?_) (Heap.get?_push_of_some _ eo), ?_, q⟩
  · rcases List.mem_cons.mp hmem with e1 | hmem
    · exact absurd (e1 ▸ Heap.lt_size eo) (Nat.lt_irrefl _)
    · cases hmem
  · show Value.bool _ = Value.bool _
    rw [← any_rangeI, List.size_toArray, ints_len hb]
theorem cr_anyIK {X : Cx} {K : PySem.W.Frag} (hc : X.calm = true) (hK : X.K = K := by rfl) : CallR X (.builtin "any") (rAnyI K) := hK ▸ cr_anyI hc
/-- an item of a list of data stored anew -/
theorem RpAll.setM {α : Type} {f : α → PyData} {G : Hp} {vs : List V} {xs : List α} {k : Int} {v : V} {y : α} (d : RpAll G vs (xs.map f)) (r : Rp G v (f y)) : RpAll G (vs.set ((ixN vs.length k).getD 0) v) ((setL xs k y).map f) := by
  have e : vs.length = xs.length := by rw [d.len, List.length_map]
  unfold setL
  rw [List.map_set, e]
  exact RpAll.set r _ d
end Vx
/-! # data of any shape: None beside data, tuples of several shapes -/
namespace Vx
open PySem PySem.Spec PyProof.Rows L2
def encD (d : PyData) : PyData := d
def encN (_ : Unit) : PyData := .none
def encT1 {α : Type} (f : α → PyData) (x : α) : PyData := .tuple [f x]
instance instInhD : Inhabited PyData := ⟨.none⟩
/-- a known shape: what is laid, what is read back, whether the data has the shape -/
structure Cst (α : Type) where
  enc : α → PyData
  dec : PyData → α
  ok : PyData → Bool
  h : ∀ d, ok d = true → enc (dec d) = d
  oke : ∀ x, ok (enc x) = true
  de : ∀ x, dec (enc x) = x
def cI : Cst Int := ⟨PyData.int, fun d => match d with | .int i => i | _ => 0, fun d => match d with | .int _ => true | _ => false, fun d h => (by cases d <;> first | rfl | (cases h)), fun _ => rfl, fun _ => rfl⟩
def cB : Cst Bool := ⟨PyData.bool, fun d => match d with | .bool i => i | _ => false, fun d => match d with | .bool _ => true | _ => false, fun d h => (by cases d <;> first | rfl | (cases h)), fun _ => rfl, fun _ => rfl⟩
def cS : Cst Str := ⟨PyData.str, fun d => match d with | .str i => i | _ => "", fun d => match d with | .str _ => true | _ => false, fun d h => (by cases d <;> first | rfl | (cases h)), fun _ => rfl, fun _ => rfl⟩
def cN : Cst Unit := ⟨encN, fun _ => (), fun d => match d with | .none => true | _ => false, fun d h => (by cases d <;> first | rfl | (cases h)), fun _ => rfl, fun _ => rfl⟩
def cD : Cst PyData := ⟨encD, fun d => d, fun _ => true, fun _ _ => rfl, fun _ => rfl, fun _ => rfl⟩
theorem map_dec {α : Type} (c : Cst α) : ∀ xs : List PyData, xs.all c.ok = true → (xs.map c.dec).map c.enc = xs
  | [], _ => rfl
  | x :: xs, h => by
    rw [List.all_cons, Bool.and_eq_true] at h
    rw [List.map_cons, List.map_cons, c.h x h.1, map_dec c xs h.2]
def cL {α : Type} (c : Cst α) : Cst (List α) where
  enc := encL c.enc
  dec := fun d => match d with | .list xs => xs.map c.dec | _ => []
  ok := fun d => match d with | .list xs => xs.all c.ok | _ => false
  h := fun d h => by
    cases d with
    | list xs => exact congrArg PyData.list (map_dec c xs h)
    | _ => cases h
  oke := fun x => by
    show (x.map c.enc).all c.ok = true
    rw [List.all_map, List.all_eq_true]
    exact fun a _ => c.oke a
  de := fun x => by
    show (x.map c.enc).map c.dec = x
    rw [List.map_map]
    have e : c.dec ∘ c.enc = id := funext c.de
    rw [e, List.map_id]
def cT1 {α : Type} (a : Cst α) : Cst α where
  enc := encT1 a.enc
  dec := fun d => match d with | .tuple [x] => a.dec x | _ => a.dec .none
  ok := fun d => match d with | .tuple [x] => a.ok x | _ => false
  h := fun d h => by
    split at h
    · next x => exact congrArg (fun z => PyData.tuple [z]) (a.h x h)
    · cases h
  oke := fun x => a.oke x
  de := fun x => a.de x
def cT2 {α β : Type} (a : Cst α) (b : Cst β) : Cst (α × β) where
  enc := encT2 a.enc b.enc
  dec := fun d => match d with | .tuple [x, y] => (a.dec x, b.dec y) | _ => (a.dec .none, b.dec .none)
  ok := fun d => match d with | .tuple [x, y] => a.ok x && b.ok y | _ => false
  h := fun d h => by
    split at h
    · next x y =>
      rw [Bool.and_eq_true] at h
      show PyData.tuple [a.enc (a.dec x), b.enc (b.dec y)] = _
      rw [a.h x h.1, b.h y h.2]
    · cases h
  oke := fun x => by show (a.ok (a.enc x.1) && b.ok (b.enc x.2)) = true; rw [a.oke, b.oke]; rfl
  de := fun x => by show (a.dec (a.enc x.1), b.dec (b.enc x.2)) = x; rw [a.de, b.de]
def cT3 {α β γ : Type} (a : Cst α) (b : Cst β) (c : Cst γ) : Cst (α × β × γ) where
  enc := encT3 a.enc b.enc c.enc
  dec := fun d => match d with | .tuple [x, y, z] => (a.dec x, b.dec y, c.dec z) | _ => (a.dec .none, b.dec .none, c.dec .none)
  ok := fun d => match d with | .tuple [x, y, z] => a.ok x && b.ok y && c.ok z | _ => false
  h := fun d h => by
    split at h
    · next x y z =>
      simp only [Bool.and_eq_true] at h
      show PyData.tuple [a.enc (a.dec x), b.enc (b.dec y), c.enc (c.dec z)] = _
      rw [a.h x h.1.1, b.h y h.1.2, c.h z h.2]
    · cases h
  oke := fun x => by show (a.ok (a.enc x.1) && b.ok (b.enc x.2.1) && c.ok (c.enc x.2.2)) = true; rw [a.oke, b.oke, c.oke]; rfl
  de := fun x => by show (a.dec (a.enc x.1), b.dec (b.enc x.2.1), c.dec (c.enc x.2.2)) = x; rw [a.de, b.de, c.de]
def cT4 {α β γ δ : Type} (a : Cst α) (b : Cst β) (c : Cst γ) (e : Cst δ) : Cst (α × β × γ × δ) where
  enc := encT4 a.enc b.enc c.enc e.enc
  dec := fun d => match d with | .tuple [x, y, z, w] => (a.dec x, b.dec y, c.dec z, e.dec w) | _ => (a.dec .none, b.dec .none, c.dec .none, e.dec .none)
  ok := fun d => match d with | .tuple [x, y, z, w] => a.ok x && b.ok y && c.ok z && e.ok w | _ => false
  h := fun d h => by
    split at h
    · next x y z w =>
      simp only [Bool.and_eq_true] at h
      show PyData.tuple [a.enc (a.dec x), b.enc (b.dec y), c.enc (c.dec z), e.enc (e.dec w)] = _
      rw [a.h x h.1.1.1, b.h y h.1.1.2, c.h z h.1.2, e.h w h.2]
    · cases h
  oke := fun x => by show (a.ok (a.enc x.1) && b.ok (b.enc x.2.1) && c.ok (c.enc x.2.2.1) && e.ok (e.enc x.2.2.2)) = true; rw [a.oke, b.oke, c.oke, e.oke]; rfl
  de := fun x => by show (a.dec (a.enc x.1), b.dec (b.enc x.2.1), c.dec (c.enc x.2.2.1), e.dec (e.enc x.2.2.2)) = x; rw [a.de, b.de, c.de, e.de]
section
variable {H : Hp} {v : V} {d : PyData}
theorem rp_dcast {α : Type} (c : Cst α) (g : c.ok d = true) (r : Rp H v d) : Rp H v (c.enc (c.dec d)) := by rw [c.h d g]; exact r
def dNone : PyData → Bool
  | .none => true
  | _ => false
def dSeq : PyData → Bool
  | .list _ => true
  | .tuple _ => true
  | _ => false
def dTup : PyData → Bool
  | .tuple _ => true
  | _ => false
def dLst : PyData → Bool
  | .list _ => true
  | _ => false
def dInt : PyData → Bool
  | .int _ => true
  | .bool _ => true
  | _ => false
def dBool : PyData → Bool
  | .bool _ => true
  | _ => false
def dGet : PyData → Nat → PyData
  | .tuple xs, k => xs.getD k .none
  | .list xs, k => xs.getD k .none
  | _, _ => .none
def dHasT : PyData → Nat → Bool
  | .tuple xs, k => decide (k < xs.length)
  | _, _ => false
theorem rp_ref (g : dSeq d = true) (r : Rp H v d) : ∃ a, v = .ref a := by
  cases r <;> first | exact ⟨_, rfl⟩ | cases g
theorem rp_dget {k : Nat} (g : dHasT d k = true) (r : Rp H v d) : ∃ a vs u, v = .ref a ∧ H a = some (.tup vs) ∧ atI vs (k : Int) = some u ∧ Rp H u (dGet d k) := by
  cases r with
  | tup h rs =>
    rename_i ds
    have hk : k < ds.length := of_decide_eq_true g
    obtain ⟨u, h1, h2⟩ := RpAll.at' (i := k) (d := ds[k]) rs (List.getElem?_eq_getElem hk)
    refine ⟨_, _, u, rfl, h, ?_, ?_⟩
    · exact atI_nat h1
    · show Rp H u (ds.getD k .none)
      rw [List.getD_eq_getElem?_getD, List.getElem?_eq_getElem hk]
      exact h2
  | _ => cases g
theorem rp_non {x : Unit} (r : Rp H v (encN x)) : v = .non := by unfold encN at r; cases r; rfl
theorem rp_tup1 {α : Type} {f : α → PyData} {x : α} (r : Rp H v (encT1 f x)) : ∃ a v1, v = .ref a ∧ H a = some (.tup [v1]) ∧ Rp H v1 (f x) := by
  unfold encT1 at r
  cases r with
  | tup h1 h2 =>
    cases h2 with
    | cons r1 t => cases t; exact ⟨_, _, rfl, h1, r1⟩
theorem rp_mk1 {α : Type} {f : α → PyData} {a : Addr} {v1 : V} {x : α} (h1 : H a = some (.tup [v1])) (r1 : Rp H v1 (f x)) : Rp H (.ref a) (encT1 f x) := .tup h1 (.cons r1 .nil)
theorem rp_none_iff (r : Rp H v d) : decide (v = V.non) = dNone d := by
  cases r <;> simp [dNone]
end
section
variable {X : Cx}
def rIsND : R2 := fun x y H Q => ∃ d, y = .non ∧ Rp H x d ∧ Q (.bl (dNone d)) H
def rNotND : R2 := fun x y H Q => ∃ d, y = .non ∧ Rp H x d ∧ Q (.bl (!dNone d)) H
theorem op_isND : OpR X (compareOp .Is) rIsND := by
  intro pins s σ H x y v u Q I rx ry h
  obtain ⟨d, e, r, q⟩ := h
  exact op_isN pins s σ H x y v u Q I rx ry ⟨e, by rw [rp_none_iff r]; exact q⟩
theorem op_notND : OpR X (compareOp .IsNot) rNotND := by
  intro pins s σ H x y v u Q I rx ry h
  obtain ⟨d, e, r, q⟩ := h
  exact op_notN pins s σ H x y v u Q I rx ry ⟨e, by rw [rp_none_iff r]; exact q⟩
def rEqD : R2 := fun x y H Q => ∃ a b : PyData, Rp H x a ∧ Rp H y b ∧ (SeqAt.shaped a = true ∧ SeqAt.shaped b = true) ∧ Q (.bl (PyData.eqv a b)) H
def rNeD : R2 := fun x y H Q => ∃ a b : PyData, Rp H x a ∧ Rp H y b ∧ (SeqAt.shaped a = true ∧ SeqAt.shaped b = true) ∧ Q (.bl (!PyData.eqv a b)) H
theorem op_eqDD (hu : X.A.units + 64 < cLine) : OpR X (compareOp .Eq) rEqD := by
  intro pins s σ H x y v u Q I rx ry h
  obtain ⟨a, b, h1, h2, ⟨s1, s2⟩, q⟩ := h
  exact op_eqD hu pins s σ H _ _ v u Q I rx ry ⟨_, _, h1.dp, h2.dp, s1, s2, q⟩
theorem op_neDD (hu : X.A.units + 64 < cLine) : OpR X (compareOp .NotEq) rNeD := by
  intro pins s σ H x y v u Q I rx ry h
  obtain ⟨a, b, h1, h2, ⟨s1, s2⟩, q⟩ := h
  exact op_neD hu pins s σ H _ _ v u Q I rx ry ⟨_, _, h1.dp, h2.dp, s1, s2, q⟩
def dTy : PyData → String
  | .none => "NoneType"
  | .bool _ => "bool"
  | .int _ => "int"
  | .str _ => "str"
  | .list _ => "list"
  | .tuple _ => "tuple"
  | .dict _ => "dict"
theorem Rp.tyX {K : PySem.W.Frag} {H : Hp} {v : V} {d : PyData} (r : Rp H v d) : TyX K H v (.type (dTy d)) := by
  cases r with
  | non => exact .base .non
  | bl b => exact .base (.bl b)
  | int i => exact .base (.int i)
  | str x => exact .base (.str x)
  | lst h _ => exact .base (.lst h)
  | tup h _ => exact .base (.tup h)
def rIsiD (T : String) (f : PyData → Bool) : List V → Hp → VK → Prop := fun xs H Q => ∃ (x : V) (d : PyData), xs = [x, .ty T] ∧ Rp H x d ∧ Q (.bl (f d)) H
theorem call_isiD {T : String} {f : PyData → Bool} (hT : ∀ d, kitB (dTy d) T = some (f d)) : CallR X (.builtin "isinstance") (rIsiD T f) := by
  intro pins s σ H xs us Q I r h
  obtain ⟨x, d, rfl, rx, q⟩ := h
  exact call_isi pins s σ H _ us Q I r ⟨x, .ty T, _, _, _, rfl, .ty T, rx.tyX, kit_ty (hT d), q⟩
theorem kit_dTup (d : PyData) : kitB (dTy d) "tuple" = some (dTup d) := by
  cases d with
  | none => exact (by decide +kernel : kitB "NoneType" "tuple" = some false)
  | bool _ => exact (by decide +kernel : kitB "bool" "tuple" = some false)
  | int _ => exact (by decide +kernel : kitB "int" "tuple" = some false)
  | str _ => exact (by decide +kernel : kitB "str" "tuple" = some false)
  | list _ => exact (by decide +kernel : kitB "list" "tuple" = some false)
  | tuple _ => exact (by decide +kernel : kitB "tuple" "tuple" = some true)
  | dict _ => exact (by decide +kernel : kitB "dict" "tuple" = some false)
theorem kit_dLst (d : PyData) : kitB (dTy d) "list" = some (dLst d) := by
  cases d with
  | none => exact (by decide +kernel : kitB "NoneType" "list" = some false)
  | bool _ => exact (by decide +kernel : kitB "bool" "list" = some false)
  | int _ => exact (by decide +kernel : kitB "int" "list" = some false)
  | str _ => exact (by decide +kernel : kitB "str" "list" = some false)
  | list _ => exact (by decide +kernel : kitB "list" "list" = some true)
  | tuple _ => exact (by decide +kernel : kitB "tuple" "list" = some false)
  | dict _ => exact (by decide +kernel : kitB "dict" "list" = some false)
theorem kit_dInt (d : PyData) : kitB (dTy d) "int" = some (dInt d) := by
  cases d with
  | none => exact (by decide +kernel : kitB "NoneType" "int" = some false)
  | bool _ => exact (by decide +kernel : kitB "bool" "int" = some true)
  | int _ => exact (by decide +kernel : kitB "int" "int" = some true)
  | str _ => exact (by decide +kernel : kitB "str" "int" = some false)
  | list _ => exact (by decide +kernel : kitB "list" "int" = some false)
  | tuple _ => exact (by decide +kernel : kitB "tuple" "int" = some false)
  | dict _ => exact (by decide +kernel : kitB "dict" "int" = some false)
theorem kit_dBool (d : PyData) : kitB (dTy d) "bool" = some (dBool d) := by
  cases d with
  | none => exact (by decide +kernel : kitB "NoneType" "bool" = some false)
  | bool _ => exact (by decide +kernel : kitB "bool" "bool" = some true)
  | int _ => exact (by decide +kernel : kitB "int" "bool" = some false)
  | str _ => exact (by decide +kernel : kitB "str" "bool" = some false)
  | list _ => exact (by decide +kernel : kitB "list" "bool" = some false)
  | tuple _ => exact (by decide +kernel : kitB "tuple" "bool" = some false)
  | dict _ => exact (by decide +kernel : kitB "dict" "bool" = some false)
end
/-! ### written dicts of numbers with text keys -/
inductive ES (P : Params) : List (Str × Int) → List DictEntry → Prop
  | nil : ES P [] []
  | cons {h k v} {t u : Tok} {r : List (Str × Int)} {es : List DictEntry} (e : h = PyData.keyHash P k) (x : ES P r es) : ES P ((k, v) :: r) (⟨h, .str k t, .int v u⟩ :: es)
def lookS : List (Str × Int) → Str → Option Int
  | [], _ => none
  | (k, v) :: r, i => if k = i then some v else lookS r i
def KDS (K : PySem.W.Frag) (w : World) (a : Addr) (kvs : List (Str × Int)) : Prop :=
  ∃ es n, K.lookup a = some ⟨.type "dict", none, .dict es n, #[]⟩ ∧ ES w.params kvs es.toList
theorem ES.lit {P : Params} : ∀ {kvs : List (Str × Int)} {es : List DictEntry}, ES P kvs es → PySem.W.KeysLit P es
  | _, _, .nil => trivial
  | _, _, .cons e x => ⟨⟨_, _, rfl, e⟩, ES.lit x⟩
theorem ES.find {P : Params} {i : Str} {v : Int} : ∀ {kvs : List (Str × Int)} {es : List DictEntry}, ES P kvs es → lookS kvs i = some v → ∃ e u, es.find? (fun e => e.key.isStr i) = some e ∧ e.val = .int v u
  | _, _, .nil, h => by cases h
  | _, _, .cons (k := k) (u := u) e x, h => by
    unfold lookS at h
    by_cases q : k = i
    · rw [if_pos q] at h
      subst q
      cases h
      refine ⟨_, u, List.find?_cons_of_pos ?_, rfl⟩
      simp [Value.isStr]
    · rw [if_neg q] at h
      obtain ⟨e', u', h1, h2⟩ := ES.find x h
      refine ⟨e', u', ?_, h2⟩
      rw [List.find?_cons_of_neg]
      · exact h1
      · simp [Value.isStr, q]
theorem KDS.at {K : PySem.W.Frag} {w : World} {a : Addr} {kvs : List (Str × Int)} {z : Str} {v : Int} (D : KDS K w a kvs) (h : lookS kvs z = some v) : KDct K w a z (.int v) := by
  obtain ⟨es, n, hl, x⟩ := D
  obtain ⟨e, u, h1, h2⟩ := x.find h
  refine ⟨es, n, .int v u, hl, x.lit, ?_, ⟨u, rfl⟩⟩
  unfold PySem.W.nsIn
  rw [hl]
  show (match es.toList.find? (fun e => e.key.isStr z) with
      | some e => some (some e.val)
      | none => if es.toList.any (·.refKey) then none else some none) = _
  rw [h1]
  show some (some e.val) = _
  rw [h2]
def rIxDS (K : PySem.W.Frag) (w : World) : R2 := fun x y H Q => ∃ (p : Addr) (z : Str) (kvs : List (Str × Int)) (v : Int), x = .ref p ∧ y = .str z ∧ KDS K w p kvs ∧ lookS kvs z = some v ∧ Q (.int v) H
theorem ix_DS {X : Cx} {K : PySem.W.Frag} {w : World} (hK : X.K = K := by rfl) (hw : X.w = w := by rfl) : IxR X (rIxDS K w) := by
  subst hK hw
  intro value slice pins s σ H x y v u Q I rx ry h hs
  obtain ⟨p, z, kvs, r, e1, e2, D, e, q⟩ := h
  exact ix_kdict value slice pins s σ H x y v u Q I rx ry ⟨p, z, .int r, e1, e2, D.at e, q⟩ hs
def dictS (kvs : List (Str × Int)) (i : Str) : Int := (lookS kvs i).getD 0
def hasS (kvs : List (Str × Int)) (i : Str) : Bool := (lookS kvs i).isSome
theorem lookS_at {kvs : List (Str × Int)} {i : Str} (h : hasS kvs i = true) : lookS kvs i = some (dictS kvs i) := by
  unfold hasS at h
  unfold dictS
  cases e : lookS kvs i with
  | none => rw [e] at h; cases h
  | some v => rfl
/-! ### for the mathematics -/
theorem eqv_enc {α : Type} [DecidableEq α] {n : Nat} {f : α → PyData} (ok : EncOk n f) (x y : α) : PyData.eqv (f x) (f y) = decide (x = y) := ok.eqv x y
end Vx
namespace Vx
open PySem PySem.Spec PyProof.Rows L2
theorem sm_str {x : Str} (h : (reprText x).length ≤ 20) : Sm 1 0 (.str x) := ⟨by simp only [smallD, decide_eq_true_eq]; exact h, by simp [nodes], by simp [PyData.depth]⟩
theorem sm_none : Sm 1 0 (encN ()) := sm_non
theorem sm_T1 {α : Type} {f : α → PyData} {n k : Nat} {p : α} (h1 : Sm n k (f p)) : Sm (1 + n) (k + 1) (encT1 f p) := by
  obtain ⟨a1, a2, a3⟩ := h1
  refine ⟨by simp [encT1, smallD, smallAll, a1], ?_, ?_⟩
  · simp only [encT1, nodes, nodesAll]
    omega
  · simp only [encT1, PyData.depth, PyData.depthAll]
    omega
theorem sm_T4 {α β γ δ : Type} {f : α → PyData} {g : β → PyData} {h : γ → PyData} {e : δ → PyData} {n k m j l i o q : Nat} {p : α × β × γ × δ} (h1 : Sm n k (f p.1)) (h2 : Sm m j (g p.2.1)) (h3 : Sm l i (h p.2.2.1)) (h4 : Sm o q (e p.2.2.2)) : Sm (1 + n + m + l + o) (max k (max j (max i q)) + 1) (encT4 f g h e p) := by
  obtain ⟨a1, a2, a3⟩ := h1
  obtain ⟨b1, b2, b3⟩ := h2
  obtain ⟨c1, c2, c3⟩ := h3
  obtain ⟨d1, d2, d3⟩ := h4
  refine ⟨by simp [encT4, smallD, smallAll, a1, b1, c1, d1], ?_, ?_⟩
  · simp only [encT4, nodes, nodesAll]
    omega
  · simp only [encT4, PyData.depth, PyData.depthAll]
    omega
theorem Sm.enc {n k : Nat} {d : PyData} (h : Sm n k d) : Sm n k (encD d) := h
end Vx
namespace Vx
theorem len8 {α : Type} {l : List α} (h : l.length = 8) : ∃ x0 x1 x2 x3 x4 x5 x6 x7, l = [x0, x1, x2, x3, x4, x5, x6, x7] := by
  obtain ⟨x0, r, rfl, h2⟩ := len_s h
  obtain ⟨x1, x2, x3, x4, x5, x6, x7, rfl⟩ := len7 h2
  exact ⟨x0, x1, x2, x3, x4, x5, x6, x7, rfl⟩
theorem len9 {α : Type} {l : List α} (h : l.length = 9) : ∃ x0 x1 x2 x3 x4 x5 x6 x7 x8, l = [x0, x1, x2, x3, x4, x5, x6, x7, x8] := by
  obtain ⟨x0, r, rfl, h2⟩ := len_s h
  obtain ⟨x1, x2, x3, x4, x5, x6, x7, x8, rfl⟩ := len8 h2
  exact ⟨x0, x1, x2, x3, x4, x5, x6, x7, x8, rfl⟩
theorem len10 {α : Type} {l : List α} (h : l.length = 10) : ∃ x0 x1 x2 x3 x4 x5 x6 x7 x8 x9, l = [x0, x1, x2, x3, x4, x5, x6, x7, x8, x9] := by
  obtain ⟨x0, r, rfl, h2⟩ := len_s h
  obtain ⟨x1, x2, x3, x4, x5, x6, x7, x8, x9, rfl⟩ := len9 h2
  exact ⟨x0, x1, x2, x3, x4, x5, x6, x7, x8, x9, rfl⟩
theorem len11 {α : Type} {l : List α} (h : l.length = 11) : ∃ x0 x1 x2 x3 x4 x5 x6 x7 x8 x9 x10, l = [x0, x1, x2, x3, x4, x5, x6, x7, x8, x9, x10] := by
  obtain ⟨x0, r, rfl, h2⟩ := len_s h
  obtain ⟨x1, x2, x3, x4, x5, x6, x7, x8, x9, x10, rfl⟩ := len10 h2
  exact ⟨x0, x1, x2, x3, x4, x5, x6, x7, x8, x9, x10, rfl⟩
theorem len12 {α : Type} {l : List α} (h : l.length = 12) : ∃ x0 x1 x2 x3 x4 x5 x6 x7 x8 x9 x10 x11, l = [x0, x1, x2, x3, x4, x5, x6, x7, x8, x9, x10, x11] := by
  obtain ⟨x0, r, rfl, h2⟩ := len_s h
  obtain ⟨x1, x2, x3, x4, x5, x6, x7, x8, x9, x10, x11, rfl⟩ := len11 h2
  exact ⟨x0, x1, x2, x3, x4, x5, x6, x7, x8, x9, x10, x11, rfl⟩
end Vx
namespace Vx
open PySem PySem.Spec PyProof.Rows L2
theorem Sep.mutnews {M : List Addr} {H0 G0 G H H' : Hp} {O : List Addr} (S : Sep M H0 G0 G H O) {L : List Addr} (x : SameXs L H H') (hL : ∀ a ∈ L, a ∈ O) (hs : ∀ a ∈ L, H' a ≠ none) (N : List Addr) (hN : ∀ a ∈ N, H a = none ∧ H' a ≠ none ∧ H0 a = none) : Sep M H0 G0 G H' (N ++ O) := by
  have S1 := S.mut x hL hs
  refine ⟨S1.base, S1.pm, S1.sG, S1.g0, S1.gn, fun a ha => ?_⟩
  rcases List.mem_append.mp ha with z | z
  · obtain ⟨h1, h2, h3⟩ := hN a z
    exact ⟨S.gfree h1, h2, .inr h3⟩
  · exact S1.ow a z
end Vx
/-! # try with several clauses that name the exception -/
namespace Ve
open PySem PySem.Spec PyProof.Rows L2
abbrev Suite := Addr → Value → Option Addr → TS
/-- what a list of clauses wishes: the first whose class fits, and its suite; none: the outer wish -/
def wCl (K : PySem.W.Frag) (Wout : WX) (D : Ends) : List (Value × Nat × Suite) → WX
  | [] => Wout
  | c :: r => wAs K c.1 c.2.1 c.2.2 (wCl K Wout D r) D
/-- one clause `except x as n: suite` -/
structure ClOk (X : Cx) (h : ExceptHandler) (c : Value × Nat × Suite) : Prop where
  ex : ∃ (x n : Str) (b₀ : Stmt) (suite : List Stmt) (np p : Pos), h = .ExceptHandler (some (.Name x np)) (some n) (b₀ :: suite) p ∧ Names X x c.1 ∧ X.N[c.2.1]? = some n ∧ X.env.kindOf n = some .local ∧
    ∀ (a : Addr) (oe : Obj) (cls : Value) (d : Option Addr) (pn : List (Addr × Obj)), Zc cls d oe → (∃ vs, oe.data = .fields vs) → PSs (X.suite a ((a, oe) :: pn)) (b₀ :: suite) (c.2.2 a cls d)
inductive ClsOk (X : Cx) : List ExceptHandler → List (Value × Nat × Suite) → Prop
  | nil : ClsOk X [] []
  | cons {h : ExceptHandler} {hs : List ExceptHandler} {c : Value × Nat × Suite} {cs : List (Value × Nat × Suite)} : ClOk X h c → ClsOk X hs cs → ClsOk X (h :: hs) (c :: cs)
theorem cl_mk {X : Cx} {x n : Str} {b₀ : Stmt} {suite : List Stmt} {np p : Pos} {cv : Value} {i : Nat} {ts : Suite} (nm : Names X x cv) (hi : X.N[i]? = some n) (hln : X.env.kindOf n = some .local)
    (hsu : ∀ (a : Addr) (oe : Obj) (cls : Value) (d : Option Addr) (pn : List (Addr × Obj)), Zc cls d oe → (∃ vs, oe.data = .fields vs) → PSs (X.suite a ((a, oe) :: pn)) (b₀ :: suite) (ts a cls d)) : ClOk X (.ExceptHandler (some (.Name x np)) (some n) (b₀ :: suite) p) (cv, i, ts) :=
  ⟨⟨x, n, b₀, suite, np, p, rfl, nm, hi, hln, hsu⟩⟩
section
variable {X : Cx} {body : List Stmt} {h₀ : ExceptHandler} {hds : List ExceptHandler} {cs : List (Value × Nat × Suite)} {pos : Pos} {tb : WX → TS} {Wout : WX}
theorem ps_try_cls (hs : X.stack = X.env :: X.outer) (hf : X.env.frame = some X.env.locals) (hN : X.N.Nodup) (tk : Takes X Wout)
    (hb : ∀ (W : WX) (pn : List (Addr × Obj)) (xe : Value → Shared → Prop), Takes (X.tr pn xe) W → PassesOwn (model X.prog X.w) X.A X.env xe → PSs (X.tr pn xe) body (tb W))
    (hh : ClsOk X (h₀ :: hds) cs) : PS X (.Try body (h₀ :: hds) [] [] pos) (fun D σ H => tb (wCl X.K Wout D cs) D σ H) := by
  refine ⟨fun pins s σ H D I h => ?_⟩
  have ok := I.ok
  have hfr : X.A.frames = some (X.env :: X.outer) := by rw [ok.frames, hs]
  refine wpAny_Try_except ?_
  let R : Flow → Shared → Prop := SP X pins D
  refine wpAny_mono ((hb (wCl X.K Wout D cs) (X.pn ++ pins) (fun e s₁ => wpAny (model X.prog X.w) X.A (noteFrame e X.env) (fun _ s₂ => wpAny (model X.prog X.w) X.A (setFlight e none) (fun _ s₃ =>
    wpAny (model X.prog X.w) X.A (handleBy e X.env (h₀ :: hds)) R X.xe s₃) X.xe s₂) X.xe s₁) (fun u s' xx => ?_) PassesOwn.looking).run [] s σ H D (I.toTry _) h) (fun f s1 hsp => ?_) (fun e s1 he => he)
  · obtain ⟨a, B, sI, pins', σ', H', cls, d, rfl, J', nb, up, sky, na, os, ag, w⟩ := xx
    have J : Inv X pins σ' H' sI := J'.ofTry ok
    have sky' : Sky B (X.env :: X.outer) a (Zc cls d) X.env.locals s'.heap := by rw [← hs]; exact sky
    show wpAny (model X.prog X.w) X.A (noteFrame (.ref a) X.env) _ _ _
    refine Sky.land Zc.steady hfr hf sky' fun h3 fl3 up3 => ?_
    have up13 := up.trans up3
    have J3 : Inv X pins σ' H' { s' with heap := h3 } := J.landed nb fl3.1 up13 os ag
    obtain ⟨oe3, vs3, he3, hz3, hd3⟩ := fl3.there
    have away : a ∉ frs (X.env :: X.outer) := fun hm => by
      obtain ⟨_, o', e', hnf⟩ := fl3.2.2.1.mem hm
      rw [he3] at e'
      cases e'
      exact hnf _ hd3
    have nL : a ≠ X.env.locals := fun z => away (List.mem_filterMap.mpr ⟨X.env, List.mem_cons_self, by rw [hf, z]⟩)
    have nF : a ∉ X.fs := fun hm => by
      obtain ⟨e, he, q⟩ := List.mem_filterMap.mp hm
      exact away (List.mem_filterMap.mpr ⟨e, List.mem_cons_of_mem _ he, q⟩)
    have S3 := J3.suite he3 hd3 na nL nF
    have each : ∀ {hs2 : List ExceptHandler} {cs2 : List (Value × Nat × Suite)}, ClsOk X hs2 cs2 → wCl X.K Wout D cs2 cls d σ' H' → wpAny (model X.prog X.w) X.A (handleBy (.ref a) X.env hs2) R X.xe { s' with heap := h3 } := by
      intro hs2 cs2 hk
      induction hk with
      | nil =>
        intro w
        refine wpAny_handleBy_nil ?_
        obtain ⟨_, _, _, oe, vs, T, oT, ts', he, _, hd, h1, _⟩ := id fl3
        unfold PySem.passOn
        refine wpAny_bind (wpAny_field he hd h1 ?_)
        rw [if_neg (show ¬ ((Value.ref T == Value.none) = true) from by simp)]
        have out : wpAny (model X.prog X.w) X.A (setFlight (.ref a) X.env.frame) (fun _ s4 => wpAny (model X.prog X.w) X.A (throw (.ref a) : Sem Flow) R X.xe s4) X.xe { s' with heap := h3 } := by
          rw [hf]
          exact HandSPX.setFlight_upZ fl3 fun h4 hh4 up4 => wpAny_throw (tk _ _ ⟨a, B, sI, pins, σ', H', cls, d, rfl, J, nb, up13.trans up4, .inr (.inr (by rw [hs]; exact hh4)), na, os, ag, w⟩)
        first
          | exact wpAny_bind (wpAny_pure (wpAny_bind out))
          | exact wpAny_bind out
      | cons hc _ ih =>
        intro w
        obtain ⟨x, n, b₀, suite, np, p, rfl, nm, hi, hln, hsu⟩ := hc.ex
        obtain ⟨b, hb1, yes, no⟩ := w
        refine wpAny_handleBy_cons (codeAny_handlers_test ?_) (by intro q; cases q)
        have LM := PySem.W.exm_one (M := model X.prog X.w) (J3.kIn) (show PySem.W.Looks (model X.prog X.w) h3 (typeOf (.ref a)) cls from fun A Q E s k q => wpAny_typeOf_ref (k _ _ he3) (by rw [hz3.1]; exact q)) hb1
        have named : ∀ {Q : Value → Shared → Prop} {E : Value → Shared → Prop}, Q _ { s' with heap := h3 } → wpAny (model X.prog X.w) (X.A.mark (some (.ref a))) (eval (.Name x np) X.env) Q E { s' with heap := h3 } := fun {Q E} q => by
          obtain ⟨hg, hdbg, hm | ⟨hm, hv, hnn⟩⟩ := nm
          · exact ld_glob (X := X.suite a ((a, oe3) :: (X.pn ++ pins))) S3 hg hm q hdbg
          · exact ld_blt (X := X.suite a ((a, oe3) :: (X.pn ++ pins))) S3 hg hm hv q hnn hdbg
        refine named (LM.here ?_)
        cases b with
        | false => exact ih (no rfl)
        | true =>
          refine codeAny_handlers_suite_as ?_
          refine HandSPX.lands_againZ fl3 fun h4 fl4 up4 => ?_
          have J4 : Inv X pins σ' H' { s' with heap := h4 } := J.landed nb fl4.1 (up13.trans up4) os ag
          obtain ⟨oe4, vs4, he4, hz4, hd4⟩ := fl4.there
          have S4 := J4.suite he4 hd4 na nL nF
          refine store_ok (X := X.suite a ((a, oe4) :: (X.pn ++ pins))) (v := .ref a) S4 hN hi (.inl hln) rfl (fun s5 S5 => ?_) (.inr hln)
          have fin : ∀ {σ6 : L2.St} {H6 : Hp} {s6 : Shared} {Q : Shared → Prop}, Inv (X.suite a ((a, oe4) :: (X.pn ++ pins))) [] σ6 H6 s6 → (∀ s7, Inv X pins (σ6.set _ none) H6 s7 → Q s7) →
              wpAny (model X.prog X.w) X.A (do bindName X.env n .none; unbindBehindTheSuite X.env n p) (fun _ s7 => Q s7) X.xe s6 := fun S6 hq => gone_ok (S6.unsuite ok) hN hi hln hq
          refine wpAny_mono ((hsu a oe4 cls d (X.pn ++ pins) hz4 ⟨_, hd4⟩).run [] s5 _ H' _ S5 (yes rfl a na)) (fun f s6 hsp => ?_) (fun _ _ z => False.elim z)
          cases f with
          | ret u =>
            obtain ⟨v6, σ6, H6, S6, r6, q6⟩ := hsp
            exact fin S6 fun s7 J7 => ⟨_, _, _, J7, r6, q6⟩
          | next =>
            obtain ⟨σ6, H6, S6, q6⟩ := hsp
            exact fin S6 fun s7 J7 => ⟨_, _, J7, q6⟩
          | brk =>
            obtain ⟨σ6, H6, S6, q6⟩ := hsp
            exact fin S6 fun s7 J7 => ⟨_, _, J7, q6⟩
          | cont =>
            obtain ⟨σ6, H6, S6, q6⟩ := hsp
            exact fin S6 fun s7 J7 => ⟨_, _, J7, q6⟩
    exact each hh w
  · cases f with
    | ret u =>
      obtain ⟨v, σ', H', J', r, q⟩ := hsp
      exact ⟨v, σ', H', J'.ofTry ok, r, q⟩
    | next =>
      obtain ⟨σ', H', J', q⟩ := hsp
      exact wpAny_execs_nil ⟨σ', H', J'.ofTry ok, q⟩
    | brk =>
      obtain ⟨σ', H', J', q⟩ := hsp
      exact ⟨σ', H', J'.ofTry ok, q⟩
    | cont =>
      obtain ⟨σ', H', J', q⟩ := hsp
      exact ⟨σ', H', J'.ofTry ok, q⟩
end
end Ve
namespace Vx
open PySem PySem.Spec PyProof.Rows L2
theorem exm_mk0 {K : PySem.W.Frag} {S C : Addr} (h1 : PySem.W.subIn K (.ref C) (.type "BaseException") = some true) (h0 : (Value.ref S == Value.ref C) = false) (h2 : PySem.W.isClsIn K C = true) (h3 : PySem.W.typeIn K (.ref C) = some (.type "type")) (h4 : PySem.W.subIn K (.ref S) (.ref C) = some false) :
    PySem.W.exmOne K (.ref S) (.ref C) = some false := by
  unfold PySem.W.exmOne
  rw [h1]
  have k := kit_mk0 (K := K) h0 h2 h3 h4
  unfold PySem.W.kitOne at k
  simpa [h0] using k
theorem Sep.mutstep {M : List Addr} {H0 G0 G H H' : Hp} {O : List Addr} (S : Sep M H0 G0 G H O) {L : List Addr} (x : SameXs L H H') (hL : ∀ a ∈ L, a ∈ O) (hs : ∀ a ∈ L, H' a ≠ none) {G' : Hp} (eG : Same G G') (sG : Same G' H') (hn : ∀ b, H b ≠ none → G b = none → G' b = none) : Sep M H0 G0 G' H' O := by
  have S1 := S.mut x hL hs
  exact ⟨S1.base, S1.pm, sG, S.g0.trans eG, fun b hb gb => hn b (fun z => hb (S.free z)) (S.gn b hb gb), fun a ha => ⟨hn a (S.ow a ha).2.1 (S.ow a ha).1, (S1.ow a ha).2⟩⟩
end Vx
/-! # trees that are changed from outside; trees within objects -/
namespace Vx
open PySem PySem.Spec PyProof.Rows L2
section
variable {M : List Addr} {H0 G0 G H H' : Hp} {O : List Addr}
/-- a change of what is owned, by which trees grow and data come to stay -/
theorem Sep.mutgrow (S : Sep M H0 G0 G H O) {G' : Hp} {L : List Addr} (x : SameXs L H H') (hL : ∀ a ∈ L, a ∈ O) (hs : ∀ a ∈ L, H' a ≠ none) (eG : Same G G') (sG : Same G' H') (hn : ∀ b, H b ≠ none → G b = none → G' b = none)
    {O' : List Addr} (hO : ∀ b ∈ O', b ∈ O ∨ (H b = none ∧ G' b = none ∧ H' b ≠ none)) : Sep M H0 G0 G' H' O' := by
  have S1 := S.mut x hL hs
  have there : ∀ b, H b ≠ none → H' b ≠ none := fun b h => by
    by_cases hb : b ∈ L
    · exact hs b hb
    · cases q : H b with
      | none => exact absurd q h
      | some o => exact some_ne (x b o q hb)
  refine ⟨S1.base, S1.pm, sG, S.g0.trans eG, fun b hb gb => hn b (fun z => hb (S.free z)) (S.gn b hb gb), fun b hb => ?_⟩
  rcases hO b hb with h | ⟨h1, h2, h3⟩
  · obtain ⟨g, h, m⟩ := S.ow b h
    exact ⟨hn b h g, there b h, m⟩
  · exact ⟨h2, h3, .inr (S.free h1)⟩
/-- what is borrowed is none of what a callee may change -/
theorem Sep.bhide (S : Sep M H0 G0 G H O) {L : List Addr} (h : ∀ a ∈ L, a ∈ O) : Same (hideL M H0) (hideL L H) := fun b o e => by
  rw [hideL_out fun z => b_ne e S (h b z) rfl]
  exact S.bM b o e
end
theorem grown_ne {H : Hp} {L F : List Addr} {x : Addr} (s : ∀ b ∈ L, b ∈ F ∨ H b = none) (n : ∀ b ∈ F, b ≠ x) (h : H x ≠ none) : ∀ b ∈ L, b ≠ x := fun b hb z => by
  rcases s b hb with q | q
  · exact n b q z
  · exact h (z ▸ q)
theorem grown_nl {H : Hp} {L F L2 : List Addr} (s : ∀ b ∈ L, b ∈ F ∨ H b = none) (n : ∀ b ∈ F, b ∉ L2) (h : ∀ b ∈ L2, H b ≠ none) : ∀ b ∈ L, b ∉ L2 := fun b hb z => by
  rcases s b hb with q | q
  · exact n b q z
  · exact h b z q
section
variable {α : Type} {f : α → PyData} {G H : Hp} {a : Addr}
theorem rp_listAt {xs : List α} (r : Rp H (.ref a) (encL f xs)) : ∃ vs, H a = some (.lst vs) ∧ RpAll H vs (xs.map f) := by
  obtain ⟨b, vs, e, h, d⟩ := rp_list r
  cases e
  exact ⟨vs, h, d⟩
theorem OwAll.frzs : ∀ {vs : List V} {xs : List α}, RpAll G vs (xs.map f) → OwAll G H [] vs (xs.map (oF f))
  | _, [], .nil => .nil
  | _, _ :: _, .cons r t => .cons (L1 := []) (L2 := []) (.frz r) (OwAll.frzs t) (fun _ z => nomatch z)
theorem OwAll.toFrzs : ∀ {L : List Addr} {vs : List V} {xs : List α}, OwAll G H L vs (xs.map (oF f)) → RpAll G vs (xs.map f)
  | _, _, [], .nil => .nil
  | _, _, x :: xs, .cons a r _ => by
    cases a with
    | frz z => exact .cons z (OwAll.toFrzs r)
end
theorem rp_dgetI {H : Hp} {v : V} {d : PyData} {k : Int} (g : (0 : Int) ≤ k ∧ dHasT d (Int.toNat k) = true) (r : Rp H v d) : ∃ a vs u, v = .ref a ∧ H a = some (.tup vs) ∧ atI vs k = some u ∧ Rp H u (dGet d (Int.toNat k)) := by
  obtain ⟨a, vs, u, e, h, x, y⟩ := rp_dget g.2 r
  rw [Int.toNat_of_nonneg g.1] at x
  exact ⟨a, vs, u, e, h, x, y⟩
/-! ### what may be None -/
def OptF {α : Type} (G hp : Hp) (v : V) (x : Option (List α)) (f : α → PyData) : Prop := match x with
  | none => v = .non
  | some xs => ∃ a vs, v = .ref a ∧ hp a = some (.lst vs) ∧ RpAll G vs (xs.map f)
def optE {α β : Type} (x : Option α) (a : Rx β) (b : α → Rx β) : Rx β := match x with
  | none => a
  | some y => b y
theorem cW_optN {α β : Type} {a : Rx β} {b : α → Rx β} {K : β → Prop} {E : Nat → Prop} (h : cW (optE none a b) K E) : cW a K E := h
theorem cW_optS {α β : Type} {y : α} {a : Rx β} {b : α → Rx β} {K : β → Prop} {E : Nat → Prop} (h : cW (optE (some y) a b) K E) : cW (b y) K E := h
/-! ### sorted(list of ints) -/
def insI (x : Int) : List Int → List Int
  | [] => [x]
  | y :: r => if x ≤ y then x :: y :: r else y :: insI x r
def sortL (xs : List Int) : List Int := xs.foldr insI []
theorem insI_perm {x : Int} : ∀ {l : List Int}, (insI x l).Perm (x :: l)
  | [] => .refl _
  | y :: r => by
    unfold insI
    split
    · exact .refl _
    · exact ((insI_perm (l := r)).cons y).trans (.swap x y r)
theorem sortL_perm : ∀ l : List Int, (sortL l).Perm l
  | [] => .refl _
  | x :: r => (insI_perm (l := sortL r)).trans ((sortL_perm r).cons x)
theorem insI_pw {x : Int} : ∀ {l : List Int}, l.Pairwise (· ≤ ·) → (insI x l).Pairwise (· ≤ ·)
  | [], _ => List.pairwise_singleton _ _
  | y :: r, h => by
    obtain ⟨h1, h2⟩ := List.pairwise_cons.mp h
    unfold insI
    split
    · rename_i c
      refine List.pairwise_cons.mpr ⟨fun z hz => ?_, h⟩
      rcases List.mem_cons.mp hz with rfl | hz
      · exact c
      · exact Int.le_trans c (h1 z hz)
    · rename_i c
      refine List.pairwise_cons.mpr ⟨fun z hz => ?_, insI_pw h2⟩
      rcases List.mem_cons.mp ((insI_perm (l := r)).mem_iff.mp hz) with rfl | hz
      · omega
      · exact h1 z hz
theorem sortL_pw : ∀ l : List Int, (sortL l).Pairwise (· ≤ ·)
  | [] => List.Pairwise.nil
  | _ :: r => insI_pw (sortL_pw r)
theorem sortL_of {ns ks : List Int} (p : ns.Perm ks) (h : ns.Pairwise (· ≤ ·)) : ns = sortL ks :=
  (p.trans (sortL_perm ks).symm).eq_of_pairwise (fun _ _ _ _ a b => Int.le_antisymm a b) h (sortL_pw ks)
def rSortL (K : PySem.W.Frag) : List V → Hp → VK → Prop := fun xs H Q => ∃ (a : Addr) (ns : List Int), xs = [.ref a] ∧ SqL K H a (ns.map V.int) ∧ ∀ p, H p = none → Q (.ref p) (upd H p (.lst ((sortL ns).map V.int)))
theorem cr_sortL {X : Cx} {K : PySem.W.Frag} (hK : X.K = K := by rfl) : CallR X (.builtin "sorted") (rSortL K) := by
  subst hK
  intro pins s σ H vs us Q I r h
  obtain ⟨a, ns, e, hs, q⟩ := h
  refine cr_sortedI pins s σ H vs us Q I r ⟨a, ns, e, hs, fun ns' p pm pw hp => ?_⟩
  rw [sortL_of pm pw]
  exact q p hp
/-! ### trees given away, put together -/
theorem taken_ne1 {H : Hp} {F : List Addr} {a x : Addr} (s : a ∈ F ∨ H a = none) (n : ∀ b ∈ F, b ≠ x) (h : H x ≠ none) : a ≠ x := fun z => s.elim (fun q => n a q z) (fun q => h (z ▸ q))
theorem taken_ne {H : Hp} {F L2 : List Addr} {a : Addr} (s : a ∈ F ∨ H a = none) (n : ∀ b ∈ F, b ∉ L2) (h : ∀ b ∈ L2, H b ≠ none) : a ∉ L2 := fun z => s.elim (fun q => n a q z) (fun q => h a z q)
theorem taken_nl {H : Hp} {F L2 : List Addr} {a : Addr} (s : a ∈ F ∨ H a = none) (n : ∀ b ∈ F, b ∉ L2) (h : ∀ b ∈ L2, H b ≠ none) : ∀ b ∈ L2, b ≠ a := fun b hb z => taken_ne s n h (z ▸ hb)
theorem cat_lenW {α β : Type} {f : α → Dt} {g : β → Dt} {G H : Hp} {L1 L2 : List Addr} {vs ws : List V} {xs : List α} {ys : List β} (a : OwAll G H L1 vs (xs.map f)) (b : OwAll G H L2 ws (ys.map g)) (h : xs.length + ys.length ≤ 1000000) : vs.length + ws.length ≤ sizeLine := by
  rw [a.lenM, b.lenM]
  exact smallE h
theorem app_trees {α : Type} {f : α → Dt} {G H : Hp} {L1 L2 : List Addr} {vs ws : List V} {xs ys : List α} (zs : List α) (e : zs = xs ++ ys) (a : OwAll G H L1 vs (xs.map f)) (b : OwAll G H L2 ws (ys.map f)) (d : ∀ c ∈ L1, c ∉ L2) : OwAll G H (L1 ++ L2) (vs ++ ws) (zs.map f) := by
  rw [e, List.map_append]
  exact OwAll.app b a d
/-- the item of a turn is the part at its index -/
theorem item_at {vs : List V} {i : Nat} {k : Int} {x v : V} (h1 : atI vs k = some v) (hj : vs[i]? = some x) (hk : k = 0 + (i : Int)) : x = v := by
  have hl := get_len hj
  have e : atI vs k = some x := by
    unfold atI ixN
    rw [if_pos (by omega), if_pos (by omega)]
    show vs[k.toNat]? = some x
    rw [show k.toNat = i by omega, hj]
  rw [e] at h1
  exact Option.some.inj h1
theorem RpAll.at_ix {α : Type} [Inhabited α] {f : α → PyData} {G : Hp} {vs : List V} {xs : List α} {k : Int} {v : V} (d : RpAll G vs (xs.map f)) (g : -(xs.length : Int) ≤ k ∧ k < xs.length) (h : atI vs k = some v) : Rp G v (f (itD xs k)) := by
  obtain ⟨v', h1, h3⟩ := RpAll.ixD (k := k) d g
  rw [h] at h1
  cases h1
  exact h3
theorem atI_same {vs : List V} {k : Int} {v u : V} (h1 : atI vs k = some v) (h2 : atI vs k = some u) : v = u := by
  rw [h1] at h2
  exact Option.some.inj h2
theorem setL_g {α : Type} {xs : List α} {k j : Int} {y : α} (g : -(xs.length : Int) ≤ k ∧ k < xs.length) : -((setL xs j y).length : Int) ≤ k ∧ k < (setL xs j y).length := by
  have : (setL xs j y).length = xs.length := by
    unfold setL
    rw [List.length_set]
  rw [this]
  exact g
theorem Ow.atList {α : Type} {f : α → Dt} {G H : Hp} {L1 : List Addr} {b : Addr} {xs : List α} (w : Ow G H L1 (.ref b) (oL f xs)) : ∃ vs Lb, L1 = b :: Lb ∧ H b = some (.lst vs) ∧ OwAll G H Lb vs (xs.map f) ∧ ∀ c ∈ Lb, c ≠ b := by
  obtain ⟨b2, vs, Lb, e, l, h, wb, nb⟩ := Ow.toList w
  cases e
  exact ⟨vs, Lb, l, h, wb, nb⟩
theorem part_at {α : Type} {f : α → PyData} {G H : Hp} {b : Addr} {vs : List V} {xs : List α} (r : Rp G (.ref b) (encL f xs)) (s : Same G H) (h : H b = some (.lst vs)) : G b = some (.lst vs) ∧ RpAll G vs (xs.map f) := by
  obtain ⟨vs2, h2, d⟩ := rp_listAt r
  have z := (s b _ h2).symm.trans h
  cases z
  exact ⟨h2, d⟩
theorem cat_len2 {α β : Type} {f : α → PyData} {g : β → PyData} {G G2 : Hp} {vs ws : List V} {xs : List α} {ys : List β} (a : RpAll G vs (xs.map f)) (b : RpAll G2 ws (ys.map g)) (h : xs.length + ys.length ≤ 1000000) : vs.length + ws.length ≤ sizeLine := by
  rw [a.len, b.len, List.length_map, List.length_map]
  exact smallE h
end Vx
namespace Vx
open PySem PySem.Spec PyProof.Rows L2
/-! ### a[lo:hi] = b, lists, within the bounds -/
def sSliceSet (td : TE) (tl th : TO) (tv : TE) : TS := fun D σ H => tv σ H fun v H1 => td σ H1 fun x H2 => tl σ H2 fun l H3 => th σ H3 fun u H4 =>
  ∃ (a b : Addr) (xs ys : List V) (lo hi : Int), x = .ref a ∧ v = .ref b ∧ l = some lo ∧ u = some hi ∧ H4 a = some (.lst xs) ∧ H4 b = some (.lst ys) ∧ a ≠ b ∧ 0 ≤ lo ∧ lo ≤ hi ∧ hi ≤ xs.length ∧ xs.length + ys.length ≤ sizeLine ∧
    D.nx σ (upd H4 a (.lst (xs.take lo.toNat ++ ys ++ xs.drop hi.toNat)))
theorem ps_sset {X : Cx} {o lo hi value : Expr} {p2 pos' pos : Pos} {td tv : TE} {tl th : TO} (ho : PE X o td) (hl : PO X (some lo) tl) (hu : PO X (some hi) th) (hv : PE X value tv)
    (hs : swapsWith value (some (.Subscript o (.Slice (some lo) (some hi) none p2) pos')) pos.line X.env = pure false) :
    PS X (.Assign [.Subscript o (.Slice (some lo) (some hi) none p2) pos'] value pos) (sSliceSet td tl th tv) := by
  refine ⟨fun pins s σ H D I h => ?_⟩
  refine wpAny_Assign_Subscript (thn (hv.run pins s σ H _ I h) fun r s1 ⟨v, H1, I1, rv, q1⟩ => thn (ho.run pins s1 σ H1 _ I1 q1) fun u s2 ⟨x, H2, I2, rx, q2⟩ => ?_) hs
  refine wpAny_Slice (thn (hl.run pins s2 σ H2 _ I2 q2) fun vl s3 ⟨l, H3, I3, pl, q3⟩ => thn (hu.run pins s3 σ H3 _ I3 q3) fun vu s4 ⟨z, H4, I4, pu, a, b, xs, ys, i, j, ex, ev, el, ez, ha, hb, hne, h0, h1, h2, h3, q⟩ => ?_)
  subst ex ev el ez
  rw [evalPart_none]
  refine wpAny_pure ?_
  obtain rfl : u = Value.ref a := rx
  obtain rfl : r = Value.ref b := rv
  have I5 : Inv X pins σ H4 { s4 with heap := s4.heap.push { cls := .type "slice", data := .fields #[vl, vu, .none] } } := I4.kept (t' := s4.toks) fun b ob q => Heap.get?_push_of_some _ q
  have rl : RelV (.int i) vl := by
    cases pl
    exact ⟨_, rfl⟩
  have ru : RelV (.int j) vu := by
    cases pu
    exact ⟨_, rfl⟩
  exact set_slice I5 ha hb hne (Heap.IsSliceOf.new ..) rl ru h0 h1 h2 h3 fun s' I' => ⟨σ, _, I', q⟩
section
variable {G H : Hp}
theorem OwAll.split : ∀ {L : List Addr} {vs : List V} {ds : List Dt} (k : Nat), OwAll G H L vs ds → ∃ L1 L2, (∀ b ∈ L1, b ∈ L) ∧ (∀ b ∈ L2, b ∈ L) ∧ (∀ b ∈ L1, b ∉ L2) ∧ OwAll G H L1 (vs.take k) (ds.take k) ∧ OwAll G H L2 (vs.drop k) (ds.drop k)
  | L, _, _, 0, w => by
    refine ⟨[], L, by simp, fun _ z => z, by simp, ?_, ?_⟩
    · exact .nil
    · exact w
  | _, _, _, _ + 1, .nil => by
    refine ⟨[], [], by simp, by simp, by simp, ?_, ?_⟩
    · exact .nil
    · exact .nil
  | _, _, _, k + 1, .cons (L1 := La) (L2 := Lb) a r n => by
    obtain ⟨L1, L2, h1, h2, h3, w1, w2⟩ := OwAll.split k r
    refine ⟨La ++ L1, L2, fun b hb => ?_, fun b hb => List.mem_append_right _ (h2 b hb), fun b hb z => ?_, .cons a w1 (fun b hb z => n b hb (h1 b z)), w2⟩
    · rcases List.mem_append.mp hb with q | q
      · exact List.mem_append_left _ q
      · exact List.mem_append_right _ (h1 b q)
    · rcases List.mem_append.mp hb with q | q
      · exact n b q (h2 b z)
      · exact h3 b q z
/-- what a tree holds behind a slice store -/
theorem OwAll.splice {α : Type} {f : α → Dt} {L Lb : List Addr} {vs ws : List V} {xs ys : List α} {a c : Nat} (w : OwAll G H L vs (xs.map f)) (v : OwAll G H Lb ws (ys.map f)) (h : a ≤ c) (d : ∀ b ∈ Lb, b ∉ L) :
    ∃ L', (∀ b ∈ L', b ∈ L ++ Lb) ∧ OwAll G H L' (vs.take a ++ ws ++ vs.drop c) ((xs.take a ++ ys ++ xs.drop c).map f) := by
  obtain ⟨L1, L2, h1, h2, h3, w1, w2⟩ := OwAll.split a w
  obtain ⟨M1, M2, k1, k2, k3, u1, u2⟩ := OwAll.split (c - a) w2
  rw [List.drop_drop, List.drop_drop, show a + (c - a) = c by omega] at u2
  refine ⟨(L1 ++ Lb) ++ M2, fun b hb => ?_, ?_⟩
  · rcases List.mem_append.mp hb with q | q
    · rcases List.mem_append.mp q with q | q
      · exact List.mem_append_left _ (h1 b q)
      · exact List.mem_append_right _ q
    · exact List.mem_append_left _ (h2 b (k2 b q))
  · rw [List.map_append, List.map_append, List.map_take, List.map_drop]
    refine OwAll.app u2 (OwAll.app v w1 fun b hb z => d b z (h1 b hb)) fun b hb z => ?_
    rcases List.mem_append.mp hb with q | q
    · exact h3 b q (k2 b z)
    · exact d b q (h2 b (k2 b z))
def spliceL {α : Type} (xs : List α) (lo hi : Int) (ys : List α) : List α := xs.take lo.toNat ++ ys ++ xs.drop hi.toNat
theorem slc_hi {α : Type} {f : α → Dt} {L : List Addr} {vs : List V} {xs : List α} {hi : Int} (w : OwAll G H L vs (xs.map f)) (g : hi ≤ ((xs.length : Nat) : Int)) : hi ≤ ((vs.length : Nat) : Int) := by
  rw [w.lenM]
  exact g
theorem OwAll.spliceM {α : Type} {f : α → Dt} {L Lb : List Addr} {vs ws : List V} {xs ys : List α} {lo hi : Int} (w : OwAll G H L vs (xs.map f)) (v : OwAll G H Lb ws (ys.map f)) (g : (0 : Int) ≤ lo ∧ lo ≤ hi ∧ hi ≤ ((xs.length : Nat) : Int) ∧ xs.length + ys.length ≤ 1000000) (d : ∀ b ∈ Lb, b ∉ L) :
    ∃ L', (∀ b ∈ L', b ∈ L ++ Lb) ∧ OwAll G H L' (vs.take lo.toNat ++ ws ++ vs.drop hi.toNat) ((spliceL xs lo hi ys).map f) := OwAll.splice w v (by omega) d
end
end Vx
/-! # fourth part: reckoning with functions that may refuse -/
namespace Vx
open PySem PySem.Spec PyProof.Rows L2
section
variable {α β σ ρ τ : Type}
theorem bind_ok (a : α) (f : α → Rx β) : (Rx.ok a).bind f = f a := rfl
theorem bind_er (e : Nat) (f : α → Rx β) : (Rx.er e : Rx α).bind f = .er e := rfl
theorem grd_pos {p : Prop} {dp : Decidable p} {m : Rx α} (h : p) : grd p m = m := if_pos h
theorem bnd_eq (a : α) (f : α → Rx β) : bnd a f = f a := rfl
theorem noEr_ok (a : α) : noEr (.ok a : Rx α) = .ok a := rfl
theorem tryR_ok {cs : List Nat} (a : α) (f : α → Rx β) (g : Nat → Rx β) : tryR (.ok a) cs f g = f a := rfl
theorem tryR_er {cs : List Nat} {e : Nat} (h : e ∈ cs) (f : α → Rx β) (g : Nat → Rx β) : tryR (.er e) cs f g = g e := if_pos h
theorem aft_go (s : σ) (kr : ρ → Rx τ) (k : σ → Rx τ) : (Lp.go s : Lp σ ρ).aft kr k = k s := rfl
theorem aft_rt (r : ρ) (kr : ρ → Rx τ) (k : σ → Rx τ) : (Lp.rt r : Lp σ ρ).aft kr k = kr r := rfl
/-- gives a value of which P holds -/
def Gv (m : Rx α) (P : α → Prop) : Prop := ∃ v, m = .ok v ∧ P v
theorem Gv.ok {a : α} {P : α → Prop} (h : P a) : Gv (.ok a) P := ⟨a, rfl, h⟩
theorem Gv.of_eq {m : Rx α} {a : α} {P : α → Prop} (e : m = .ok a) (h : P a) : Gv m P := ⟨a, e, h⟩
theorem Gv.bind {m : Rx α} {f : α → Rx β} {P : α → Prop} {Q : β → Prop} (h : Gv m P) (k : ∀ v, P v → Gv (f v) Q) : Gv (m.bind f) Q := by
  obtain ⟨v, rfl, p⟩ := h
  exact k v p
theorem Gv.bind_eq {m : Rx α} {f : α → Rx β} {a : α} {Q : β → Prop} (h : m = .ok a) (k : Gv (f a) Q) : Gv (m.bind f) Q := by
  subst h
  exact k
theorem Gv.grd {p : Prop} {dp : Decidable p} {m : Rx α} {Q : α → Prop} (h : p) (k : Gv m Q) : Gv (Vx.grd p m) Q := by
  rw [grd_pos h]
  exact k
theorem Gv.bnd {a : α} {f : α → Rx β} {Q : β → Prop} (k : ∀ x, x = a → Gv (f x) Q) : Gv (Vx.bnd a f) Q := k a rfl
theorem Gv.ite {p : Prop} {dp : Decidable p} {a b : Rx α} {Q : α → Prop} (h1 : p → Gv a Q) (h2 : ¬ p → Gv b Q) : Gv (if p then a else b) Q := by
  split
  · exact h1 ‹_›
  · exact h2 ‹_›
theorem Gv.pos {p : Prop} {dp : Decidable p} {a b : Rx α} {Q : α → Prop} (h : p) (k : Gv a Q) : Gv (if p then a else b) Q := by rwa [if_pos h]
theorem Gv.neg {p : Prop} {dp : Decidable p} {a b : Rx α} {Q : α → Prop} (h : ¬ p) (k : Gv b Q) : Gv (if p then a else b) Q := by rwa [if_neg h]
theorem Gv.imp {m : Rx α} {P Q : α → Prop} (h : Gv m P) (k : ∀ v, P v → Q v) : Gv m Q := by
  obtain ⟨v, e, p⟩ := h
  exact ⟨v, e, k v p⟩
theorem Gv.noEr {m : Rx α} {P : α → Prop} (h : Gv m P) : Gv (Vx.noEr m) P := by
  obtain ⟨v, rfl, p⟩ := h
  exact ⟨v, rfl, p⟩
theorem Gv.tryOk {m : Rx α} {cs : List Nat} {f : α → Rx β} {g : Nat → Rx β} {P : α → Prop} {Q : β → Prop} (h : Gv m P) (k : ∀ v, P v → Gv (f v) Q) : Gv (tryR m cs f g) Q := by
  obtain ⟨v, rfl, p⟩ := h
  exact k v p
theorem Gv.tryEr {m : Rx α} {cs : List Nat} {e : Nat} {f : α → Rx β} {g : Nat → Rx β} {Q : β → Prop} (h : m = .er e) (hm : e ∈ cs) (k : Gv (g e) Q) : Gv (tryR m cs f g) Q := by
  subst h
  rw [tryR_er hm]
  exact k
theorem Gv.get {m : Rx α} {a : α} (h : Gv m (fun v => v = a)) : m = .ok a := by
  obtain ⟨v, e, rfl⟩ := h
  exact e
theorem Gv.eq {m : Rx α} {P : α → Prop} (h : Gv m P) : ∃ v, m = .ok v ∧ P v := h
/-- a loop that keeps P -/
theorem Gv.forS {P : Nat → σ → Prop} {xs : List α} {s : σ} {f : σ → α → Rx σ} (h0 : P 0 s) (hs : ∀ i x s, xs[i]? = some x → P i s → Gv (f s x) (P (i + 1))) : Gv (Vx.forS xs s f) (P xs.length) := by
  induction xs generalizing s P with
  | nil => exact .ok h0
  | cons x r ih =>
    refine Gv.bind (hs 0 x s rfl h0) fun s' p => ?_
    exact ih (P := fun i => P (i + 1)) p fun i y s hy q => hs (i + 1) y s (by simpa using hy) q
theorem Gv.forR {P : Nat → σ → Prop} {xs : List α} {s : σ} {f : σ → α → Rx (Lp σ ρ)} (h0 : P 0 s) (hs : ∀ i x s, xs[i]? = some x → P i s → Gv (f s x) (fun l => ∃ s', l = .go s' ∧ P (i + 1) s')) : Gv (Vx.forR xs s f) (fun l => ∃ s', l = .go s' ∧ P xs.length s') := by
  induction xs generalizing s P with
  | nil => exact .ok ⟨s, rfl, h0⟩
  | cons x r ih =>
    refine Gv.bind (hs 0 x s rfl h0) ?_
    rintro _ ⟨s', rfl, p⟩
    exact ih (P := fun i => P (i + 1)) p fun i y s hy q => hs (i + 1) y s (by simpa using hy) q
/-- a loop that carries nothing -/
theorem forR_unit {xs : List α} {f : Unit → α → Rx (Lp Unit ρ)} (h : ∀ x ∈ xs, f () x = .ok (.go ())) : Vx.forR xs () f = .ok (.go ()) := by
  induction xs with
  | nil => rfl
  | cons x r ih =>
    show (f () x).bind _ = _
    rw [h x List.mem_cons_self]
    exact ih fun y hy => h y (List.mem_cons_of_mem _ hy)
theorem forS_pure {xs : List α} {s : σ} {f : σ → α → Rx σ} {g : σ → α → σ} (h : ∀ s x, x ∈ xs → f s x = .ok (g s x)) : Vx.forS xs s f = .ok (xs.foldl g s) := by
  induction xs generalizing s with
  | nil => rfl
  | cons x r ih =>
    show (f s x).bind _ = _
    rw [h s x List.mem_cons_self]
    exact ih fun s y hy => h s y (List.mem_cons_of_mem _ hy)
theorem mapA_pure {xs : List α} {acc : List β} {f : α → Rx β} {g : α → β} (h : ∀ x ∈ xs, f x = .ok (g x)) (hl : acc.length + xs.length ≤ 1000000) : mapA xs acc f = .ok (acc ++ xs.map g) := by
  induction xs generalizing acc with
  | nil => simp [mapA]
  | cons x r ih =>
    rw [List.length_cons] at hl
    unfold mapA
    rw [grd_pos (by omega), h x List.mem_cons_self, bind_ok, ih (fun y hy => h y (List.mem_cons_of_mem _ hy)) (by rw [List.length_append, List.length_cons, List.length_nil]; omega)]
    simp
theorem mapA_pure0 {xs : List α} {f : α → Rx β} {g : α → β} (h : ∀ x ∈ xs, f x = .ok (g x)) (hl : xs.length ≤ 1000000) : mapA xs [] f = .ok (xs.map g) := by
  rw [mapA_pure h (by simpa using hl)]
  rfl
theorem mapF_pure {xs : List α} {acc : List β} {f : α → Rx (Option β)} {g : α → Option β} (h : ∀ x ∈ xs, f x = .ok (g x)) (hl : acc.length + xs.length ≤ 1000000) : mapF xs acc f = .ok (acc ++ xs.filterMap g) := by
  induction xs generalizing acc with
  | nil => simp [mapF]
  | cons x r ih =>
    rw [List.length_cons] at hl
    unfold mapF
    rw [grd_pos (by omega), h x List.mem_cons_self, bind_ok]
    cases e : g x with
    | none =>
      show mapF r acc f = _
      rw [ih (fun y hy => h y (List.mem_cons_of_mem _ hy)) (by omega), List.filterMap_cons, e]
    | some z =>
      show mapF r (acc ++ [z]) f = _
      rw [ih (fun y hy => h y (List.mem_cons_of_mem _ hy)) (by rw [List.length_append, List.length_cons, List.length_nil]; omega), List.filterMap_cons, e]
      simp
/-- a while that ends: m falls -/
theorem Gv.whileR {P : σ → Prop} {R : σ → Prop} (m : σ → Nat) {f : σ → Rx (Lp σ ρ)} (hs : ∀ s, P s → Gv (f s) (fun l => (∃ s', l = .go s' ∧ P s' ∧ m s' < m s) ∨ ∃ s', l = .bk s' ∧ R s')) : ∀ {n : Nat} {s : σ}, P s → m s < n → Gv (Vx.whileR n s f) (fun l => ∃ s', l = .go s' ∧ R s') := by
  intro n
  induction n with
  | zero => intro s _ h; exact absurd h (Nat.not_lt_zero _)
  | succ n ih =>
    intro s p h
    refine Gv.bind (hs s p) ?_
    rintro _ (⟨s', rfl, p', l⟩ | ⟨s', rfl, r⟩)
    · exact ih p' (by omega)
    · exact .ok ⟨s', rfl, r⟩
end
/-- a loop that may return -/
theorem Gv.forRR {α σ ρ : Type} {P : Nat → σ → Prop} {Q : ρ → Prop} {xs : List α} {s : σ} {f : σ → α → Rx (Lp σ ρ)} (h0 : P 0 s) (hs : ∀ i x s, xs[i]? = some x → P i s → Gv (f s x) (fun l => (∃ s', l = .go s' ∧ P (i + 1) s') ∨ ∃ r, l = .rt r ∧ Q r)) : Gv (Vx.forR xs s f) (fun l => (∃ s', l = .go s' ∧ P xs.length s') ∨ ∃ r, l = .rt r ∧ Q r) := by
  induction xs generalizing s P with
  | nil => exact .ok (.inl ⟨s, rfl, h0⟩)
  | cons x r ih =>
    refine Gv.bind (hs 0 x s rfl h0) ?_
    rintro _ (⟨s', rfl, p⟩ | ⟨r, rfl, q⟩)
    · exact ih (P := fun i => P (i + 1)) p fun i y s hy q => hs (i + 1) y s (by simpa using hy) q
    · exact .ok (.inr ⟨r, rfl, q⟩)
theorem rng_mem {lo x : Int} {n : Nat} (h : x ∈ rng lo n) : lo ≤ x ∧ x < lo + n := by
  unfold rng at h
  obtain ⟨j, hj, rfl⟩ := List.mem_map.mp h
  have := List.mem_range.mp hj
  omega
theorem rng_at {lo x : Int} {n i : Nat} (h : (rng lo n)[i]? = some x) : x = lo + i ∧ i < n := by
  have hl := get_len h
  rw [rng_len] at hl
  rw [rng_get hl] at h
  exact ⟨(Option.some.inj h).symm, hl⟩
end Vx
namespace Vx
open PySem PySem.Spec PyProof.Rows L2
/-! ### the head's facts -/
abbrev Frg : Type := PySem.W.Frag
abbrev FaK : Type := Frg → Bool
abbrev AlK : Type := Bool × List He.FnW × List (Option (List (Option (Str × Int))))
def obsK (fa : List (List FaK)) (fn : List He5.DefA) (ts : List He.Tab) (K : Frg) : AlK :=
  ((fa.all fun l => l.all fun f => f K) && fn.all fun d => d.ok K, fn.map fun d => He5.fnA K (d.at_ K), ts.map fun t => He.dicW K (t.1 K))
def valK (fn : List He5.DefA) (ts : List He.Tab) (w : World) : AlK := (true, fn.map He5.DefA.val, ts.map fun t => some (He.keysIn w.params t.2))
def SaysK (fa : List (List FaK)) (fn : List He5.DefA) (ts : List He.Tab) (w : World) (K : Frg) : Prop := obsK fa fn ts K = valK fn ts w
/-- what the names reach in n steps; what has been met is a number's bits -/
def grow1 : List Addr → Nat → List Addr → Nat × List Addr
  | [], m, nw => (m, nw)
  | a :: r, m, nw => match Nat.beq (Nat.land (Nat.shiftRight m a) 1) 1 with
    | true => grow1 r m nw
    | false => HandSHeadRun.frNat (Nat.lor m (Nat.shiftLeft 1 a)) fun m' => grow1 r m' (a :: nw)
def refsG (g : Addr → Option Obj) (a : Addr) : List Addr := match g a with
  | some o => He.refsD o
  | none => []
def asB (g : Addr → Option Obj) : Nat → Nat → List Addr → List Addr
  | 0, _, fr => fr
  | n + 1, m, fr => match grow1 (fr.flatMap (refsG g)) m [] with
    | (m', nw) => fr ++ asB g n m' nw
def asK (g : Addr → Option Obj) (n : Nat) : List Addr := asB g n (Nat.shiftLeft 1 mainGlobals) [mainGlobals]
def obsKG (n : Nat) (fa : List (List FaK)) (fn : List He5.DefA) (ts : List He.Tab) (g : Addr → Option Obj) : AlK := obsK fa fn ts (He.frG g (asK g n))
def hookK (n : Nat) (fa : List (List FaK)) (fn : List He5.DefA) (ts : List He.Tab) : PySem.W.Hook where
  α := AlK
  obs := fun s => obsKG n fa fn ts s.heap.get?
  val := fun w => valK fn ts w
  says := fun w h => ∃ K : Frg, K.In h ∧ SaysK fa fn ts w K
  of := fun _ _ e => ⟨_, He.frG_in, e⟩
  keeps := fun _ _ _ ⟨K, hK, c⟩ k => ⟨K, PySem.W.Frag.In.keeps hK k, c⟩
theorem obsKG_eq {n : Nat} {fa : List (List FaK)} {fn : List He5.DefA} {ts : List He.Tab} {g : Addr → Option Obj} {s : Shared} (h : ∀ a, g a = s.heap.get? a) : obsKG n fa fn ts g = (hookK n fa fn ts).obs s := by
  have e : g = s.heap.get? := funext h
  rw [e] <;> rfl
section
variable {fa : List (List FaK)} {fn : List He5.DefA} {ts : List He.Tab} {w : World} {K : Frg}
theorem SaysK.fact (c : SaysK fa fn ts w K) (i j : Nat) {l : List FaK} {f : FaK} (hl : fa[i]? = some l := by rfl) (h : l[j]? = some f := by rfl) : f K = true := by
  have c1 := (He.ba (show ((fa.all fun l => l.all fun f => f K) && fn.all fun d => d.ok K) = true from congrArg (fun z : AlK => z.1) c)).1
  have c2 := List.all_eq_true.mp c1 l (List.mem_of_getElem? hl)
  exact List.all_eq_true.mp c2 f (List.mem_of_getElem? h)
theorem SaysK.def_ (c : SaysK fa fn ts w K) (i : Nat) {d : He5.DefA} (h : fn[i]? = some d := by rfl) : ∃ fd, FunD K d.name d.qual d.params d.body d.scope (d.dvs K) (d.kws K) (d.at_ K) fd := by
  have c2 := (He.ba (show ((fa.all fun l => l.all fun f => f K) && fn.all fun d => d.ok K) = true from congrArg (fun z : AlK => z.1) c)).2
  have e : fn.map (fun d => He5.fnA K (d.at_ K)) = fn.map He5.DefA.val := congrArg (fun z : AlK => z.2.1) c
  have e2 : (fn.map fun d => He5.fnA K (d.at_ K))[i]? = (fn.map He5.DefA.val)[i]? := by rw [e]
  rw [List.getElem?_map, List.getElem?_map, h] at e2
  exact He5.DefA.funD (Option.some.inj e2) (List.all_eq_true.mp c2 d (List.mem_of_getElem? h))
theorem SaysK.tab (c : SaysK fa fn ts w K) (i : Nat) {t : He.Tab} (h : ts[i]? = some t := by rfl) : He.dicW K (t.1 K) = some (He.keysIn w.params t.2) := by
  have e : ts.map (fun t => He.dicW K (t.1 K)) = ts.map fun t => some (He.keysIn w.params t.2) := congrArg (fun z : AlK => z.2.2) c
  have e2 : (ts.map fun t => He.dicW K (t.1 K))[i]? = (ts.map fun t => some (He.keysIn w.params t.2))[i]? := by rw [e]
  rw [List.getElem?_map, List.getElem?_map, h] at e2
  exact Option.some.inj e2
end
/-! ### facts -/
/-- a def's keyword default, if it is an object -/
def kdA (f : Frg → Addr) (x : Str) (K : Frg) : Addr := match K.lookup (f K) with
  | some ⟨_, _, .func fd, _⟩ => (match fd.kwdefaults with
    | .ref D => (match PySem.W.nsIn K D x with
      | some (some (.ref a)) => a
      | _ => 0)
    | _ => 0)
  | _ => 0
/-- a property's def -/
def prA (C m : Str) (K : Frg) : Addr := match PySem.W.recIn K (He.ma K (He.ga K C) m) "property" with
  | some (.ref f :: _) => f
  | _ => 0
def prpB (C m : Str) : FaK := fun K => He.eqO (PySem.W.findIn K (.ref (He.ga K C)) m) (some (some (.ref (He.ma K (He.ga K C) m)))) &&
  (He.eqO (PySem.W.specialIn K (.ref (He.ma K (He.ga K C) m)) "__get__") (some (some (.builtin "property.__get__"))) &&
  (decide (PySem.W.takesIn K (.ref (He.ma K (He.ga K C) m)) = some true) && (match PySem.W.recIn K (He.ma K (He.ga K C) m) "property" with
    | some (.ref _ :: _) => true
    | _ => false)))
theorem prpB_ok {K : Frg} {C m : Str} (h : prpB C m K = true) : PySem.W.findIn K (.ref (He.ga K C)) m = some (some (.ref (He.ma K (He.ga K C) m))) ∧ PySem.W.specialIn K (.ref (He.ma K (He.ga K C) m)) "__get__" = some (some (.builtin "property.__get__")) ∧
    PySem.W.takesIn K (.ref (He.ma K (He.ga K C) m)) = some true ∧ ∃ rs, PySem.W.recIn K (He.ma K (He.ga K C) m) "property" = some (.ref (prA C m K) :: rs) := by
  obtain ⟨h1, h⟩ := He.ba h
  obtain ⟨h2, h⟩ := He.ba h
  obtain ⟨h3, h4⟩ := He.ba h
  refine ⟨He.eqO_ok h1, He.eqO_ok h2, of_decide_eq_true h3, ?_⟩
  unfold prA
  split at h4
  · rename_i f r e
    exact ⟨r, by rw [e]⟩
  · cases h4
def isiB (C : Str) : FaK := fun K => He.eqO (PySem.W.findIn K (.ref (He.ga K C)) "__class__") (some (some (.builtin "object.__class__"))) && (He.eqO (PySem.W.specialIn K (.builtin "object.__class__") "__get__") (some (some (.builtin "getset_descriptor.__get__"))) &&
  (decide (PySem.W.takesIn K (.builtin "object.__class__") = some true) && decide (PySem.W.mroIn K (He.ga K C) (.type "object") = some true)))
theorem isiB_ok {K : Frg} {C : Str} (h : isiB C K = true) : IsiC K (He.ga K C) := by
  obtain ⟨h1, h⟩ := He.ba h
  obtain ⟨h2, h⟩ := He.ba h
  obtain ⟨h3, h4⟩ := He.ba h
  exact ⟨He.eqO_ok h1, He.eqO_ok h2, of_decide_eq_true h3, of_decide_eq_true h4⟩
def excCB (C : Str) : FaK := fun K => He.eqO (PySem.W.findIn K (.ref (He.ga K C)) "__getattribute__") (some (some (.builtin "BaseException.__getattribute__"))) && (He.eqO (PySem.W.findIn K (.ref (He.ga K C)) "__getattr__") (some none) &&
  (decide (PySem.W.subIn K (.ref (He.ga K C)) (.type "BaseException") = some true) && (PySem.W.hasDictIn K (He.ga K C) && isiB C K)))
theorem excCB_ok {K : Frg} {C : Str} (h : excCB C K = true) : ExcC K (He.ga K C) := by
  obtain ⟨h1, h⟩ := He.ba h
  obtain ⟨h2, h⟩ := He.ba h
  obtain ⟨h3, h⟩ := He.ba h
  obtain ⟨h4, h⟩ := He.ba h
  obtain ⟨h5, h⟩ := He.ba h
  obtain ⟨h6, h⟩ := He.ba h
  obtain ⟨h7, h8⟩ := He.ba h
  exact ⟨He.eqO_ok h1, He.eqO_ok h2, of_decide_eq_true h3, h4, He.eqO_ok h5, He.eqO_ok h6, of_decide_eq_true h7, of_decide_eq_true h8⟩
def kitFB (D : Str) (c : Frg → Value) (b : Bool) : FaK := fun K => decide (PySem.W.kitOne K (.ref (He.ga K D)) (c K) = some b)
theorem kitFB_ok {K : Frg} {D : Str} {c : Frg → Value} {b : Bool} (h : kitFB D c b K = true) : PySem.W.kitOne K (.ref (He.ga K D)) (c K) = some b := of_decide_eq_true h
/-- a tuple of these -/
def tupK (a : Frg → Addr) (vs : List He.Dv) : FaK := fun K => match K.lookup (a K) with
  | some ⟨.type c, none, .seq its _, _⟩ => decide (c = "tuple") && (decide (its.size ≤ sizeLine) && He.relAll (vs.map (He.Dv.v K)) its.toList)
  | _ => false
theorem tupK_at {K : Frg} {a : Frg → Addr} {vs : List He.Dv} (h : tupK a vs K = true) : ∃ its n sl, K.lookup (a K) = some ⟨.type "tuple", none, .seq its n, sl⟩ ∧ its.size ≤ sizeLine ∧ Vals (vs.map (He.Dv.v K)) its.toList := by
  unfold tupK at h
  cases q : K.lookup (a K) with
  | none =>
    rw [q] at h
    cases h
  | some o =>
    obtain ⟨oc, od, dt, osl⟩ := o
    rw [q] at h
    cases oc with
    | type c =>
      cases od with
      | none =>
        cases dt with
        | seq its n =>
          obtain ⟨h1, h2⟩ := He.ba (show (decide (c = "tuple") && (decide (its.size ≤ sizeLine) && He.relAll (vs.map (He.Dv.v K)) its.toList)) = true from h)
          obtain ⟨h3, h4⟩ := He.ba h2
          refine ⟨its, n, osl, ?_, of_decide_eq_true h3, He.relAll_ok h4⟩
          rw [of_decide_eq_true h1]
        | _ => cases h
      | some d => cases dt <;> cases h
    | _ => cases od <;> cases dt <;> cases h
theorem tupK_ok {K : Frg} {a : Frg → Addr} {vs : List He.Dv} (h : tupK a vs K = true) (H : Hp) : SqT K H (a K) (vs.map (He.Dv.v K)) := by
  obtain ⟨its, n, sl, e, h1, h2⟩ := tupK_at h
  exact .inr ⟨_, its, n, e, rfl, rfl, h1, h2⟩
theorem tupK_cls {K : Frg} {a : Frg → Addr} {vs : List He.Dv} (h : tupK a vs K = true) : ∃ o, K.lookup (a K) = some o ∧ o.cls = .type "tuple" ∧ o.dict = none := by
  obtain ⟨its, n, sl, e, h1, h2⟩ := tupK_at h
  exact ⟨_, e, rfl, rfl⟩
/-- the i-th item of a tuple -/
def itK (a : Frg → Addr) (i : Nat) (K : Frg) : Addr := match K.lookup (a K) with
  | some ⟨_, _, .seq its _, _⟩ => (match its.toList[i]? with
    | some (.ref b) => b
    | _ => 0)
  | _ => 0
/-- the value of a key of text -/
def ikK (a : Frg → Addr) (k : Str) (K : Frg) : Addr := match PySem.W.nsIn K (a K) k with
  | some (some (.ref b)) => b
  | _ => 0
/-! ### dicts of ints -/
def eiB : List (Int × Int) → List DictEntry → Bool
  | [], [] => true
  | (k, v) :: r, ⟨h, .int k2 _, .int v2 _⟩ :: es => decide (h = hashInt k) && (decide (k2 = k) && (decide (v2 = v) && eiB r es))
  | _, _ => false
theorem eiB_ok : ∀ {kvs : List (Int × Int)} {es : List DictEntry}, eiB kvs es = true → EI kvs es
  | [], [], _ => .nil
  | [], _ :: _, h => by cases h
  | _ :: _, [], h => by cases h
  | (k, v) :: r, ⟨h0, kk, vv⟩ :: es, h => by
    cases kk with
    | int k2 t =>
      cases vv with
      | int v2 u =>
        obtain ⟨h1, h⟩ := He.ba (show (decide (h0 = hashInt k) && (decide (k2 = k) && (decide (v2 = v) && eiB r es))) = true from h)
        obtain ⟨h2, h⟩ := He.ba h
        obtain ⟨h3, h⟩ := He.ba h
        rw [of_decide_eq_true h1, of_decide_eq_true h2, of_decide_eq_true h3]
        exact .cons (eiB_ok h)
      | _ => cases h
    | _ => cases vv <;> cases h
def kdiB (a : Frg → Addr) (kvs : List (Int × Int)) : FaK := fun K => match K.lookup (a K) with
  | some ⟨.type c, none, .dict es _, sl⟩ => decide (c = "dict") && (sl.isEmpty && (!(a K == sysModules) && eiB kvs es.toList))
  | _ => false
theorem kdiB_ok {K : Frg} {a : Frg → Addr} {kvs : List (Int × Int)} (h : kdiB a kvs K = true) : KDI K (a K) kvs := by
  unfold kdiB at h
  cases q : K.lookup (a K) with
  | none =>
    rw [q] at h
    cases h
  | some o =>
    obtain ⟨oc, od, dt, osl⟩ := o
    rw [q] at h
    cases oc with
    | type c =>
      cases od with
      | none =>
        cases dt with
        | dict es n =>
          obtain ⟨h1, h2⟩ := He.ba (show (decide (c = "dict") && (osl.isEmpty && (!(a K == sysModules) && eiB kvs es.toList))) = true from h)
          obtain ⟨h3, h4⟩ := He.ba h2
          obtain ⟨h5, h6⟩ := He.ba h4
          refine ⟨es, n, ?_, ?_, eiB_ok h6⟩
          · rw [q, of_decide_eq_true h1, Array.isEmpty_iff.mp h3]
          · cases y : a K == sysModules with
            | false => rfl
            | true =>
              rw [y] at h5
              cases h5
        | _ => cases h
      | some b => cases dt <;> cases h
    | _ => cases od <;> cases dt <;> cases h
/-! ### dicts with text keys: the values -/
def valsL (K : Frg) (vs : List He.Dv) (es : List DictEntry) : Bool := He.relAll (vs.map (He.Dv.v K)) (es.map (·.val))
def dvB (a : Frg → Addr) (vs : List He.Dv) : FaK := fun K => match K.lookup (a K) with
  | some ⟨_, _, .dict es _, _⟩ => valsL K vs es.toList
  | _ => false
theorem dic_of {K : Frg} {P : Params} {a : Frg → Addr} {ks : List Str} {vs : List He.Dv} (h : He.dicW K (a K) = some (He.keysIn P ks)) (hv : dvB a vs K = true) :
    ∃ es n, K.lookup (a K) = some ⟨.type "dict", none, .dict es n, #[]⟩ ∧ es.toList.map He.keyOf = He.keysIn P ks ∧ Vals (vs.map (He.Dv.v K)) (es.toList.map (·.val)) := by
  unfold He.dicW at h
  unfold dvB at hv
  cases q : K.lookup (a K) with
  | none =>
    rw [q] at h
    cases h
  | some o =>
    obtain ⟨oc, od, dt, osl⟩ := o
    rw [q] at h hv
    cases oc with
    | type c =>
      cases od with
      | none =>
        cases dt with
        | dict es n =>
          have h1 : (match decide (c = "dict") && (osl.isEmpty && !(a K == sysModules)) with
            | true => some (es.toList.map He.keyOf)
            | false => none) = some (He.keysIn P ks) := h
          cases z : decide (c = "dict") && (osl.isEmpty && !(a K == sysModules)) with
          | false =>
            rw [z] at h1
            cases h1
          | true =>
            rw [z] at h1
            obtain ⟨z1, z2⟩ := He.ba z
            obtain ⟨z3, z4⟩ := He.ba z2
            refine ⟨es, n, ?_, Option.some.inj h1, He.relAll_ok hv⟩
            rw [of_decide_eq_true z1, Array.isEmpty_iff.mp z3]
        | _ => cases h
      | some b => cases dt <;> cases h
    | _ => cases od <;> cases dt <;> cases h
theorem fnD_ex {K : Frg} {x q : Str} {args : Arguments} {body : List Stmt} {sc : Scope} {kws : List (Str × V)} {f : Addr} {fd : FuncData} (F : FunD K x q args body sc [] kws f fd) : ∃ (kV doc : Value) (pm : Value) (an : Option Addr) (cdv ct : Value), fd = PySem.W.fnOf x q args body sc .none kV doc pm an cdv ct := by
  obtain ⟨oc, od, dV, kV, doc, pm, an, cdv, ct, osl, e, l, c, hd, _⟩ := F.ex
  rcases hd with ⟨_, e2⟩ | ⟨e2, _⟩
  · subst e2
    exact ⟨_, _, _, _, _, _, e⟩
  · exact absurd rfl e2
/-! ### positional defaults -/
theorem fnD_exP {K : PySem.W.Frag} {x q : Str} {args : Arguments} {body : List Stmt} {sc : Scope} {dvs : List V} {kws : List (Str × V)} {f : Addr} {fd : FuncData} (F : FunD K x q args body sc dvs kws f fd) : ∃ (dV kV doc : Value) (pm : Value) (an : Option Addr) (cdv ct : Value), fd = PySem.W.fnOf x q args body sc dV kV doc pm an cdv ct := by
  obtain ⟨oc, od, dV, kV, doc, pm, an, cdv, ct, osl, e, l, c, hd, _⟩ := F.ex
  exact ⟨_, _, _, _, _, _, _, e⟩
theorem Bnd.dfl {K : PySem.W.Frag} {x qual : Str} {params : Arguments} {body : List Stmt} {scope : Scope} {dvs : List V} {kws : List (Str × V)} {f : Addr} {fd : FuncData} {ps : List Str} (F : FunD K x qual params body scope dvs kws f fd) (n j : Nat) (hd : dvs ≠ [])
    (h : ∀ (T : Addr) (kV doc pm : Value) (an : Option Addr) (cdv ct : Value) (us its : List Value), us.length = n → its.length = dvs.length →
      ∃ k, bindArgs (PySem.W.fnOf x qual params body scope (.ref T) kV doc pm an cdv ct) ⟨us, []⟩ = seqItems? (.ref T) >>= k ∧ k (some its.toArray) = pure (ps.zip (us ++ its.drop j))) : Bnd K fd ps n [] (fun vs _ => vs ++ dvs.drop j) := by
  obtain ⟨oc, od, dV, kV, doc, pm, an, cdv, ct, osl, rfl, lk, hcd, hD, hK⟩ := F.ex
  rcases hD with ⟨e, _⟩ | ⟨_, T, o, its, m, rfl, lT, oT, rT⟩
  · exact absurd e hd
  · refine ⟨fun s us ws vs zs X hv hz rv rz => ⟨us ++ its.drop j, ?_, rv.append (rT.drop j)⟩⟩
    have hw : ws = [] := by
      have := rz.length
      rw [hz] at this
      exact List.eq_nil_of_length_eq_zero this.symm
    subst hw
    obtain ⟨k, e1, e2⟩ := h T kV doc pm an cdv ct us its (rv.length.symm.trans hv) rT.length.symm
    refine BindsTo.of_looks fun M => ?_
    show PySem.W.Looks M s.heap (bindArgs _ ⟨us, []⟩) _
    rw [e1]
    exact looks_items X lT oT (.of_pure e2)
/-! ### the law -/
theorem walkK {l : PySem.W.OpenLaw} {n k : Nat} {q : Program} {loose : List Str} {XP : (Str → Option Value) → Heap → Prop} {YP : World → Heap → Prop} {d : DefRec} {x : Str} (hn : l.most = some n) (hn2 : n ≤ sizeLine) (hdf : d.params.defaults = []) (room : Room k callerA)
    (F : ∀ (w : World) (mg : Str → Option Value) (fa : Addr) (h : Heap), YP w h → h.Ns mainGlobals mg → mg d.name = some (.ref fa) →
      ∃ (K : Frg) (fd : FuncData), K.In h ∧ (∀ (s : Shared) (u : Value), BindsTo s fd ⟨[u], []⟩ [(x, u)]) ∧ ∀ base : Heap, K.In base → base.Ns mainGlobals mg → FnG l.prog w K mg base CX0 k fa fd [x] (fun vs H Q _ => ∃ (a : Addr) (ns : List Int), vs = [.ref a] ∧ SqL K H a (ns.map V.int) ∧ ns.length ≤ n ∧ ∀ H', Q (.bl true) H')) :
    PySem.W.WalkO q loose XP YP l.row.toRowW d [] (fun f vs => PySem.call f vs) := by
  refine Att.attach_call hn hdf ?_
  intro w s₀ s₁ mg mb fa o pm cd doc a vs ns G Y _ _ _ hmg script whole short gens
  obtain ⟨K, fd, kin, bind, prom⟩ := F w mg fa _ Y G.T.g hmg
  obtain ⟨H, base, seq, kinB, nsB, env, fin⟩ := law_start (P := l.prog) (w := w) kin G.T.g G.T.b G.T.builtins G.T.nolimit gens script whole (Nat.le_trans short hn2)
  refine codeAny_mono ((prom base kinB nsB).run callerA [] s₁ H ⟨[.ref a], []⟩ [.ref a] [.ref a] (fun v _ => v = .bl true) (fun _ _ _ => False) ⟨room, rfl⟩ env (bind s₁ (.ref a)) (.cons rfl .nil) ⟨a, ns, rfl, seq, short, fun _ => rfl⟩) ?_
  intro r s2 out
  cases r with
  | error e => exact out.elim
  | ok flow =>
    cases flow with
    | ret u =>
      obtain ⟨⟨v, rv, z⟩, h1, h2, h3⟩ := fin (fun v => v = .bl true) u s2 out
      subst z
      obtain rfl : u = Value.bool true := rv
      exact ⟨rfl, h1, h2, h3⟩
    | next => exact out.elim
    | brk => exact out.elim
    | cont => exact out.elim
end Vx
namespace Vx
open PySem PySem.Spec PyProof.Rows L2
theorem es_of {P : Params} : ∀ {kvs : List (Str × Int)} {es : List DictEntry}, es.map He.keyOf = He.keysIn P (kvs.map (·.1)) → Vals (kvs.map fun q => V.int q.2) (es.map (·.val)) → ES P kvs es
  | [], [], _, _ => .nil
  | [], _ :: _, h, _ => by cases h
  | _ :: _, [], h, _ => by cases h
  | (k, v) :: r, e :: es, h, hv => by
    have h1 : He.keyOf e :: es.map He.keyOf = some (k, PyData.keyHash P k) :: He.keysIn P (r.map (·.1)) := h
    injection h1 with h2 h3
    obtain ⟨hh, kk, vv⟩ := e
    cases hv with
    | cons r1 r2 =>
      obtain ⟨u, e1⟩ := r1
      have e1 : vv = .int v u := e1
      subst e1
      unfold He.keyOf at h2
      cases kk with
      | str x t =>
        have h4 := Option.some.inj h2
        obtain ⟨h5, h6⟩ := Prod.mk.inj h4
        subst h5
        exact .cons h6 (es_of h3 r2)
      | _ => cases h2
theorem kds_of {K : Frg} {w : World} {a : Frg → Addr} {kvs : List (Str × Int)} (h : He.dicW K (a K) = some (He.keysIn w.params (kvs.map (·.1)))) (hv : dvB a (kvs.map fun q => .int q.2) K = true) : KDS K w (a K) kvs := by
  obtain ⟨es, n, e, k, v⟩ := dic_of h hv
  refine ⟨es, n, e, es_of k ?_⟩
  rw [List.map_map] at v
  exact v
end Vx
namespace Vx
open PySem PySem.Spec PyProof.Rows L2
structure St_Format where
  width : Int
  height : Int
  depth : Int
  chroma : Int
deriving DecidableEq
structure St_Settings where
  fmt : St_Format
  slots : Int
  rows : Int
  deblock : Bool
  offset : Bool
  layers : Int
deriving DecidableEq
def F__law_digits_b1 (base_12 : Int) (large_13 : Bool) (cell_25 : Int) (digits_26 : (List Int)) (it29 : Int) : Rx (Int × (List Int)) :=
  (if large_13 = true then grd (0 < (base_12 : Int)) <| grd ((digits_26).length ≤ 1000000) <| bnd ((digits_26) ++ [(cell_25 % base_12)]) fun y39 => grd (0 < (base_12 : Int) ∧ (base_12 : Int) < 2 ^ 128) <| bnd ((cell_25 / base_12)) fun cell_41 => .ok ((cell_41), (y39)) else grd ((-(2 ^ 64) < ((it29 + 1) : Int) ∧ ((it29 + 1) : Int) < 2 ^ 64) ∨ (-(2 ^ 64) < ((it29 + 5) : Int) ∧ ((it29 + 5) : Int) < 2 ^ 64)) <| grd ((-(2 ^ 64) < ((cell_25 / 97) : Int) ∧ ((cell_25 / 97) : Int) < 2 ^ 64) ∨ (-(2 ^ 64) < (it29 : Int) ∧ (it29 : Int) < 2 ^ 64)) <| grd (0 < (base_12 : Int)) <| grd ((digits_26).length ≤ 1000000) <| bnd ((digits_26) ++ [(((((cell_25 * 48271) + (((it29 + 1) * (it29 + 5)) * 69621)) + ((cell_25 / 97) * it29)) % 2147483647) % base_12)]) fun y52 => .ok ((cell_25), (y52)))

def F__law_digits_r1 (cell_58 : Int) (digits_59 : (List Int)) : Rx (List Int) :=
  .ok (digits_59)

def F__law_digits (cell' : Int) (base' : Int) (most' : Int) : Rx (List Int) :=
  bnd (decide (((10 : Int) ^ Int.toNat 18) ≤ cell')) fun large_10 => grd (-(2 ^ 62) ≤ (most' : Int) ∧ (most' : Int) < 2 ^ 62) <| Rx.bind (forS (rng (0) (Int.toNat (most'))) ((cell'), (([] : (List Int)))) (fun s x => F__law_digits_b1 (base') (large_10) (s.1) (s.2) x)) fun s => F__law_digits_r1  (s.1) (s.2)

def F_Format___init__ (width' : Int) (height' : Int) (depth' : Int) (chroma' : Int) : Rx St_Format :=
  (if 1 ≤ width' then (if width' ≤ 256 then (if 1 ≤ height' then (if height' ≤ 256 then (if 8 ≤ depth' then (if depth' ≤ 12 then (if 0 ≤ chroma' then (if chroma' ≤ 2 then .ok (⟨width', height', depth', chroma'⟩ : St_Format) else .er 1) else .er 1) else .er 1) else .er 1) else .er 1) else .er 1) else .er 1) else .er 1)

def F__require (holds' : Bool) (text' : Str) : Rx Unit :=
  (if holds' = true then .ok (()) else .er 3)

def F_Settings___init__ (fmt' : St_Format) (slots' : Int) (rows' : Int) (deblock' : Bool) (offset' : Bool) (layers' : Int) : Rx St_Settings :=
  Rx.bind (F__require ((decide (1 ≤ slots') && decide (slots' ≤ 4))) (("there are 1 to 4 slots" : Str))) fun v96 => Rx.bind (F__require ((decide (1 ≤ rows') && decide (rows' ≤ 32))) (("a slice has 1 to 32 rows of blocks" : Str))) fun v100 => Rx.bind (F__require ((decide (1 ≤ layers') && decide (layers' ≤ 4))) (("there are 1 to 4 layers" : Str))) fun v104 => .ok (⟨fmt', slots', rows', deblock', offset', layers'⟩ : St_Settings)

def F_Format_planes (self' : St_Format) : Rx Int :=
  .ok ((if (self'.chroma : Int) = 0 then 1 else 3))

def F_Format_blocks (self' : St_Format) : Rx (Int × Int) :=
  .ok (((((self'.width + 8) - 1) / 8), (((self'.height + 8) - 1) / 8)))

def F_Format__plane_size (self' : St_Format) (plane' : Int) (width' : Int) (height' : Int) : Rx (Int × Int) :=
  (if 0 ≤ plane' then Rx.bind (noEr (F_Format_planes (self'))) fun v157 => (if plane' < v157 then (if 0 < plane' then (if (self'.chroma : Int) = 1 then .ok ((((width' + 1) / 2), ((height' + 1) / 2))) else .ok ((width', height'))) else .ok ((width', height'))) else .er 2) else .er 2)

def F_Format_coded_size (self' : St_Format) (plane' : Int) : Rx (Int × Int) :=
  Rx.bind (F_Format_blocks (self')) fun v200 => Rx.bind (F_Format__plane_size (self') plane' ((v200.1 * 8)) ((v200.2 * 8))) fun v216 => .ok (v216)

def F__law_planes_c3 (digits_334 : (List Int)) (j_335 : Int) (it370 : Int) : Rx Int :=
  grd (-((digits_334 : (List Int)).length : Int) ≤ (((7 * j_335) + it370) % 24) ∧ (((7 * j_335) + it370) % 24) < ((digits_334 : (List Int)).length : Int)) <| .ok ((itD (digits_334) ((((7 * j_335) + it370) % 24))))

def F__law_planes_c4 (cell_413 : Int) (top_414 : Int) (j_415 : Int) (it450 : Int) : Rx Int :=
  grd (0 < ((top_414 + 1) : Int)) <| .ok ((((cell_413 + (9 * it450)) + (5 * j_415)) % (top_414 + 1)))

def F__law_planes_c5 (top_492 : Int) (digits_493 : (List Int)) (j_494 : Int) (it529 : Int) : Rx Int :=
  grd (-((digits_493 : (List Int)).length : Int) ≤ 0 ∧ 0 < ((digits_493 : (List Int)).length : Int)) <| grd (0 < ((top_492 + 1) : Int)) <| .ok ((((itD (digits_493) (0)) + (((it529 / 3) + (j_494 / 3)) * 40)) % (top_492 + 1)))

def F__law_planes_b2 (cell_307 : Int) (top_308 : Int) (size_309 : (Int × Int)) (digits_310 : (List Int)) (rows_328 : (List (List Int))) (it331 : Int) : Rx ((List (List Int))) :=
  (if (((cell_307 / 7) % 3) : Int) = 0 then grd (-(2 ^ 62) ≤ (size_309.1 : Int) ∧ (size_309.1 : Int) < 2 ^ 62) <| Rx.bind (mapA (rng (0) (Int.toNat (size_309.1))) [] (fun x => noEr (F__law_planes_c3 (digits_310) (it331) x))) fun v336 => grd ((rows_328).length ≤ 1000000) <| bnd ((rows_328) ++ [v336]) fun y408 => .ok (y408) else (if (((cell_307 / 7) % 3) : Int) = 1 then grd (-(2 ^ 62) ≤ (size_309.1 : Int) ∧ (size_309.1 : Int) < 2 ^ 62) <| Rx.bind (mapA (rng (0) (Int.toNat (size_309.1))) [] (fun x => noEr (F__law_planes_c4 (cell_307) (top_308) (it331) x))) fun v416 => grd ((rows_328).length ≤ 1000000) <| bnd ((rows_328) ++ [v416]) fun y488 => .ok (y488) else grd (-(2 ^ 62) ≤ (size_309.1 : Int) ∧ (size_309.1 : Int) < 2 ^ 62) <| Rx.bind (mapA (rng (0) (Int.toNat (size_309.1))) [] (fun x => noEr (F__law_planes_c5 (top_308) (digits_310) (it331) x))) fun v495 => grd ((rows_328).length ≤ 1000000) <| bnd ((rows_328) ++ [v495]) fun y568 => .ok (y568)))

def F__law_planes_r2 (planes_311 : (List (List (List Int)))) (rows_579 : (List (List Int))) : Rx ((List (List (List Int)))) :=
  grd ((planes_311).length ≤ 1000000) <| bnd ((planes_311) ++ [rows_579]) fun y592 => .ok (y592)

def F__law_planes_b1 (cell_247 : Int) (fmt_248 : St_Format) (top_249 : Int) (planes_267 : (List (List (List Int)))) (it270 : Int) : Rx ((List (List (List Int)))) :=
  Rx.bind (F_Format_coded_size (fmt_248) it270) fun v271 => Rx.bind (F__law_digits ((cell_247 + (17 * it270))) ((top_249 + 1)) 24) fun v287 => grd (-(2 ^ 62) ≤ (v271.2 : Int) ∧ (v271.2 : Int) < 2 ^ 62) <| Rx.bind (forS (rng (0) (Int.toNat (v271.2))) (([] : (List (List Int)))) (fun s x => F__law_planes_b2 (cell_247) (top_249) (v271) (v287) s x)) fun s => F__law_planes_r2 (planes_267) s

def F__law_planes_r1 (planes_599 : (List (List (List Int)))) : Rx (List (List (List Int))) :=
  .ok (planes_599)

def F__law_planes (cell' : Int) (fmt' : St_Format) (top' : Int) : Rx (List (List (List Int))) :=
  Rx.bind (noEr (F_Format_planes (fmt'))) fun v242 => grd (-(2 ^ 62) ≤ (v242 : Int) ∧ (v242 : Int) < 2 ^ 62) <| Rx.bind (forS (rng (0) (Int.toNat (v242))) (([] : (List (List (List Int))))) (fun s x => F__law_planes_b1 (cell') (fmt') (top') s x)) fun s => F__law_planes_r1  s

def F_copy_planes_c2 (it703 : (List Int)) : Rx (List Int) :=
  .ok it703

def F_copy_planes_c1 (it653 : (List (List Int))) : Rx (List (List Int)) :=
  Rx.bind (mapA (it653) [] (fun x => noEr (F_copy_planes_c2  x))) fun v654 => .ok v654

def F_copy_planes (planes' : (List (List (List Int)))) : Rx (List (List (List Int))) :=
  Rx.bind (mapA (planes') [] (fun x => noEr (F_copy_planes_c1  x))) fun v608 => .ok (v608)

def F_block_side (fmt' : St_Format) (plane' : Int) : Rx Int :=
  (if 0 < plane' then (if (fmt'.chroma : Int) = 1 then .ok ((8 / 2)) else .ok (8)) else .ok (8))

def F_Settings_slices (self' : St_Settings) : Rx Int :=
  Rx.bind (F_Format_blocks (self'.fmt)) fun v757 => grd (0 < (self'.rows : Int) ∧ (self'.rows : Int) < 2 ^ 128) <| .ok ((((v757.2 + self'.rows) - 1) / self'.rows))

def F_Settings_slice_rows (self' : St_Settings) (index' : Int) : Rx (Int × Int) :=
  (if 0 ≤ index' then Rx.bind (F_Settings_slices (self')) fun v775 => (if index' < v775 then Rx.bind (F_Format_blocks (self'.fmt)) fun v780 => grd ((-(2 ^ 64) < (index' : Int) ∧ (index' : Int) < 2 ^ 64) ∨ (-(2 ^ 64) < (self'.rows : Int) ∧ (self'.rows : Int) < 2 ^ 64)) <| bnd ((index' * self'.rows)) fun first_797 => .ok ((first_797, (if (v780.2 - first_797) < self'.rows then (v780.2 - first_797) else self'.rows))) else .er 2) else .er 2)

def F_slice_span (settings' : St_Settings) (index' : Int) (plane' : Int) : Rx (Int × Int) :=
  Rx.bind (F_Settings_slice_rows (settings') index') fun v810 => Rx.bind (F_block_side (settings'.fmt) plane') fun v826 => grd ((-(2 ^ 64) < (v810.1 : Int) ∧ (v810.1 : Int) < 2 ^ 64) ∨ (-(2 ^ 64) < (v826 : Int) ∧ (v826 : Int) < 2 ^ 64)) <| grd ((-(2 ^ 64) < ((v810.1 + v810.2) : Int) ∧ ((v810.1 + v810.2) : Int) < 2 ^ 64) ∨ (-(2 ^ 64) < (v826 : Int) ∧ (v826 : Int) < 2 ^ 64)) <| .ok (((v810.1 * v826), ((v810.1 + v810.2) * v826)))

def F_clip (value' : Int) (low' : Int) (high' : Int) : Rx Int :=
  .ok ((if high' < (if low' > value' then low' else value') then high' else (if low' > value' then low' else value')))

def F__sign (number' : Int) : Rx Int :=
  (if (number' : Int) = 0 then .ok (0) else .ok ((if 0 < number' then 1 else (-1))))

def F_Format_top (self' : St_Format) : Rx Int :=
  grd ((0 : Int) ≤ self'.depth ∧ (self'.depth : Int) ≤ 4096 ∧ -(2 ^ 4096) < (1 : Int) ∧ (1 : Int) < 2 ^ 4096) <| .ok (((1 * 2 ^ Int.toNat (self'.depth)) - 1))

def F__filtered_row_b1 (fmt_911 : St_Format) (right_912 : Int) (one_913 : (List Int)) (other_914 : (List Int)) (scale_915 : Int) (changes_916 : (List Int)) (row_929 : (List Int)) (it932 : Int) : Rx ((List Int)) :=
  grd (-((row_929 : (List Int)).length : Int) ≤ it932 ∧ it932 < ((row_929 : (List Int)).length : Int)) <| grd (-((one_913 : (List Int)).length : Int) ≤ (it932 + right_912) ∧ (it932 + right_912) < ((one_913 : (List Int)).length : Int)) <| Rx.bind (F__sign (((itD (row_929) (it932)) - (itD (one_913) ((it932 + right_912)))))) fun v935 => grd (-((row_929 : (List Int)).length : Int) ≤ it932 ∧ it932 < ((row_929 : (List Int)).length : Int)) <| grd (-((other_914 : (List Int)).length : Int) ≤ (it932 - right_912) ∧ (it932 - right_912) < ((other_914 : (List Int)).length : Int)) <| Rx.bind (F__sign (((itD (row_929) (it932)) - (itD (other_914) ((it932 - right_912)))))) fun v938 => bnd ((v935 + v938)) fun turn_939 => grd (-((row_929 : (List Int)).length : Int) ≤ it932 ∧ it932 < ((row_929 : (List Int)).length : Int)) <| grd (-((changes_916 : (List Int)).length : Int) ≤ (turn_939 + 2) ∧ (turn_939 + 2) < ((changes_916 : (List Int)).length : Int)) <| grd ((-(2 ^ 64) < ((itD (changes_916) ((turn_939 + 2))) : Int) ∧ ((itD (changes_916) ((turn_939 + 2))) : Int) < 2 ^ 64) ∨ (-(2 ^ 64) < (scale_915 : Int) ∧ (scale_915 : Int) < 2 ^ 64)) <| Rx.bind (noEr (F_Format_top (fmt_911))) fun v943 => Rx.bind (F_clip (((itD (row_929) (it932)) + ((itD (changes_916) ((turn_939 + 2))) * scale_915))) 0 v943) fun v947 => grd (-((row_929 : (List Int)).length : Int) ≤ it932 ∧ it932 < ((row_929 : (List Int)).length : Int)) <| bnd (setL (row_929) (it932) (v947)) fun y956 => .ok (y956)

def F__filtered_row_r1 (row_964 : (List Int)) : Rx (List Int) :=
  .ok (row_964)

def F__filtered_row (fmt' : St_Format) (plane' : (List (List Int))) (y' : Int) (item' : (Int × (List Int))) : Rx (List Int) :=
  grd ((0 : Int) ≤ item'.1 ∧ item'.1 < 4) <| grd (((itD ([[-1, 0], [0, -1], [-1, -1], [-1, 1]] : List (List Int)) (item'.1))).length = 2) <| bnd ((itD ((itD ([[-1, 0], [0, -1], [-1, -1], [-1, 1]] : List (List Int)) (item'.1))) 0)) fun right_863 => bnd ((itD ((itD ([[-1, 0], [0, -1], [-1, -1], [-1, 1]] : List (List Int)) (item'.1))) 1)) fun down_864 => grd (-((plane' : (List (List Int))).length : Int) ≤ y' ∧ y' < ((plane' : (List (List Int))).length : Int)) <| (if (if down_864 < 0 then -down_864 else down_864) ≤ y' then (if y' < ((((plane') : (List (List Int))).length : Int) - (if down_864 < 0 then -down_864 else down_864)) then grd (-((plane' : (List (List Int))).length : Int) ≤ (y' + down_864) ∧ (y' + down_864) < ((plane' : (List (List Int))).length : Int)) <| grd (-((plane' : (List (List Int))).length : Int) ≤ (y' - down_864) ∧ (y' - down_864) < ((plane' : (List (List Int))).length : Int)) <| grd ((0 : Int) ≤ (fmt'.depth - 8) ∧ ((fmt'.depth - 8) : Int) ≤ 4096 ∧ -(2 ^ 4096) < (1 : Int) ∧ (1 : Int) < 2 ^ 4096) <| bnd ((1 * 2 ^ Int.toNat ((fmt'.depth - 8)))) fun scale_895 => grd (-((item'.2 : (List Int)).length : Int) ≤ 0 ∧ 0 < ((item'.2 : (List Int)).length : Int)) <| grd (-((item'.2 : (List Int)).length : Int) ≤ 1 ∧ 1 < ((item'.2 : (List Int)).length : Int)) <| grd (-((item'.2 : (List Int)).length : Int) ≤ 2 ∧ 2 < ((item'.2 : (List Int)).length : Int)) <| grd (-((item'.2 : (List Int)).length : Int) ≤ 3 ∧ 3 < ((item'.2 : (List Int)).length : Int)) <| grd (-(2 ^ 62) ≤ ((if right_863 < 0 then -right_863 else right_863) : Int) ∧ ((if right_863 < 0 then -right_863 else right_863) : Int) < 2 ^ 62 ∧ -(2 ^ 62) ≤ ((((((itD (plane') (y'))) : (List Int)).length : Int) - (if right_863 < 0 then -right_863 else right_863)) : Int) ∧ ((((((itD (plane') (y'))) : (List Int)).length : Int) - (if right_863 < 0 then -right_863 else right_863)) : Int) < 2 ^ 62) <| Rx.bind (forS (rng ((if right_863 < 0 then -right_863 else right_863)) (Int.toNat ((((((itD (plane') (y'))) : (List Int)).length : Int) - (if right_863 < 0 then -right_863 else right_863)) - (if right_863 < 0 then -right_863 else right_863)))) ((itD (plane') (y'))) (fun s x => F__filtered_row_b1 (fmt') (right_863) ((itD (plane') ((y' + down_864)))) ((itD (plane') ((y' - down_864)))) (scale_895) ([(itD (item'.2) (0)), (itD (item'.2) (1)), 0, (itD (item'.2) (2)), (itD (item'.2) (3))]) s x)) fun s => F__filtered_row_r1  s else .ok ((itD (plane') (y')))) else .ok ((itD (plane') (y'))))

def F__filter_slice_c2 (settings_1039 : St_Settings) (planes_1040 : (List (List (List Int)))) (plane_1041 : Int) (item_1042 : PyData) (it1075 : Int) : Rx (List Int) :=
  grd (-((planes_1040 : (List (List (List Int)))).length : Int) ≤ plane_1041 ∧ plane_1041 < ((planes_1040 : (List (List (List Int)))).length : Int)) <| grd (((cT2 cI (cL cI))).ok (item_1042) = true) <| Rx.bind (F__filtered_row (settings_1039.fmt) ((itD (planes_1040) (plane_1041))) it1075 ((((cT2 cI (cL cI))).dec (item_1042)))) fun v1094 => .ok v1094

def F__filter_slice_b1 (settings_973 : St_Settings) (index_974 : Int) (planes_975 : (List (List (List Int)))) (filtered_1017 : (List (List (List Int)))) (it1020 : (Int × PyData)) : Rx ((List (List (List Int)))) :=
  (if (!dNone (it1020.2)) = true then Rx.bind (noEr (F_slice_span (settings_973) index_974 it1020.1)) fun v1022 => grd (-(2 ^ 62) ≤ (v1022.1 : Int) ∧ (v1022.1 : Int) < 2 ^ 62 ∧ -(2 ^ 62) ≤ (v1022.2 : Int) ∧ (v1022.2 : Int) < 2 ^ 62) <| Rx.bind (mapA (rng (v1022.1) (Int.toNat (v1022.2 - v1022.1))) [] (fun x => noEr (F__filter_slice_c2 (settings_973) (planes_975) (it1020.1) (it1020.2) x))) fun v1043 => grd (-((filtered_1017 : (List (List (List Int)))).length : Int) ≤ it1020.1 ∧ it1020.1 < ((filtered_1017 : (List (List (List Int)))).length : Int)) <| grd ((0 : Int) ≤ v1022.1 ∧ v1022.1 ≤ v1022.2 ∧ v1022.2 ≤ ((((itD (filtered_1017) (it1020.1)) : (List (List Int))).length : Nat) : Int) ∧ ((itD (filtered_1017) (it1020.1)) : (List (List Int))).length + (v1043 : (List (List Int))).length ≤ 1000000) <| bnd (setL (filtered_1017) (it1020.1) (spliceL ((itD (filtered_1017) (it1020.1))) (v1022.1) (v1022.2) (v1043))) fun y1156 => .ok (y1156) else .ok (filtered_1017))

def F__filter_slice_r1 (filtered_1168 : (List (List (List Int)))) : Rx (List (List (List Int))) :=
  .ok filtered_1168

def F__filter_slice (settings' : St_Settings) (index' : Int) (items' : (List PyData)) (planes' : (List (List (List Int)))) (filtered' : (List (List (List Int)))) : Rx (List (List (List Int))) :=
  Rx.bind (forS (enumL (items')) (filtered') (fun s x => F__filter_slice_b1 (settings') (index') (planes') s x)) fun s => F__filter_slice_r1  s

def F_apply_offsets_b1 (settings_1196 : St_Settings) (planes_1197 : (List (List (List Int)))) (filtered_1234 : (List (List (List Int)))) (it1237 : (Int × PyData)) : Rx ((List (List (List Int)))) :=
  (if (!dNone (it1237.2)) = true then grd (((cL cD)).ok (it1237.2) = true) <| Rx.bind (F__filter_slice (settings_1196) it1237.1 ((((cL cD)).dec (it1237.2))) (planes_1197) (filtered_1234)) fun v1247 => .ok (v1247) else .ok (filtered_1234))

def F_apply_offsets_r1 (filtered_1277 : (List (List (List Int)))) : Rx (List (List (List Int))) :=
  .ok (filtered_1277)

def F_apply_offsets (settings' : St_Settings) (planes' : (List (List (List Int)))) (offsets' : (List PyData)) : Rx (List (List (List Int))) :=
  Rx.bind (F_copy_planes (planes')) fun v1177 => Rx.bind (forS (enumL (offsets')) (v1177) (fun s x => F_apply_offsets_b1 (settings') (planes') s x)) fun s => F_apply_offsets_r1  s

def F__law_cell (script' : (List Int)) (k' : Int) : Rx Int :=
  (if k' < (((script') : (List Int)).length : Int) then grd (-((script' : (List Int)).length : Int) ≤ k' ∧ k' < ((script' : (List Int)).length : Int)) <| .ok ((if (itD (script') (k')) < 0 then -(itD (script') (k')) else (itD (script') (k')))) else .ok (0))

def F__law_items_k2 (items_1327 : (List PyData)) (item_1328 : PyData) : Rx ((List PyData)) :=
  grd ((items_1327).length ≤ 1000000) <| bnd ((items_1327) ++ [item_1328]) fun y1378 => .ok (y1378)

def F__law_items_b1 (draws_1303 : (List Int)) (items_1320 : (List PyData)) (it1323 : Int) : Rx ((List PyData)) :=
  grd (-((draws_1303 : (List Int)).length : Int) ≤ it1323 ∧ it1323 < ((draws_1303 : (List Int)).length : Int)) <| bnd ((itD (draws_1303) (it1323))) fun draw_1325 => Rx.bind (((if 0 < (draw_1325 % 4) then .ok (((encT2 PyData.int (encL PyData.int)) ((((draw_1325 / 4) % 4), [(((draw_1325 / 16) % 15) - 7), (((draw_1325 / 31) % 15) - 7), (((draw_1325 / 67) % 15) - 7), (((draw_1325 / 131) % 15) - 7)])))) else .ok ((encN (())))) : Rx (PyData))) fun s => F__law_items_k2 (items_1320) s

def F__law_items_r1 (items_1387 : (List PyData)) : Rx PyData :=
  .ok (((encL encD) (items_1387)))

def F__law_items (cell' : Int) (planes' : Int) : Rx PyData :=
  Rx.bind (F__law_digits cell' 37800 ((planes' + 1))) fun v1280 => grd (-((v1280 : (List Int)).length : Int) ≤ planes' ∧ planes' < ((v1280 : (List Int)).length : Int)) <| (if (((itD (v1280) (planes')) % 7) : Int) = 0 then .ok ((encN (()))) else grd (-(2 ^ 62) ≤ (planes' : Int) ∧ (planes' : Int) < 2 ^ 62) <| Rx.bind (forS (rng (0) (Int.toNat (planes'))) (([] : (List PyData))) (fun s x => F__law_items_b1 (v1280) s x)) fun s => F__law_items_r1  s)

def F__law_sign (number' : Int) : Rx Int :=
  (if 0 < number' then .ok (1) else (if number' < 0 then .ok ((-1)) else .ok (0)))

def F__law_sample_b1 (rows_1463 : (List (List Int))) (x_1464 : Int) (y_1465 : Int) (it1497 : (Int × Int)) : Rx (Lp Unit Int) :=
  (if 0 ≤ it1497.1 then grd (-((rows_1463 : (List (List Int))).length : Int) ≤ 0 ∧ 0 < ((rows_1463 : (List (List Int))).length : Int)) <| (if it1497.1 < ((((itD (rows_1463) (0))) : (List Int)).length : Int) then (if 0 ≤ it1497.2 then (if it1497.2 < (((rows_1463) : (List (List Int))).length : Int) then .ok (.go ()) else grd (-((rows_1463 : (List (List Int))).length : Int) ≤ y_1465 ∧ y_1465 < ((rows_1463 : (List (List Int))).length : Int)) <| grd (-(((itD (rows_1463) (y_1465)) : (List Int)).length : Int) ≤ x_1464 ∧ x_1464 < (((itD (rows_1463) (y_1465)) : (List Int)).length : Int)) <| .ok (.rt ((itD ((itD (rows_1463) (y_1465))) (x_1464))))) else grd (-((rows_1463 : (List (List Int))).length : Int) ≤ y_1465 ∧ y_1465 < ((rows_1463 : (List (List Int))).length : Int)) <| grd (-(((itD (rows_1463) (y_1465)) : (List Int)).length : Int) ≤ x_1464 ∧ x_1464 < (((itD (rows_1463) (y_1465)) : (List Int)).length : Int)) <| .ok (.rt ((itD ((itD (rows_1463) (y_1465))) (x_1464))))) else grd (-((rows_1463 : (List (List Int))).length : Int) ≤ y_1465 ∧ y_1465 < ((rows_1463 : (List (List Int))).length : Int)) <| grd (-(((itD (rows_1463) (y_1465)) : (List Int)).length : Int) ≤ x_1464 ∧ x_1464 < (((itD (rows_1463) (y_1465)) : (List Int)).length : Int)) <| .ok (.rt ((itD ((itD (rows_1463) (y_1465))) (x_1464))))) else grd (-((rows_1463 : (List (List Int))).length : Int) ≤ y_1465 ∧ y_1465 < ((rows_1463 : (List (List Int))).length : Int)) <| grd (-(((itD (rows_1463) (y_1465)) : (List Int)).length : Int) ≤ x_1464 ∧ x_1464 < (((itD (rows_1463) (y_1465)) : (List Int)).length : Int)) <| .ok (.rt ((itD ((itD (rows_1463) (y_1465))) (x_1464)))))

def F__law_sample_r1 (rows_1466 : (List (List Int))) (x_1467 : Int) (y_1468 : Int) (item_1469 : (Int × (List Int))) (unit_1470 : Int) (top_1471 : Int) (across_1472 : Int) (down_1473 : Int) : Rx Int :=
  grd (-((rows_1466 : (List (List Int))).length : Int) ≤ y_1468 ∧ y_1468 < ((rows_1466 : (List (List Int))).length : Int)) <| grd (-(((itD (rows_1466) (y_1468)) : (List Int)).length : Int) ≤ x_1467 ∧ x_1467 < (((itD (rows_1466) (y_1468)) : (List Int)).length : Int)) <| grd (-((rows_1466 : (List (List Int))).length : Int) ≤ (y_1468 - down_1473) ∧ (y_1468 - down_1473) < ((rows_1466 : (List (List Int))).length : Int)) <| grd (-(((itD (rows_1466) ((y_1468 - down_1473))) : (List Int)).length : Int) ≤ (x_1467 - across_1472) ∧ (x_1467 - across_1472) < (((itD (rows_1466) ((y_1468 - down_1473))) : (List Int)).length : Int)) <| Rx.bind (F__law_sign (((itD ((itD (rows_1466) (y_1468))) (x_1467)) - (itD ((itD (rows_1466) ((y_1468 - down_1473)))) ((x_1467 - across_1472)))))) fun v1555 => grd (-((rows_1466 : (List (List Int))).length : Int) ≤ y_1468 ∧ y_1468 < ((rows_1466 : (List (List Int))).length : Int)) <| grd (-(((itD (rows_1466) (y_1468)) : (List Int)).length : Int) ≤ x_1467 ∧ x_1467 < (((itD (rows_1466) (y_1468)) : (List Int)).length : Int)) <| grd (-((rows_1466 : (List (List Int))).length : Int) ≤ (y_1468 + down_1473) ∧ (y_1468 + down_1473) < ((rows_1466 : (List (List Int))).length : Int)) <| grd (-(((itD (rows_1466) ((y_1468 + down_1473))) : (List Int)).length : Int) ≤ (x_1467 + across_1472) ∧ (x_1467 + across_1472) < (((itD (rows_1466) ((y_1468 + down_1473))) : (List Int)).length : Int)) <| Rx.bind (F__law_sign (((itD ((itD (rows_1466) (y_1468))) (x_1467)) - (itD ((itD (rows_1466) ((y_1468 + down_1473)))) ((x_1467 + across_1472)))))) fun v1570 => bnd ((v1555 + v1570)) fun kind_1571 => (if (kind_1571 : Int) = 0 then grd (-((rows_1466 : (List (List Int))).length : Int) ≤ y_1468 ∧ y_1468 < ((rows_1466 : (List (List Int))).length : Int)) <| grd (-(((itD (rows_1466) (y_1468)) : (List Int)).length : Int) ≤ x_1467 ∧ x_1467 < (((itD (rows_1466) (y_1468)) : (List Int)).length : Int)) <| .ok ((itD ((itD (rows_1466) (y_1468))) (x_1467))) else grd (-(([0, 1, 4, 2, 3] : (List Int)).length : Int) ≤ (kind_1571 + 2) ∧ (kind_1571 + 2) < (([0, 1, 4, 2, 3] : (List Int)).length : Int)) <| grd (-((item_1469.2 : (List Int)).length : Int) ≤ (itD ([0, 1, 4, 2, 3]) ((kind_1571 + 2))) ∧ (itD ([0, 1, 4, 2, 3]) ((kind_1571 + 2))) < ((item_1469.2 : (List Int)).length : Int)) <| bnd ((itD (item_1469.2) ((itD ([0, 1, 4, 2, 3]) ((kind_1571 + 2)))))) fun number_1591 => grd (-((rows_1466 : (List (List Int))).length : Int) ≤ y_1468 ∧ y_1468 < ((rows_1466 : (List (List Int))).length : Int)) <| grd (-(((itD (rows_1466) (y_1468)) : (List Int)).length : Int) ≤ x_1467 ∧ x_1467 < (((itD (rows_1466) (y_1468)) : (List Int)).length : Int)) <| grd ((-(2 ^ 64) < (number_1591 : Int) ∧ (number_1591 : Int) < 2 ^ 64) ∨ (-(2 ^ 64) < (unit_1470 : Int) ∧ (unit_1470 : Int) < 2 ^ 64)) <| .ok ((if (if ((itD ((itD (rows_1466) (y_1468))) (x_1467)) + (number_1591 * unit_1470)) < top_1471 then ((itD ((itD (rows_1466) (y_1468))) (x_1467)) + (number_1591 * unit_1470)) else top_1471) > 0 then (if ((itD ((itD (rows_1466) (y_1468))) (x_1467)) + (number_1591 * unit_1470)) < top_1471 then ((itD ((itD (rows_1466) (y_1468))) (x_1467)) + (number_1591 * unit_1470)) else top_1471) else 0)))

def F__law_sample (rows' : (List (List Int))) (x' : Int) (y' : Int) (item' : (Int × (List Int))) (unit' : Int) (top' : Int) : Rx Int :=
  grd (-(([1, 0, 1, 1] : (List Int)).length : Int) ≤ item'.1 ∧ item'.1 < (([1, 0, 1, 1] : (List Int)).length : Int)) <| bnd ((itD ([1, 0, 1, 1]) (item'.1))) fun across_1417 => grd (-(([0, 1, 1, (-1)] : (List Int)).length : Int) ≤ item'.1 ∧ item'.1 < (([0, 1, 1, (-1)] : (List Int)).length : Int)) <| bnd ((itD ([0, 1, 1, (-1)]) (item'.1))) fun down_1428 => Rx.bind (forR ([((x' - across_1417), (y' - down_1428)), ((x' + across_1417), (y' + down_1428))]) () (fun s x => F__law_sample_b1 (rows') (x') (y')  x)) fun l => l.aft Rx.ok fun s => F__law_sample_r1 (rows') (x') (y') (item') (unit') (top') (across_1417) (down_1428) 

def F__law_due_c2 (rows_1726 : (List (List Int))) (plane_1727 : Int) (unit_1728 : Int) (top_1729 : Int) (y_1730 : Int) (items_1731 : (List PyData)) (it1762 : Int) : Rx Int :=
  grd (-((items_1731 : (List PyData)).length : Int) ≤ plane_1727 ∧ plane_1727 < ((items_1731 : (List PyData)).length : Int)) <| grd (((cT2 cI (cL cI))).ok ((itD (items_1731) (plane_1727))) = true) <| Rx.bind (F__law_sample (rows_1726) it1762 y_1730 ((((cT2 cI (cL cI))).dec ((itD (items_1731) (plane_1727))))) unit_1728 top_1729) fun v1777 => .ok v1777

def F__law_due_b1 (rows_1619 : (List (List Int))) (small_1620 : Int) (high_1621 : Int) (offsets_1622 : (List PyData)) (plane_1623 : Int) (unit_1624 : Int) (top_1625 : Int) (out_1639 : (List (List Int))) (it1642 : Int) : Rx ((List (List Int))) :=
  grd (0 < (small_1620 : Int) ∧ (small_1620 : Int) < 2 ^ 128) <| grd (0 < (high_1621 : Int) ∧ (high_1621 : Int) < 2 ^ 128) <| grd (-((offsets_1622 : (List PyData)).length : Int) ≤ ((it1642 / small_1620) / high_1621) ∧ ((it1642 / small_1620) / high_1621) < ((offsets_1622 : (List PyData)).length : Int)) <| (if (dNone ((itD (offsets_1622) (((it1642 / small_1620) / high_1621))))) = true then grd (-((rows_1619 : (List (List Int))).length : Int) ≤ it1642 ∧ it1642 < ((rows_1619 : (List (List Int))).length : Int)) <| grd ((out_1639).length ≤ 1000000) <| bnd ((out_1639) ++ [(itD (rows_1619) (it1642))]) fun y1678 => .ok (y1678) else grd (((cL cD)).ok ((itD (offsets_1622) (((it1642 / small_1620) / high_1621)))) = true) <| grd (-(((((cL cD)).dec ((itD (offsets_1622) (((it1642 / small_1620) / high_1621))))) : (List PyData)).length : Int) ≤ plane_1623 ∧ plane_1623 < (((((cL cD)).dec ((itD (offsets_1622) (((it1642 / small_1620) / high_1621))))) : (List PyData)).length : Int)) <| (if (dNone ((itD ((((cL cD)).dec ((itD (offsets_1622) (((it1642 / small_1620) / high_1621)))))) (plane_1623)))) = true then grd (-((rows_1619 : (List (List Int))).length : Int) ≤ it1642 ∧ it1642 < ((rows_1619 : (List (List Int))).length : Int)) <| grd ((out_1639).length ≤ 1000000) <| bnd ((out_1639) ++ [(itD (rows_1619) (it1642))]) fun y1718 => .ok (y1718) else grd (-((rows_1619 : (List (List Int))).length : Int) ≤ it1642 ∧ it1642 < ((rows_1619 : (List (List Int))).length : Int)) <| grd (-(2 ^ 62) ≤ (((((itD (rows_1619) (it1642))) : (List Int)).length : Int) : Int) ∧ (((((itD (rows_1619) (it1642))) : (List Int)).length : Int) : Int) < 2 ^ 62) <| Rx.bind (mapA (rng (0) (Int.toNat (((((itD (rows_1619) (it1642))) : (List Int)).length : Int)))) [] (fun x => noEr (F__law_due_c2 (rows_1619) (plane_1623) (unit_1624) (top_1625) (it1642) ((((cL cD)).dec ((itD (offsets_1622) (((it1642 / small_1620) / high_1621)))))) x))) fun v1732 => grd ((out_1639).length ≤ 1000000) <| bnd ((out_1639) ++ [v1732]) fun y1814 => .ok (y1814)))

def F__law_due_r1 (out_1821 : (List (List Int))) : Rx (List (List Int)) :=
  .ok (out_1821)

def F__law_due (rows' : (List (List Int))) (small' : Int) (high' : Int) (offsets' : (List PyData)) (plane' : Int) (unit' : Int) (top' : Int) : Rx (List (List Int)) :=
  grd (-(2 ^ 62) ≤ ((((rows') : (List (List Int))).length : Int) : Int) ∧ ((((rows') : (List (List Int))).length : Int) : Int) < 2 ^ 62) <| Rx.bind (forS (rng (0) (Int.toNat ((((rows') : (List (List Int))).length : Int)))) (([] : (List (List Int)))) (fun s x => F__law_due_b1 (rows') (small') (high') (offsets') (plane') (unit') (top') s x)) fun s => F__law_due_r1  s

def F_law_b2 (script_1914 : (List Int)) (fmt_1915 : St_Format) (offsets_1939 : (List PyData)) (it1942 : Int) : Rx ((List PyData)) :=
  Rx.bind (F__law_cell (script_1914) ((2 + it1942))) fun v1943 => Rx.bind (noEr (F_Format_planes (fmt_1915))) fun v1944 => Rx.bind (F__law_items ((v1943 + (3 * it1942))) v1944) fun v1948 => grd ((offsets_1939).length ≤ 1000000) <| bnd ((offsets_1939) ++ [v1948]) fun y1967 => .ok (y1967)

def F_law_c3 (fmt_2001 : St_Format) (it2055 : PyData) : Rx PyData :=
  (if (dNone (it2055)) = true then .ok ((encN (()))) else Rx.bind (F_Format_planes (fmt_2001)) fun v2079 => grd (-(2 ^ 63) ≤ (v2079 : Int) ∧ (v2079 : Int) < 2 ^ 63 ∧ ([(encN (()))] : (List PyData)).length * Int.toNat (v2079) ≤ 1000000) <| .ok (((encL encD) (repL ([(encN (()))]) (v2079)))))

def F_law_c7 (it2333 : Int) : Rx Int :=
  .ok ((it2333 % 3))

def F_law_c6 (it2274 : (List Int)) : Rx (List Int) :=
  Rx.bind (mapA (it2274) [] (fun x => noEr (F_law_c7  x))) fun v2275 => .ok v2275

def F_law_c5 (it2215 : (List (List Int))) : Rx (List (List Int)) :=
  Rx.bind (mapA (it2215) [] (fun x => noEr (F_law_c6  x))) fun v2216 => .ok v2216

def F_law_k9 (fmt_2512 : St_Format) (high_2513 : Int) (offsets_2514 : (List PyData)) (planes_2515 : (List (List (List Int)))) (due_2516 : (List (List (List Int)))) (plane_2517 : Int) (small_2518 : Int) : Rx ((List (List (List Int)))) :=
  grd (-((planes_2515 : (List (List (List Int)))).length : Int) ≤ plane_2517 ∧ plane_2517 < ((planes_2515 : (List (List (List Int)))).length : Int)) <| grd ((0 : Int) ≤ (fmt_2512.depth - 8) ∧ ((fmt_2512.depth - 8) : Int) ≤ 4096 ∧ -(2 ^ 4096) < (1 : Int) ∧ (1 : Int) < 2 ^ 4096) <| Rx.bind (noEr (F_Format_top (fmt_2512))) fun v2541 => Rx.bind (F__law_due ((itD (planes_2515) (plane_2517))) small_2518 high_2513 (offsets_2514) plane_2517 ((1 * 2 ^ Int.toNat ((fmt_2512.depth - 8)))) v2541) fun v2545 => grd ((due_2516).length ≤ 1000000) <| bnd ((due_2516) ++ [v2545]) fun y2568 => .ok (y2568)

def F_law_b8 (fmt_2479 : St_Format) (high_2480 : Int) (offsets_2481 : (List PyData)) (planes_2482 : (List (List (List Int)))) (due_2508 : (List (List (List Int)))) (it2511 : Int) : Rx ((List (List (List Int)))) :=
  Rx.bind (((if 0 < it2511 then (if (fmt_2479.chroma : Int) = 1 then .ok (4) else .ok (8)) else .ok (8)) : Rx (Int))) fun s => F_law_k9 (fmt_2479) (high_2480) (offsets_2481) (planes_2482) (due_2508) (it2511) s

def F_law_b11 (plane_2678 : Int) (told_2701 : (List (List (List Int)))) (it2704 : Int) : Rx ((List (List (List Int)))) :=
  grd (-((told_2701 : (List (List (List Int)))).length : Int) ≤ plane_2678 ∧ plane_2678 < ((told_2701 : (List (List (List Int)))).length : Int)) <| grd (-(((itD (told_2701) (plane_2678)) : (List (List Int))).length : Int) ≤ it2704 ∧ it2704 < (((itD (told_2701) (plane_2678)) : (List (List Int))).length : Int)) <| grd (-(((itD ((itD (told_2701) (plane_2678))) (it2704)) : (List Int)).length : Int) ≤ 0 ∧ 0 < (((itD ((itD (told_2701) (plane_2678))) (it2704)) : (List Int)).length : Int)) <| bnd (setL ((itD (told_2701) (plane_2678))) (it2704) (setL ((itD ((itD (told_2701) (plane_2678))) (it2704))) (0) ((-1)))) fun y2737 => bnd (setL (told_2701) (plane_2678) (y2737)) fun y2740 => .ok (y2740)

def F_law_r11 (told_2761 : (List (List (List Int)))) : Rx ((List (List (List Int)))) :=
  .ok (told_2761)

def F_law_b10 (told_2659 : (List (List (List Int)))) (it2662 : Int) : Rx ((List (List (List Int)))) :=
  grd (-((told_2659 : (List (List (List Int)))).length : Int) ≤ it2662 ∧ it2662 < ((told_2659 : (List (List (List Int)))).length : Int)) <| grd (-(2 ^ 62) ≤ (((((itD (told_2659) (it2662))) : (List (List Int))).length : Int) : Int) ∧ (((((itD (told_2659) (it2662))) : (List (List Int))).length : Int) : Int) < 2 ^ 62) <| Rx.bind (forS (rng (0) (Int.toNat (((((itD (told_2659) (it2662))) : (List (List Int))).length : Int)))) (told_2659) (fun s x => F_law_b11 (it2662) s x)) fun s => F_law_r11  s

def F_law_c13 (rows_2843 : (List (List Int))) (it2886 : Int) : Rx (List Int) :=
  grd (-((rows_2843 : (List (List Int))).length : Int) ≤ (((((rows_2843) : (List (List Int))).length : Int) - 1) - it2886) ∧ (((((rows_2843) : (List (List Int))).length : Int) - 1) - it2886) < ((rows_2843 : (List (List Int))).length : Int)) <| .ok ((itD (rows_2843) ((((((rows_2843) : (List (List Int))).length : Int) - 1) - it2886))))

def F_law_c12 (it2841 : (List (List Int))) : Rx (List (List Int)) :=
  grd (-(2 ^ 62) ≤ ((((it2841) : (List (List Int))).length : Int) : Int) ∧ ((((it2841) : (List (List Int))).length : Int) : Int) < 2 ^ 62) <| Rx.bind (mapA (rng (0) (Int.toNat ((((it2841) : (List (List Int))).length : Int)))) [] (fun x => noEr (F_law_c13 (it2841) x))) fun v2844 => .ok v2844

def F_law_b14 (fmt_2998 : St_Format) (high_2999 : Int) (offsets_3000 : (List PyData)) (turned_3001 : (List (List (List Int)))) (again_3002 : (List (List (List Int)))) (it3035 : Int) : Rx (Lp Unit Bool) :=
  (if 0 < it3035 then (if (fmt_2998.chroma : Int) = 1 then grd (-((again_3002 : (List (List (List Int)))).length : Int) ≤ it3035 ∧ it3035 < ((again_3002 : (List (List (List Int)))).length : Int)) <| grd (-((turned_3001 : (List (List (List Int)))).length : Int) ≤ it3035 ∧ it3035 < ((turned_3001 : (List (List (List Int)))).length : Int)) <| grd ((0 : Int) ≤ (fmt_2998.depth - 8) ∧ ((fmt_2998.depth - 8) : Int) ≤ 4096 ∧ -(2 ^ 4096) < (1 : Int) ∧ (1 : Int) < 2 ^ 4096) <| Rx.bind (noEr (F_Format_top (fmt_2998))) fun v3061 => Rx.bind (F__law_due ((itD (turned_3001) (it3035))) 4 high_2999 (offsets_3000) it3035 ((1 * 2 ^ Int.toNat ((fmt_2998.depth - 8)))) v3061) fun v3065 => (if ((itD (again_3002) (it3035)) : (List (List Int))) = v3065 then .ok (.go ()) else .ok (.rt (false))) else grd (-((again_3002 : (List (List (List Int)))).length : Int) ≤ it3035 ∧ it3035 < ((again_3002 : (List (List (List Int)))).length : Int)) <| grd (-((turned_3001 : (List (List (List Int)))).length : Int) ≤ it3035 ∧ it3035 < ((turned_3001 : (List (List (List Int)))).length : Int)) <| grd ((0 : Int) ≤ (fmt_2998.depth - 8) ∧ ((fmt_2998.depth - 8) : Int) ≤ 4096 ∧ -(2 ^ 4096) < (1 : Int) ∧ (1 : Int) < 2 ^ 4096) <| Rx.bind (noEr (F_Format_top (fmt_2998))) fun v3114 => Rx.bind (F__law_due ((itD (turned_3001) (it3035))) 8 high_2999 (offsets_3000) it3035 ((1 * 2 ^ Int.toNat ((fmt_2998.depth - 8)))) v3114) fun v3118 => (if ((itD (again_3002) (it3035)) : (List (List Int))) = v3118 then .ok (.go ()) else .ok (.rt (false)))) else grd (-((again_3002 : (List (List (List Int)))).length : Int) ≤ it3035 ∧ it3035 < ((again_3002 : (List (List (List Int)))).length : Int)) <| grd (-((turned_3001 : (List (List (List Int)))).length : Int) ≤ it3035 ∧ it3035 < ((turned_3001 : (List (List (List Int)))).length : Int)) <| grd ((0 : Int) ≤ (fmt_2998.depth - 8) ∧ ((fmt_2998.depth - 8) : Int) ≤ 4096 ∧ -(2 ^ 4096) < (1 : Int) ∧ (1 : Int) < 2 ^ 4096) <| Rx.bind (noEr (F_Format_top (fmt_2998))) fun v3167 => Rx.bind (F__law_due ((itD (turned_3001) (it3035))) 8 high_2999 (offsets_3000) it3035 ((1 * 2 ^ Int.toNat ((fmt_2998.depth - 8)))) v3167) fun v3171 => (if ((itD (again_3002) (it3035)) : (List (List Int))) = v3171 then .ok (.go ()) else .ok (.rt (false))))

def F_law_r14 (offsets_3003 : (List PyData)) (planes_3004 : (List (List (List Int)))) (kept_3005 : Str) : Rx Bool :=
  grd (ShowOk ((encL encD) ([((encL (encL (encL PyData.int))) (planes_3004)), ((encL encD) (offsets_3003))]))) <| .ok (decide (V.str ((PyData.shown ((encL encD) ([((encL (encL (encL PyData.int))) (planes_3004)), ((encL encD) (offsets_3003))])))) = V.str (kept_3005)))

def F_law_r10 (high_2625 : Int) (settings_2626 : St_Settings) (offsets_2627 : (List PyData)) (planes_2628 : (List (List (List Int)))) (kept_2629 : Str) (told_2777 : (List (List (List Int)))) : Rx Bool :=
  Rx.bind (mapA (planes_2628) [] (fun x => noEr (F_law_c12  x))) fun v2778 => Rx.bind (F_apply_offsets (settings_2626) (v2778) (offsets_2627)) fun v2973 => Rx.bind (noEr (F_Format_planes (settings_2626.fmt))) fun v2993 => grd (-(2 ^ 62) ≤ (v2993 : Int) ∧ (v2993 : Int) < 2 ^ 62) <| Rx.bind (forR (rng (0) (Int.toNat (v2993))) () (fun s x => F_law_b14 (settings_2626.fmt) (high_2625) (offsets_2627) (v2778) (v2973)  x)) fun l => l.aft Rx.ok fun s => F_law_r14 (offsets_2627) (planes_2628) (kept_2629) 

def F_law_r8 (high_2483 : Int) (settings_2484 : St_Settings) (offsets_2485 : (List PyData)) (planes_2486 : (List (List (List Int)))) (kept_2487 : Str) (due_2581 : (List (List (List Int)))) : Rx Bool :=
  Rx.bind (F_apply_offsets (settings_2484) (planes_2486) (offsets_2485)) fun v2582 => grd (ShowOk ((encL encD) ([((encL (encL (encL PyData.int))) (planes_2486)), ((encL encD) (offsets_2485))]))) <| (if V.str ((PyData.shown ((encL encD) ([((encL (encL (encL PyData.int))) (planes_2486)), ((encL encD) (offsets_2485))])))) = V.str (kept_2487) then (if (v2582 : (List (List (List Int)))) = due_2581 then Rx.bind (noEr (F_Format_planes (settings_2484.fmt))) fun v2620 => grd (-(2 ^ 62) ≤ (v2620 : Int) ∧ (v2620 : Int) < 2 ^ 62) <| Rx.bind (forS (rng (0) (Int.toNat (v2620))) (v2582) (fun s x => F_law_b10  s x)) fun s => F_law_r10 (high_2483) (settings_2484) (offsets_2485) (planes_2486) (kept_2487) s else .ok (false)) else .ok (false))

def F_law_k4 (high_2147 : Int) (settings_2148 : St_Settings) (offsets_2149 : (List PyData)) (planes_2150 : (List (List (List Int)))) : Rx Bool :=
  grd (ShowOk ((encL encD) ([((encL (encL (encL PyData.int))) (planes_2150)), ((encL encD) (offsets_2149))]))) <| Rx.bind (noEr (F_Format_planes (settings_2148.fmt))) fun v2474 => grd (-(2 ^ 62) ≤ (v2474 : Int) ∧ (v2474 : Int) < 2 ^ 62) <| Rx.bind (forS (rng (0) (Int.toNat (v2474))) (([] : (List (List (List Int))))) (fun s x => F_law_b8 (settings_2148.fmt) (high_2147) (offsets_2149) (planes_2150) s x)) fun s => F_law_r8 (high_2147) (settings_2148) (offsets_2149) (planes_2150) ((PyData.shown ((encL encD) ([((encL (encL (encL PyData.int))) (planes_2150)), ((encL encD) (offsets_2149))])))) s

def F_law_c18 (it3429 : Int) : Rx Int :=
  .ok ((it3429 % 3))

def F_law_c17 (it3370 : (List Int)) : Rx (List Int) :=
  Rx.bind (mapA (it3370) [] (fun x => noEr (F_law_c18  x))) fun v3371 => .ok v3371

def F_law_c16 (it3311 : (List (List Int))) : Rx (List (List Int)) :=
  Rx.bind (mapA (it3311) [] (fun x => noEr (F_law_c17  x))) fun v3312 => .ok v3312

def F_law_k20 (fmt_3608 : St_Format) (high_3609 : Int) (offsets_3610 : (List PyData)) (planes_3611 : (List (List (List Int)))) (due_3612 : (List (List (List Int)))) (plane_3613 : Int) (small_3614 : Int) : Rx ((List (List (List Int)))) :=
  grd (-((planes_3611 : (List (List (List Int)))).length : Int) ≤ plane_3613 ∧ plane_3613 < ((planes_3611 : (List (List (List Int)))).length : Int)) <| grd ((0 : Int) ≤ (fmt_3608.depth - 8) ∧ ((fmt_3608.depth - 8) : Int) ≤ 4096 ∧ -(2 ^ 4096) < (1 : Int) ∧ (1 : Int) < 2 ^ 4096) <| Rx.bind (noEr (F_Format_top (fmt_3608))) fun v3637 => Rx.bind (F__law_due ((itD (planes_3611) (plane_3613))) small_3614 high_3609 (offsets_3610) plane_3613 ((1 * 2 ^ Int.toNat ((fmt_3608.depth - 8)))) v3637) fun v3641 => grd ((due_3612).length ≤ 1000000) <| bnd ((due_3612) ++ [v3641]) fun y3664 => .ok (y3664)

def F_law_b19 (fmt_3575 : St_Format) (high_3576 : Int) (offsets_3577 : (List PyData)) (planes_3578 : (List (List (List Int)))) (due_3604 : (List (List (List Int)))) (it3607 : Int) : Rx ((List (List (List Int)))) :=
  Rx.bind (((if 0 < it3607 then (if (fmt_3575.chroma : Int) = 1 then .ok (4) else .ok (8)) else .ok (8)) : Rx (Int))) fun s => F_law_k20 (fmt_3575) (high_3576) (offsets_3577) (planes_3578) (due_3604) (it3607) s

def F_law_b22 (plane_3774 : Int) (told_3797 : (List (List (List Int)))) (it3800 : Int) : Rx ((List (List (List Int)))) :=
  grd (-((told_3797 : (List (List (List Int)))).length : Int) ≤ plane_3774 ∧ plane_3774 < ((told_3797 : (List (List (List Int)))).length : Int)) <| grd (-(((itD (told_3797) (plane_3774)) : (List (List Int))).length : Int) ≤ it3800 ∧ it3800 < (((itD (told_3797) (plane_3774)) : (List (List Int))).length : Int)) <| grd (-(((itD ((itD (told_3797) (plane_3774))) (it3800)) : (List Int)).length : Int) ≤ 0 ∧ 0 < (((itD ((itD (told_3797) (plane_3774))) (it3800)) : (List Int)).length : Int)) <| bnd (setL ((itD (told_3797) (plane_3774))) (it3800) (setL ((itD ((itD (told_3797) (plane_3774))) (it3800))) (0) ((-1)))) fun y3833 => bnd (setL (told_3797) (plane_3774) (y3833)) fun y3836 => .ok (y3836)

def F_law_r22 (told_3857 : (List (List (List Int)))) : Rx ((List (List (List Int)))) :=
  .ok (told_3857)

def F_law_b21 (told_3755 : (List (List (List Int)))) (it3758 : Int) : Rx ((List (List (List Int)))) :=
  grd (-((told_3755 : (List (List (List Int)))).length : Int) ≤ it3758 ∧ it3758 < ((told_3755 : (List (List (List Int)))).length : Int)) <| grd (-(2 ^ 62) ≤ (((((itD (told_3755) (it3758))) : (List (List Int))).length : Int) : Int) ∧ (((((itD (told_3755) (it3758))) : (List (List Int))).length : Int) : Int) < 2 ^ 62) <| Rx.bind (forS (rng (0) (Int.toNat (((((itD (told_3755) (it3758))) : (List (List Int))).length : Int)))) (told_3755) (fun s x => F_law_b22 (it3758) s x)) fun s => F_law_r22  s

def F_law_c24 (rows_3939 : (List (List Int))) (it3982 : Int) : Rx (List Int) :=
  grd (-((rows_3939 : (List (List Int))).length : Int) ≤ (((((rows_3939) : (List (List Int))).length : Int) - 1) - it3982) ∧ (((((rows_3939) : (List (List Int))).length : Int) - 1) - it3982) < ((rows_3939 : (List (List Int))).length : Int)) <| .ok ((itD (rows_3939) ((((((rows_3939) : (List (List Int))).length : Int) - 1) - it3982))))

def F_law_c23 (it3937 : (List (List Int))) : Rx (List (List Int)) :=
  grd (-(2 ^ 62) ≤ ((((it3937) : (List (List Int))).length : Int) : Int) ∧ ((((it3937) : (List (List Int))).length : Int) : Int) < 2 ^ 62) <| Rx.bind (mapA (rng (0) (Int.toNat ((((it3937) : (List (List Int))).length : Int)))) [] (fun x => noEr (F_law_c24 (it3937) x))) fun v3940 => .ok v3940

def F_law_b25 (fmt_4094 : St_Format) (high_4095 : Int) (offsets_4096 : (List PyData)) (turned_4097 : (List (List (List Int)))) (again_4098 : (List (List (List Int)))) (it4131 : Int) : Rx (Lp Unit Bool) :=
  (if 0 < it4131 then (if (fmt_4094.chroma : Int) = 1 then grd (-((again_4098 : (List (List (List Int)))).length : Int) ≤ it4131 ∧ it4131 < ((again_4098 : (List (List (List Int)))).length : Int)) <| grd (-((turned_4097 : (List (List (List Int)))).length : Int) ≤ it4131 ∧ it4131 < ((turned_4097 : (List (List (List Int)))).length : Int)) <| grd ((0 : Int) ≤ (fmt_4094.depth - 8) ∧ ((fmt_4094.depth - 8) : Int) ≤ 4096 ∧ -(2 ^ 4096) < (1 : Int) ∧ (1 : Int) < 2 ^ 4096) <| Rx.bind (noEr (F_Format_top (fmt_4094))) fun v4157 => Rx.bind (F__law_due ((itD (turned_4097) (it4131))) 4 high_4095 (offsets_4096) it4131 ((1 * 2 ^ Int.toNat ((fmt_4094.depth - 8)))) v4157) fun v4161 => (if ((itD (again_4098) (it4131)) : (List (List Int))) = v4161 then .ok (.go ()) else .ok (.rt (false))) else grd (-((again_4098 : (List (List (List Int)))).length : Int) ≤ it4131 ∧ it4131 < ((again_4098 : (List (List (List Int)))).length : Int)) <| grd (-((turned_4097 : (List (List (List Int)))).length : Int) ≤ it4131 ∧ it4131 < ((turned_4097 : (List (List (List Int)))).length : Int)) <| grd ((0 : Int) ≤ (fmt_4094.depth - 8) ∧ ((fmt_4094.depth - 8) : Int) ≤ 4096 ∧ -(2 ^ 4096) < (1 : Int) ∧ (1 : Int) < 2 ^ 4096) <| Rx.bind (noEr (F_Format_top (fmt_4094))) fun v4210 => Rx.bind (F__law_due ((itD (turned_4097) (it4131))) 8 high_4095 (offsets_4096) it4131 ((1 * 2 ^ Int.toNat ((fmt_4094.depth - 8)))) v4210) fun v4214 => (if ((itD (again_4098) (it4131)) : (List (List Int))) = v4214 then .ok (.go ()) else .ok (.rt (false)))) else grd (-((again_4098 : (List (List (List Int)))).length : Int) ≤ it4131 ∧ it4131 < ((again_4098 : (List (List (List Int)))).length : Int)) <| grd (-((turned_4097 : (List (List (List Int)))).length : Int) ≤ it4131 ∧ it4131 < ((turned_4097 : (List (List (List Int)))).length : Int)) <| grd ((0 : Int) ≤ (fmt_4094.depth - 8) ∧ ((fmt_4094.depth - 8) : Int) ≤ 4096 ∧ -(2 ^ 4096) < (1 : Int) ∧ (1 : Int) < 2 ^ 4096) <| Rx.bind (noEr (F_Format_top (fmt_4094))) fun v4263 => Rx.bind (F__law_due ((itD (turned_4097) (it4131))) 8 high_4095 (offsets_4096) it4131 ((1 * 2 ^ Int.toNat ((fmt_4094.depth - 8)))) v4263) fun v4267 => (if ((itD (again_4098) (it4131)) : (List (List Int))) = v4267 then .ok (.go ()) else .ok (.rt (false))))

def F_law_r25 (offsets_4099 : (List PyData)) (planes_4100 : (List (List (List Int)))) (kept_4101 : Str) : Rx Bool :=
  grd (ShowOk ((encL encD) ([((encL (encL (encL PyData.int))) (planes_4100)), ((encL encD) (offsets_4099))]))) <| .ok (decide (V.str ((PyData.shown ((encL encD) ([((encL (encL (encL PyData.int))) (planes_4100)), ((encL encD) (offsets_4099))])))) = V.str (kept_4101)))

def F_law_r21 (high_3721 : Int) (settings_3722 : St_Settings) (offsets_3723 : (List PyData)) (planes_3724 : (List (List (List Int)))) (kept_3725 : Str) (told_3873 : (List (List (List Int)))) : Rx Bool :=
  Rx.bind (mapA (planes_3724) [] (fun x => noEr (F_law_c23  x))) fun v3874 => Rx.bind (F_apply_offsets (settings_3722) (v3874) (offsets_3723)) fun v4069 => Rx.bind (noEr (F_Format_planes (settings_3722.fmt))) fun v4089 => grd (-(2 ^ 62) ≤ (v4089 : Int) ∧ (v4089 : Int) < 2 ^ 62) <| Rx.bind (forR (rng (0) (Int.toNat (v4089))) () (fun s x => F_law_b25 (settings_3722.fmt) (high_3721) (offsets_3723) (v3874) (v4069)  x)) fun l => l.aft Rx.ok fun s => F_law_r25 (offsets_3723) (planes_3724) (kept_3725) 

def F_law_r19 (high_3579 : Int) (settings_3580 : St_Settings) (offsets_3581 : (List PyData)) (planes_3582 : (List (List (List Int)))) (kept_3583 : Str) (due_3677 : (List (List (List Int)))) : Rx Bool :=
  Rx.bind (F_apply_offsets (settings_3580) (planes_3582) (offsets_3581)) fun v3678 => grd (ShowOk ((encL encD) ([((encL (encL (encL PyData.int))) (planes_3582)), ((encL encD) (offsets_3581))]))) <| (if V.str ((PyData.shown ((encL encD) ([((encL (encL (encL PyData.int))) (planes_3582)), ((encL encD) (offsets_3581))])))) = V.str (kept_3583) then (if (v3678 : (List (List (List Int)))) = due_3677 then Rx.bind (noEr (F_Format_planes (settings_3580.fmt))) fun v3716 => grd (-(2 ^ 62) ≤ (v3716 : Int) ∧ (v3716 : Int) < 2 ^ 62) <| Rx.bind (forS (rng (0) (Int.toNat (v3716))) (v3678) (fun s x => F_law_b21  s x)) fun s => F_law_r21 (high_3579) (settings_3580) (offsets_3581) (planes_3582) (kept_3583) s else .ok (false)) else .ok (false))

def F_law_k15 (high_3243 : Int) (settings_3244 : St_Settings) (offsets_3245 : (List PyData)) (planes_3246 : (List (List (List Int)))) : Rx Bool :=
  grd (ShowOk ((encL encD) ([((encL (encL (encL PyData.int))) (planes_3246)), ((encL encD) (offsets_3245))]))) <| Rx.bind (noEr (F_Format_planes (settings_3244.fmt))) fun v3570 => grd (-(2 ^ 62) ≤ (v3570 : Int) ∧ (v3570 : Int) < 2 ^ 62) <| Rx.bind (forS (rng (0) (Int.toNat (v3570))) (([] : (List (List (List Int))))) (fun s x => F_law_b19 (settings_3244.fmt) (high_3243) (offsets_3245) (planes_3246) s x)) fun s => F_law_r19 (high_3243) (settings_3244) (offsets_3245) (planes_3246) ((PyData.shown ((encL encD) ([((encL (encL (encL PyData.int))) (planes_3246)), ((encL encD) (offsets_3245))])))) s

def F_law_r2 (script_1916 : (List Int)) (first_1917 : (List Int)) (high_1918 : Int) (settings_1919 : St_Settings) (offsets_1980 : (List PyData)) : Rx Bool :=
  grd (-((first_1917 : (List Int)).length : Int) ≤ 5 ∧ 5 < ((first_1917 : (List Int)).length : Int)) <| (if ((((itD (first_1917) (5)) / 3) % 4) : Int) = 0 then Rx.bind (F_Settings___init__ (settings_1919.fmt) 1 high_1918 false false 1) fun v1995 => Rx.bind (mapA (offsets_1980) [] (fun x => noEr (F_law_c3 (settings_1919.fmt) x))) fun v2002 => Rx.bind (F__law_cell (script_1916) 1) fun v2127 => Rx.bind (noEr (F_Format_top (settings_1919.fmt))) fun v2128 => Rx.bind (F__law_planes v2127 (settings_1919.fmt) v2128) fun v2133 => Rx.bind ((grd (-((first_1917 : (List Int)).length : Int) ≤ 5 ∧ 5 < ((first_1917 : (List Int)).length : Int)) <| (if (((itD (first_1917) (5)) % 3) : Int) = 0 then Rx.bind (mapA (v2133) [] (fun x => noEr (F_law_c5  x))) fun v2158 => .ok (v2158) else .ok (v2133)) : Rx ((List (List (List Int)))))) fun s => F_law_k4 (high_1918) ((⟨settings_1919.fmt, v1995.slots, v1995.rows, v1995.deblock, v1995.offset, v1995.layers⟩ : St_Settings)) (v2002) s else Rx.bind (F__law_cell (script_1916) 1) fun v3223 => Rx.bind (noEr (F_Format_top (settings_1919.fmt))) fun v3224 => Rx.bind (F__law_planes v3223 (settings_1919.fmt) v3224) fun v3229 => Rx.bind ((grd (-((first_1917 : (List Int)).length : Int) ≤ 5 ∧ 5 < ((first_1917 : (List Int)).length : Int)) <| (if (((itD (first_1917) (5)) % 3) : Int) = 0 then Rx.bind (mapA (v3229) [] (fun x => noEr (F_law_c16  x))) fun v3254 => .ok (v3254) else .ok (v3229)) : Rx ((List (List (List Int)))))) fun s => F_law_k15 (high_1918) (settings_1919) (offsets_1980) s)

def F_law_k1 (script_1840 : (List Int)) (first_1841 : (List Int)) (width_1842 : Int) (height_1843 : Int) : Rx Bool :=
  grd (-((first_1841 : (List Int)).length : Int) ≤ 2 ∧ 2 < ((first_1841 : (List Int)).length : Int)) <| grd (-((first_1841 : (List Int)).length : Int) ≤ 3 ∧ 3 < ((first_1841 : (List Int)).length : Int)) <| Rx.bind (F_Format___init__ width_1842 height_1843 ((8 + ((itD (first_1841) (2)) % 5))) (((itD (first_1841) (3)) % 3))) fun v1872 => grd (-((first_1841 : (List Int)).length : Int) ≤ 4 ∧ 4 < ((first_1841 : (List Int)).length : Int)) <| bnd ((1 + ((itD (first_1841) (4)) % 5))) fun high_1879 => Rx.bind (F_Settings___init__ (v1872) 1 high_1879 false true 1) fun v1892 => Rx.bind (F_Settings_slices ((⟨v1872, v1892.slots, v1892.rows, v1892.deblock, v1892.offset, v1892.layers⟩ : St_Settings))) fun v1909 => grd (-(2 ^ 62) ≤ (v1909 : Int) ∧ (v1909 : Int) < 2 ^ 62) <| Rx.bind (forS (rng (0) (Int.toNat (v1909))) (([] : (List PyData))) (fun s x => F_law_b2 (script_1840) (v1872) s x)) fun s => F_law_r2 (script_1840) (first_1841) (high_1879) ((⟨v1872, v1892.slots, v1892.rows, v1892.deblock, v1892.offset, v1892.layers⟩ : St_Settings)) s

def F_law (script' : (List Int)) : Rx Bool :=
  Rx.bind (F__law_cell (script') 0) fun v1826 => Rx.bind (F__law_digits v1826 2520 6) fun v1827 => grd (-((v1827 : (List Int)).length : Int) ≤ 0 ∧ 0 < ((v1827 : (List Int)).length : Int)) <| bnd ((1 + ((itD (v1827) (0)) % 24))) fun width_1837 => grd (-((v1827 : (List Int)).length : Int) ≤ 1 ∧ 1 < ((v1827 : (List Int)).length : Int)) <| bnd ((1 + ((itD (v1827) (1)) % 24))) fun height_1839 => Rx.bind ((grd (-((v1827 : (List Int)).length : Int) ≤ 0 ∧ 0 < ((v1827 : (List Int)).length : Int)) <| (if ((((itD (v1827) (0)) / 24) % 6) : Int) = 5 then grd (-((v1827 : (List Int)).length : Int) ≤ 0 ∧ 0 < ((v1827 : (List Int)).length : Int)) <| bnd ((1 + ((itD (v1827) (0)) % 8))) fun width_1851 => grd (-((v1827 : (List Int)).length : Int) ≤ 1 ∧ 1 < ((v1827 : (List Int)).length : Int)) <| bnd ((25 + ((itD (v1827) (1)) % 40))) fun height_1853 => .ok ((width_1851), (height_1853)) else .ok ((width_1837), (height_1839))) : Rx (Int × Int))) fun s => F_law_k1 (script') (v1827) (s.1) (s.2)
theorem cell_gv (s : List Int) (k : Int) (h : 0 ≤ k) : Gv (F__law_cell s k) (fun v => 0 ≤ v) := by
  unfold F__law_cell
  refine Gv.ite (fun c => Gv.grd ⟨by omega, c⟩ (.ok ?_)) fun _ => .ok (by decide)
  split <;> omega
theorem all_snoc {P : Int → Prop} {xs : List Int} {y : Int} (h : ∀ x ∈ xs, P x) (hy : P y) : ∀ x ∈ xs ++ [y], P x := fun x hx => by
  rcases List.mem_append.mp hx with q | q
  · exact h x q
  · rw [List.mem_singleton.mp q]
    exact hy
theorem digits_gv (cell base most : Int) (h0 : 0 < base) (h1 : base < 2 ^ 64) (hm : 0 ≤ most) (hm2 : most ≤ 1000) : Gv (F__law_digits cell base most) (fun v => (v.length : Int) = most ∧ ∀ x ∈ v, 0 ≤ x ∧ x < base) := by
  unfold F__law_digits
  refine Gv.bnd fun large _ => Gv.grd ⟨by omega, by omega⟩ (Gv.bind (Gv.forS (P := fun i s => s.2.length = i ∧ ∀ x ∈ s.2, 0 ≤ x ∧ x < base) ⟨rfl, fun x hx => by cases hx⟩ fun i x s hx p => ?_) fun s p => .ok ⟨?_, p.2⟩)
  · obtain ⟨rfl, hi⟩ := rng_at hx
    have hl := p.1
    unfold F__law_digits_b1
    refine Gv.ite (fun _ => Gv.grd h0 (Gv.grd (by omega) (Gv.bnd fun y hy => Gv.grd ⟨h0, by omega⟩ (Gv.bnd fun c _ => .ok ?_)))) fun _ => Gv.grd ?_ (Gv.grd ?_ (Gv.grd h0 (Gv.grd (by omega) (Gv.bnd fun y hy => .ok ?_))))
    · subst hy
      exact ⟨by rw [List.length_append, hl]; rfl, all_snoc p.2 ⟨Int.emod_nonneg _ (by omega), Int.emod_lt_of_pos _ h0⟩⟩
    · left
      omega
    · right
      omega
    · subst hy
      exact ⟨by rw [List.length_append, hl]; rfl, all_snoc p.2 ⟨Int.emod_nonneg _ (by omega), Int.emod_lt_of_pos _ h0⟩⟩
  · have := p.1
    rw [rng_len] at this
    omega
theorem itD_some {α : Type} [Inhabited α] {xs : List α} {k : Int} (h : -(xs.length : Int) ≤ k ∧ k < xs.length) : ∃ j : Nat, xs[j]? = some (itD xs k) := by
  obtain ⟨j, e, hj⟩ := ixN_some h
  refine ⟨j, ?_⟩
  unfold itD atI
  rw [e, List.getElem?_eq_getElem hj]
  show some xs[j] = some ((xs[j]?).getD default)
  rw [List.getElem?_eq_getElem hj] <;> rfl
theorem itD_mem {α : Type} [Inhabited α] {xs : List α} {k : Int} (h : -(xs.length : Int) ≤ k ∧ k < xs.length) : itD xs k ∈ xs := by
  obtain ⟨j, e⟩ := itD_some h
  exact List.mem_of_getElem? e
theorem itD_map {α β : Type} [Inhabited α] [Inhabited β] {xs : List α} {f : α → β} {k : Int} (h : -(xs.length : Int) ≤ k ∧ k < xs.length) : itD (xs.map f) k = f (itD xs k) := by
  obtain ⟨j, e, hj⟩ := ixN_some h
  unfold itD atI
  rw [List.length_map, e]
  show ((xs.map f)[j]?).getD default = f ((xs[j]?).getD default)
  rw [List.getElem?_map, List.getElem?_eq_getElem hj] <;> rfl
theorem itD_nat {α : Type} [Inhabited α] {xs : List α} {k : Int} {j : Nat} (e : k = (j : Int)) (h : j < xs.length) : itD xs k = xs[j] := by
  subst e
  unfold itD atI ixN
  rw [if_pos (by omega), if_pos (by omega)]
  show (xs[j]?).getD default = _
  rw [List.getElem?_eq_getElem h] <;> rfl
theorem setL_mem {α : Type} {xs : List α} {k : Int} {y z : α} (h : z ∈ setL xs k y) : z ∈ xs ∨ z = y := by
  unfold setL at h
  exact List.mem_or_eq_of_mem_set h
theorem setL_len {α : Type} {xs : List α} {k : Int} {y : α} : (setL xs k y).length = xs.length := by
  unfold setL
  rw [List.length_set]
/-! planes, samples between samples -/
/-! ### tables -/
section
variable {α : Type}
theorem rng_map_get {f : Int → α} {a : Int} {n i : Nat} (h : i < n) : ((rng a n).map f)[i]? = some (f (a + i)) := by rw [List.getElem?_map, rng_get h]; rfl
theorem rng_map_ext {f g : Int → α} {a b : Int} {n : Nat} (h : ∀ i : Nat, i < n → f (a + i) = g (b + i)) : (rng a n).map f = (rng b n).map g := by
  apply List.ext_getElem?
  intro i
  by_cases hi : i < n
  · rw [rng_map_get hi, rng_map_get hi, h i hi]
  · rw [List.getElem?_eq_none (by rw [List.length_map, rng_len]; omega), List.getElem?_eq_none (by rw [List.length_map, rng_len]; omega)]
theorem rng_map_itD [Inhabited α] {f : Int → α} {a k : Int} {n : Nat} (h0 : 0 ≤ k) (h1 : k < n) : itD ((rng a n).map f) k = f (a + k) := by
  obtain ⟨j, rfl⟩ : ∃ j : Nat, k = (j : Int) := ⟨k.toNat, by omega⟩
  have hl : j < ((rng a n).map f).length := by rw [List.length_map, rng_len]; omega
  have := rng_map_get (f := f) (a := a) (n := n) (i := j) (by omega)
  unfold itD
  rw [atI_nat this]
  rfl
theorem sIx_at {n d : Nat} {v : Int} (h0 : 0 ≤ v) (h1 : v ≤ n) : HT.sIx n d (some v) = v.toNat := by
  show (if v < 0 then (v + (n : Int)).toNat else min v.toNat n) = v.toNat
  rw [if_neg (by omega)]
  omega
theorem cut_tab {f : Int → α} {a s : Int} {n k : Nat} (h0 : 0 ≤ s) (h1 : s + k ≤ n) : cutL ((rng a n).map f) (some s) (some (s + k)) = (rng (a + s) k).map f := by
  have hl : ((rng a n).map f).length = n := by rw [List.length_map, rng_len]
  unfold cutL
  rw [hl, sIx_at h0 (by omega), sIx_at (by omega) h1]
  apply List.ext_getElem?
  intro i
  by_cases hi : i < k
  · rw [List.getElem?_take_of_lt (by omega), List.getElem?_drop, rng_map_get (by omega), rng_map_get hi]
    congr 2
    omega
  · rw [List.getElem?_eq_none (by rw [List.length_take, List.length_drop, hl]; omega), List.getElem?_eq_none (by rw [List.length_map, rng_len]; omega)]
theorem cut_tab1 {f : Int → α} {a : Int} {n : Nat} : cutL ((rng a (n + 1)).map f) (some 1) none = (rng (a + 1) n).map f := by
  have hl : ((rng a (n + 1)).map f).length = n + 1 := by rw [List.length_map, rng_len]
  unfold cutL
  rw [hl, sIx_at (by decide) (by omega), HT.sIx_none]
  apply List.ext_getElem?
  intro i
  by_cases hi : i < n
  · rw [List.getElem?_take_of_lt (by show i < n + 1 - 1; omega), List.getElem?_drop, rng_map_get (by show 1 + i < n + 1; omega), rng_map_get hi]
    congr 2
    show a + ((1 + i : Nat) : Int) = a + 1 + i
    omega
  · rw [List.getElem?_eq_none (by rw [List.length_take, List.length_drop, hl]; show min (n + 1 - 1) (n + 1 - 1) ≤ i; omega), List.getElem?_eq_none (by rw [List.length_map, rng_len]; omega)]
theorem zip_tab {f : Int → α} {a : Int} {n : Nat} : List.zip ((rng a (n + 1)).map f) (cutL ((rng a (n + 1)).map f) (some 1) none) = (rng a n).map fun c => (f c, f (c + 1)) := by
  rw [cut_tab1]
  apply List.ext_getElem?
  intro i
  by_cases hi : i < n
  · rw [rng_map_get hi]
    refine List.getElem?_zip_eq_some.mpr ⟨rng_map_get (by omega), ?_⟩
    rw [rng_map_get hi]
    congr 2
    omega
  · rw [List.getElem?_eq_none (by rw [List.length_zip, List.length_map, List.length_map, rng_len, rng_len]; omega), List.getElem?_eq_none (by rw [List.length_map, rng_len]; omega)]
theorem zip_tab2 {β : Type} {f : Int → α} {g : Int → β} {a : Int} {n : Nat} : List.zip ((rng a n).map f) ((rng a n).map g) = (rng a n).map fun c => (f c, g c) := by
  apply List.ext_getElem?
  intro i
  by_cases hi : i < n
  · rw [rng_map_get hi]
    exact List.getElem?_zip_eq_some.mpr ⟨rng_map_get hi, rng_map_get hi⟩
  · rw [List.getElem?_eq_none (by rw [List.length_zip, List.length_map, List.length_map, rng_len]; omega), List.getElem?_eq_none (by rw [List.length_map, rng_len]; omega)]
end
theorem itDn {α : Type} [Inhabited α] {xs : List α} {j : Nat} (h : j < xs.length) : itD xs (j : Int) = xs[j] := itD_nat rfl h
/-- a loop that makes a list item by item -/
theorem forS_list {α β : Type} {xs : List α} {f : List β → α → Rx (List β)} {g : α → β} (h : ∀ s x, x ∈ xs → s.length ≤ 1000000 → f s x = .ok (s ++ [g x])) : ∀ acc : List β, acc.length + xs.length ≤ 1000000 → forS xs acc f = .ok (acc ++ xs.map g) := by
  induction xs with
  | nil => intro acc _; simp [forS]
  | cons x r ih =>
    intro acc hl
    rw [List.length_cons] at hl
    show (f acc x).bind _ = _
    rw [h acc x List.mem_cons_self (by omega), bind_ok, ih (fun s y hy => h s y (List.mem_cons_of_mem _ hy)) (acc ++ [g x]) (by rw [List.length_append, List.length_cons, List.length_nil]; omega)]
    simp
/-! ### a plane -/
def Pl (w h top : Int) (M : List (List Int)) : Prop := 1 ≤ w ∧ 1 ≤ h ∧ (M.length : Int) = h ∧ (∀ r ∈ M, (r.length : Int) = w) ∧ ∀ r ∈ M, ∀ x ∈ r, 0 ≤ x ∧ x ≤ top
def cl (v hi : Int) : Int := if hi < (if 0 > v then 0 else v) then hi else (if 0 > v then 0 else v)
theorem cl_in {v hi : Int} (h : 0 ≤ hi) : 0 ≤ cl v hi ∧ cl v hi ≤ hi := by
  unfold cl
  split <;> split <;> omega
theorem cl_id {v hi : Int} (h0 : 0 ≤ v) (h1 : v ≤ hi) : cl v hi = v := by
  unfold cl
  rw [if_neg (show ¬ 0 > v by omega), if_neg (by omega)]
def val (w h : Int) (M : List (List Int)) (x y : Int) : Int := itD (itD M (cl y (h - 1))) (cl x (w - 1))
section
variable {w h top : Int} {M : List (List Int)}
theorem Pl.row (p : Pl w h top M) {y : Int} (h0 : 0 ≤ y) (h1 : y < h) : ((itD M y).length : Int) = w := by
  obtain ⟨_, _, hl, hr, _⟩ := p
  exact hr _ (itD_mem (by rw [hl]; omega))
theorem Pl.val (p : Pl w h top M) (x y : Int) : 0 ≤ val w h M x y ∧ val w h M x y ≤ top := by
  have h1 := cl_in (v := y) (hi := h - 1) (by have := p.2.1; omega)
  have h2 := cl_in (v := x) (hi := w - 1) (by have := p.1; omega)
  have hr := p.row (y := cl y (h - 1)) h1.1 (by omega)
  exact p.2.2.2.2 _ (itD_mem (by rw [p.2.2.1]; omega)) _ (itD_mem (by rw [hr]; omega))
end
theorem rep_one {v k x : Int} (h : x ∈ repL [v] k) : x = v := by
  unfold repL at h
  obtain ⟨l, hl, hx⟩ := List.mem_flatten.mp h
  rw [(List.mem_replicate.mp hl).2] at hx
  exact List.mem_singleton.mp hx
theorem rep_lenP {v k : Int} (h : 0 ≤ k) : ((repL [v] k).length : Int) = k := by
  unfold repL
  obtain ⟨j, rfl⟩ : ∃ j : Nat, k = (j : Int) := ⟨k.toNat, by omega⟩
  rw [Int.toNat_natCast]
  have : (List.replicate j [v]).flatten.length = j := by
    induction j with
    | zero => rfl
    | succ j ih =>
      rw [List.replicate_succ, List.flatten_cons, List.length_append, ih (by omega)]
      simp
      omega
  rw [this]
theorem one_4096 : -(2 ^ 4096) < (1 : Int) ∧ (1 : Int) < 2 ^ 4096 := by
  have h : (0 : Int) < 2 ^ 4095 := Int.pow_pos (by decide)
  have e : (2 : Int) ^ 4096 = 2 ^ 4095 * 2 := Int.pow_succ 2 4095
  generalize (2 : Int) ^ 4095 = z at h e
  generalize (2 : Int) ^ 4096 = y at e ⊢
  omega
theorem top_b {d : Int} (h0 : 0 ≤ d) (h1 : d < 5) : 255 ≤ 1 * 2 ^ Int.toNat (8 + d) - (1 : Int) ∧ 1 * 2 ^ Int.toNat (8 + d) - (1 : Int) ≤ 4095 := by
  have : d = 0 ∨ d = 1 ∨ d = 2 ∨ d = 3 ∨ d = 4 := by omega
  rcases this with rfl | rfl | rfl | rfl | rfl <;> decide
/-! sizes of formats, frames -/
def zp (c a pl : Int) : Int := if 0 < pl ∧ c = 1 then (a + 1) / 2 else a
def up (a : Int) : Int := (a + 7) / 8 * 8
def nn (c : Int) : Nat := if c = 0 then 1 else 3
theorem nn_in (c : Int) : nn c = 1 ∨ nn c = 3 := by unfold nn; split <;> simp
theorem nn_pos {c pl : Int} (h : 0 < pl) (h2 : pl < nn c) : c ≠ 0 := by
  rintro rfl
  have e : nn 0 = 1 := rfl
  rw [e] at h2
  omega
theorem planes_eq {w h d c : Int} : F_Format_planes ⟨w, h, d, c⟩ = .ok (nn c : Int) := by
  unfold F_Format_planes nn
  show Rx.ok (if c = 0 then (1 : Int) else 3) = _
  by_cases q : c = 0
  · rw [if_pos q, if_pos q]
    rfl
  · rw [if_neg q, if_neg q]
    rfl
theorem psize_eq {w h d c : Int} {pl a b : Int} (hp : 0 ≤ pl ∧ pl < nn c) : F_Format__plane_size ⟨w, h, d, c⟩ pl a b = .ok (zp c a pl, zp c b pl) := by
  unfold F_Format__plane_size
  rw [if_pos hp.1, planes_eq, noEr_ok, bind_ok, if_pos hp.2]
  unfold zp
  by_cases z : 0 < pl
  · rw [if_pos z]
    show (if c = 1 then _ else _) = _
    by_cases q : c = 1
    · rw [if_pos q, if_pos ⟨z, q⟩, if_pos ⟨z, q⟩]
    · rw [if_neg q, if_neg (fun x => q x.2), if_neg (fun x => q x.2)]
  · rw [if_neg z, if_neg (fun x => z x.1), if_neg (fun x => z x.1)]
theorem list_tab {α : Type} [Inhabited α] {R : List α} {n : Nat} (h : R.length = n) : R = (rng 0 n).map fun k => itD R k := by
  apply List.ext_getElem?
  intro k
  by_cases q : k < n
  · rw [rng_map_get q, List.getElem?_eq_getElem (by omega)]
    congr 1
    rw [show (0 : Int) + (k : Int) = (k : Int) by omega, itDn (by omega)]
  · rw [List.getElem?_eq_none (by omega), List.getElem?_eq_none (by rw [List.length_map, rng_len]; omega)]
/-- planes of a shape, with samples up to t -/
structure Fr (c a b t : Int) (R : List (List (List Int))) : Prop where
  len : R.length = nn c
  pl : ∀ k : Int, 0 ≤ k → k < nn c → Pl (zp c a k) (zp c b k) t (itD R k)
def tp (d : Int) : Int := 1 * 2 ^ Int.toNat d - 1
theorem up_in {a : Int} (h : 1 ≤ a ∧ a ≤ 20) : a ≤ up a ∧ 8 ≤ up a ∧ up a ≤ 24 := by unfold up; omega
theorem zp_in {c a pl l u : Int} (h : l ≤ a ∧ a ≤ u) (h1 : 1 ≤ l) : (l + 1) / 2 ≤ zp c a pl ∧ zp c a pl ≤ u := by unfold zp; split <;> omega
theorem zp_le {c a b pl : Int} (h : a ≤ b) : zp c a pl ≤ zp c b pl := by unfold zp; split <;> omega
theorem tp_in {d : Int} (h : 8 ≤ d ∧ d ≤ 12) : 255 ≤ tp d ∧ tp d ≤ 4095 := by
  have := top_b (d := d - 8) (by omega) (by omega)
  rw [show 8 + (d - 8) = d by omega] at this
  exact this
theorem fr_mem {c t : Int} {R : List (List (List Int))} {a b : Int} (f : Fr c a b t R) {M : List (List Int)} (hM : M ∈ R) : ∃ k : Int, 0 ≤ k ∧ k < nn c ∧ M = itD R k := by
  obtain ⟨j, hj⟩ := List.mem_iff_getElem?.mp hM
  have hl := get_len hj
  refine ⟨j, by omega, by have := f.len; omega, ?_⟩
  rw [itDn hl]
  rw [List.getElem?_eq_getElem hl] at hj
  exact (Option.some.inj hj).symm
theorem tab_at {c : Int} {g : Int → List (List Int)} {k : Int} (k0 : 0 ≤ k) (k1 : k < nn c) : itD ((rng 0 (nn c)).map g) k = g k := by
  rw [rng_map_itD k0 (by omega), Int.zero_add]
/-! the planes that a law draws (_law_planes) -/
theorem cod_eq {w h d c pl : Int} (k0 : 0 ≤ pl) (k1 : pl < nn c) : F_Format_coded_size ⟨w, h, d, c⟩ pl = .ok (zp c (up w) pl, zp c (up h) pl) := by
  unfold F_Format_coded_size F_Format_blocks
  show Rx.bind (F_Format__plane_size ⟨w, h, d, c⟩ pl ((w + 8 - 1) / 8 * 8) ((h + 8 - 1) / 8 * 8)) _ = _
  rw [psize_eq ⟨k0, k1⟩, show w + 8 - 1 = w + 7 by omega, show h + 8 - 1 = h + 7 by omega]
  rfl
theorem lplanes_gv {w h d c top cell : Int} (hw : 1 ≤ w ∧ w ≤ 1000) (hh : 1 ≤ h ∧ h ≤ 1000) (ht : 0 ≤ top ∧ top ≤ 4095) (h0 : 0 ≤ cell) : Gv (F__law_planes cell ⟨w, h, d, c⟩ top) (Fr c (up w) (up h) top) := by
  have n0 := nn_in c
  have uw : 8 ≤ up w ∧ up w ≤ 1007 := by unfold up; omega
  have uh : 8 ≤ up h ∧ up h ≤ 1007 := by unfold up; omega
  unfold F__law_planes
  refine Gv.bind_eq (a := (nn c : Int)) (by rw [planes_eq]; rfl) (Gv.grd ⟨by omega, by omega⟩ ?_)
  rw [Int.toNat_natCast]
  refine Gv.bind (Gv.forS (P := fun i s => s.length = i ∧ ∀ j : Nat, j < i → Pl (zp c (up w) j) (zp c (up h) j) top (itD s j)) ⟨rfl, fun j hj => absurd hj (Nat.not_lt_zero _)⟩ fun i x s hx p => ?_) fun s p => .ok ⟨by rw [p.1, rng_len], fun k k0 k1 => ?_⟩
  · obtain ⟨rfl, hi⟩ := rng_at hx
    rw [Int.zero_add]
    have z1 := zp_in (c := c) (pl := (i : Int)) uw (by omega)
    have z2 := zp_in (c := c) (pl := (i : Int)) uh (by omega)
    unfold F__law_planes_b1
    refine Gv.bind_eq (cod_eq (by omega) (by omega)) (Gv.bind (digits_gv _ _ _ (by omega) (by omega) (by decide) (by decide)) fun ds hds => Gv.grd ⟨by show -(2 ^ 62) ≤ zp c (up h) i; omega, by show zp c (up h) i < 2 ^ 62; omega⟩ ?_)
    show Gv (Rx.bind (forS (rng 0 (Int.toNat (zp c (up h) i))) _ _) _) _
    refine Gv.bind (Gv.forS (P := fun j s => s.length = j ∧ ∀ r ∈ s, (r.length : Int) = zp c (up w) i ∧ ∀ z ∈ r, 0 ≤ z ∧ z ≤ top) ⟨rfl, fun r hr => nomatch hr⟩ fun j y rs hy q => ?_) fun rs q => ?_
    · obtain ⟨rfl, hj⟩ := rng_at hy
      have fin : ∀ g : Int → Int, (∀ z, 0 ≤ g z ∧ g z ≤ top) → Gv (grd (rs.length ≤ 1000000) <| bnd (rs ++ [(rng 0 (Int.toNat (zp c (up w) i))).map g]) fun y => .ok y) (fun s => s.length = j + 1 ∧ ∀ r ∈ s, (r.length : Int) = zp c (up w) i ∧ ∀ z ∈ r, 0 ≤ z ∧ z ≤ top) := fun g hg => by
        refine Gv.grd (by have := q.1; omega) (Gv.bnd fun y hy => .ok ?_)
        subst hy
        refine ⟨by rw [List.length_append, q.1]; rfl, fun r hr => ?_⟩
        rcases List.mem_append.mp hr with hr | hr
        · exact q.2 r hr
        · rw [List.mem_singleton.mp hr]
          refine ⟨by rw [List.length_map, rng_len]; omega, fun z hz => ?_⟩
          obtain ⟨a, _, rfl⟩ := List.mem_map.mp hz
          exact hg a
      have gw : -(2 ^ 62) ≤ ((zp c (up w) i, zp c (up h) i) : Int × Int).1 ∧ ((zp c (up w) i, zp c (up h) i) : Int × Int).1 < 2 ^ 62 := ⟨by show -(2 ^ 62) ≤ zp c (up w) i; omega, by show zp c (up w) i < 2 ^ 62; omega⟩
      have em : ∀ x : Int, 0 ≤ x % (top + 1) ∧ x % (top + 1) ≤ top := fun x => by
        have a := Int.emod_nonneg x (show top + 1 ≠ 0 by omega)
        have b := Int.emod_lt_of_pos x (show 0 < top + 1 by omega)
        omega
      unfold F__law_planes_b2
      refine Gv.ite (fun _ => Gv.grd gw (Gv.bind_eq (mapA_pure0 (g := fun a => itD ds ((7 * (0 + (j : Int)) + a) % 24)) (fun a _ => ?_) (by rw [rng_len]; show (zp c (up w) i).toNat ≤ _; omega)) ?_)) fun _ => Gv.ite (fun _ => Gv.grd gw (Gv.bind_eq (mapA_pure0 (g := fun a => (cell + 9 * a + 5 * (0 + (j : Int))) % (top + 1)) (fun a _ => ?_) (by rw [rng_len]; show (zp c (up w) i).toNat ≤ _; omega)) (fin _ fun z => em _))) fun _ => Gv.grd gw (Gv.bind_eq (mapA_pure0 (g := fun a => (itD ds 0 + (a / 3 + (0 + (j : Int)) / 3) * 40) % (top + 1)) (fun a _ => ?_) (by rw [rng_len]; show (zp c (up w) i).toNat ≤ _; omega)) (fin _ fun z => em _))
      · unfold F__law_planes_c3
        rw [grd_pos (by omega)]
        rfl
      · refine fin _ fun z => ?_
        have m := hds.2 _ (itD_mem (xs := ds) (k := (7 * (0 + (j : Int)) + z) % 24) (by omega))
        omega
      · unfold F__law_planes_c4
        rw [grd_pos (by omega)]
        rfl
      · unfold F__law_planes_c5
        rw [grd_pos (by omega), grd_pos (by omega)]
        rfl
    · unfold F__law_planes_r2
      refine Gv.grd (by have := p.1; omega) (Gv.bnd fun y hy => .ok ?_)
      subst hy
      refine ⟨by rw [List.length_append, p.1]; rfl, fun j hj => ?_⟩
      by_cases e : j = i
      · subst e
        have l : j < (s ++ [rs]).length := by rw [List.length_append, p.1]; show j < j + 1; omega
        rw [itDn l, List.getElem_append_right (by rw [p.1]; exact Nat.le_refl _)]
        have q1 := q.1
        rw [rng_len] at q1
        have : (s ++ [rs])[j]'l = rs := by rw [List.getElem_append_right (by rw [p.1]; exact Nat.le_refl _)]; simp
        simp only [p.1, Nat.sub_self, List.getElem_cons_zero]
        exact ⟨by omega, by omega, by omega, fun r hr => (q.2 r hr).1, fun r hr => (q.2 r hr).2⟩
      · have hji : j < i := by omega
        have l1 : j < s.length := by rw [p.1]; exact hji
        have l : j < (s ++ [rs]).length := by rw [List.length_append]; omega
        rw [itDn l, List.getElem_append_left l1, ← itDn l1]
        exact p.2 j hji
  · rw [rng_len] at p
    obtain ⟨j, rfl⟩ : ∃ j : Nat, k = (j : Int) := ⟨k.toNat, by omega⟩
    exact p.2 j (by omega)
/-! ### tables changed -/
section
variable {α : Type}
theorem setL_nat {xs : List α} {k : Int} {y : α} (h0 : 0 ≤ k) (h1 : k < xs.length) : setL xs k y = xs.set k.toNat y := by
  obtain ⟨j, rfl⟩ : ∃ j : Nat, k = (j : Int) := ⟨k.toNat, by omega⟩
  unfold setL ixN
  rw [if_pos (by omega), if_pos (by omega)]
  rfl
theorem set_at [Inhabited α] {xs : List α} {k : Int} {y : α} (h0 : 0 ≤ k) (h1 : k < (xs.length : Int)) : itD (setL xs k y) k = y := by
  rw [setL_nat h0 h1]
  obtain ⟨j, rfl⟩ : ∃ j : Nat, k = (j : Int) := ⟨k.toNat, by omega⟩
  have hj2 : j < (xs.set j y).length := by rw [List.length_set]; omega
  rw [Int.toNat_natCast, itDn hj2, List.getElem_set_self]
theorem set_tab {f : Int → α} {n : Nat} {k : Int} {v : α} (h0 : 0 ≤ k) (h1 : k < n) : setL ((rng 0 n).map f) k v = (rng 0 n).map fun x => if x = k then v else f x := by
  have hl : ((rng 0 n).map f).length = n := by rw [List.length_map, rng_len]
  rw [setL_nat h0 (by rw [hl]; exact h1)]
  apply List.ext_getElem?
  intro i
  by_cases hi : i < n
  · rw [rng_map_get hi, List.getElem?_set, hl]
    by_cases e : k.toNat = i
    · rw [if_pos e, if_pos (by omega), if_pos (by omega)]
    · rw [if_neg e, rng_map_get hi, if_neg (by omega)]
  · rw [List.getElem?_eq_none (by rw [List.length_set, hl]; omega), List.getElem?_eq_none (by rw [List.length_map, rng_len]; omega)]
theorem tab_ext {f g : Int → α} {n : Nat} (h : ∀ x : Int, 0 ≤ x → x < n → f x = g x) : (rng 0 n).map f = (rng 0 n).map g :=
  List.map_congr_left fun x hx => by
    have := rng_mem hx
    exact h x this.1 (by omega)
theorem tab_len {f : Int → α} {a : Int} {n : Nat} : ((rng a n).map f).length = n := by rw [List.length_map, rng_len]
theorem tab_itD [Inhabited α] {f : Int → α} {n : Nat} {k : Int} (h0 : 0 ≤ k) (h1 : k < n) : itD ((rng 0 n).map f) k = f k := by
  rw [rng_map_itD h0 h1, Int.zero_add]
end
theorem splice_tab {α : Type} {f g : Int → α} {n : Nat} {lo hi : Int} (h0 : 0 ≤ lo) (h1 : lo ≤ hi) (h2 : hi ≤ n) : spliceL ((rng 0 n).map f) lo hi ((rng lo (Int.toNat (hi - lo))).map g) = (rng 0 n).map fun y => if lo ≤ y ∧ y < hi then g y else f y := by
  unfold spliceL
  apply List.ext_getElem?
  intro i
  have ll : (((rng 0 n).map f).take lo.toNat).length = lo.toNat := by rw [List.length_take, tab_len]; omega
  have lm : ((rng lo (Int.toNat (hi - lo))).map g).length = (hi - lo).toNat := tab_len
  by_cases hi' : i < n
  · rw [rng_map_get hi']
    by_cases c1 : i < lo.toNat
    · rw [List.append_assoc, List.getElem?_append_left (by rw [ll]; exact c1), List.getElem?_take_of_lt c1, rng_map_get hi', if_neg (by omega)]
    · by_cases c2 : i < hi.toNat
      · rw [List.getElem?_append_left (by rw [List.length_append, ll, lm]; omega), List.getElem?_append_right (by rw [ll]; omega), ll, rng_map_get (by omega), if_pos (by omega)]
        congr 2
        omega
      · rw [List.getElem?_append_right (by rw [List.length_append, ll, lm]; omega), List.length_append, ll, lm, List.getElem?_drop, rng_map_get (by omega), if_neg (by omega)]
        congr 2
        omega
  · rw [List.getElem?_eq_none (by rw [List.length_append, List.length_append, ll, lm, List.length_drop, tab_len]; omega), List.getElem?_eq_none (by rw [tab_len]; omega)]
theorem splice_len {α : Type} {xs ys : List α} {lo hi : Int} (h0 : 0 ≤ lo) (h1 : lo ≤ hi) (h2 : hi ≤ xs.length) (hl : (ys.length : Int) = hi - lo) : (spliceL xs lo hi ys).length = xs.length := by
  unfold spliceL
  rw [List.length_append, List.length_append, List.length_take, List.length_drop]
  omega
/-! planes as data -/
theorem fr_sm {c a b t : Int} {R : List (List (List Int))} (f : Fr c a b t R) (ha : 1 ≤ a ∧ a ≤ 64) (hb : 1 ≤ b ∧ b ≤ 64) (ht : t ≤ 4095) : Sm (1 + 3 * (1 + 64 * (1 + 64 * 1))) 3 (encL (encL (encL PyData.int)) R) := by
  have n0 := nn_in c
  refine sm_L (fun M hM => ?_) (by have := f.len; omega)
  obtain ⟨k, k0, k1, rfl⟩ := fr_mem f hM
  have p := f.pl k k0 k1
  have z1 := zp_in (c := c) (pl := k) (l := 1) (u := 64) ha (by omega)
  have z2 := zp_in (c := c) (pl := k) (l := 1) (u := 64) hb (by omega)
  have l := p.2.2.1
  refine sm_L (fun r hr => sm_ints (fun x hx => ?_) (by have := p.2.2.2.1 r hr; omega)) (by omega)
  have := p.2.2.2.2 r hr x hx
  omega
theorem eok3 : EncOk 3 (encL (encL (encL PyData.int))) := encOk_L (encOk_L (encOk_L encOk_int))
theorem eok_shaped {α : Type} [DecidableEq α] {n : Nat} {f : α → PyData} (ok : EncOk n f) (x : α) (h : n ≤ 64) : SeqAt.shaped (f x) = true := by
  unfold SeqAt.shaped
  rw [ok.lay x, decide_eq_true (Nat.le_trans (ok.dep x) h)]
  rfl
/-! k58 -/
abbrev It := Int × List Int
def ax (d : Int) : Int := itD [1, 0, 1, 1] d
def dn (d : Int) : Int := itD [0, 1, 1, (-1)] d
def sg (v : Int) : Int := if v = 0 then 0 else if 0 < v then 1 else -1
def cp (v hi : Int) : Int := if hi < (if 0 > v then 0 else v) then hi else (if 0 > v then 0 else v)
def pix (M : List (List Int)) (y x : Int) : Int := itD (itD M y) x
/-- the sum of the two signs -/
def kd (M : List (List Int)) (q : It) (y x : Int) : Int := sg (pix M y x - pix M (y - dn q.1) (x - ax q.1)) + sg (pix M y x - pix M (y + dn q.1) (x + ax q.1))
def chg (q : It) (k : Int) : Int := itD [itD q.2 0, itD q.2 1, 0, itD q.2 2, itD q.2 3] (k + 2)
def ins (w h : Int) (q : It) (y x : Int) : Prop := (0 ≤ x - ax q.1 ∧ x - ax q.1 < w) ∧ (0 ≤ y - dn q.1 ∧ y - dn q.1 < h) ∧ (0 ≤ x + ax q.1 ∧ x + ax q.1 < w) ∧ (0 ≤ y + dn q.1 ∧ y + dn q.1 < h)
instance (w h : Int) (q : It) (y x : Int) : Decidable (ins w h q y x) := by unfold ins; infer_instance
def smp (w h u t : Int) (M : List (List Int)) (q : It) (y x : Int) : Int := if ins w h q y x then cp (pix M y x + chg q (kd M q y x) * u) t else pix M y x
structure QOk (q : It) : Prop where
  dir : 0 ≤ q.1 ∧ q.1 < 4
  len : q.2.length = 4
  val : ∀ v ∈ q.2, -7 ≤ v ∧ v ≤ 7
theorem sign_eq (v : Int) : F__sign v = .ok (sg v) := by
  unfold F__sign sg
  by_cases h : v = 0
  · rw [if_pos h, if_pos h]
  · rw [if_neg h, if_neg h]
theorem lsign_eq (v : Int) : F__law_sign v = .ok (sg v) := by
  unfold F__law_sign sg
  by_cases h : 0 < v
  · rw [if_pos h, if_neg (by omega), if_pos h]
  · by_cases h2 : v < 0
    · rw [if_neg h, if_pos h2, if_neg (by omega), if_neg h]
    · rw [if_neg h, if_neg h2, if_pos (by omega)]
theorem sg_in (v : Int) : -1 ≤ sg v ∧ sg v ≤ 1 := by
  unfold sg
  split
  · omega
  · split <;> omega
theorem ax_in {d : Int} (h : 0 ≤ d ∧ d < 4) : 0 ≤ ax d ∧ ax d ≤ 1 := by
  have : d = 0 ∨ d = 1 ∨ d = 2 ∨ d = 3 := by omega
  rcases this with rfl | rfl | rfl | rfl <;> decide
theorem dn_in {d : Int} (h : 0 ≤ d ∧ d < 4) : -1 ≤ dn d ∧ dn d ≤ 1 := by
  have : d = 0 ∨ d = 1 ∨ d = 2 ∨ d = 3 := by omega
  rcases this with rfl | rfl | rfl | rfl <;> decide
theorem QOk.at (q : It) (h : QOk q) {k : Int} (h0 : 0 ≤ k) (h1 : k < 4) : (-(q.2.length : Int) ≤ k ∧ k < (q.2.length : Int)) ∧ -7 ≤ itD q.2 k ∧ itD q.2 k ≤ 7 := by
  have g : -(q.2.length : Int) ≤ k ∧ k < (q.2.length : Int) := by rw [h.len]; omega
  exact ⟨g, h.val _ (itD_mem g)⟩
theorem chg_in {q : It} (h : QOk q) {k : Int} (h0 : -2 ≤ k) (h1 : k ≤ 2) : -7 ≤ chg q k ∧ chg q k ≤ 7 := by
  have a0 := (h.at q (k := 0) (by decide) (by decide)).2
  have a1 := (h.at q (k := 1) (by decide) (by decide)).2
  have a2 := (h.at q (k := 2) (by decide) (by decide)).2
  have a3 := (h.at q (k := 3) (by decide) (by decide)).2
  have : k = -2 ∨ k = -1 ∨ k = 0 ∨ k = 1 ∨ k = 2 := by omega
  rcases this with rfl | rfl | rfl | rfl | rfl
  · exact a0
  · exact a1
  · show -7 ≤ (0 : Int) ∧ (0 : Int) ≤ 7; omega
  · exact a2
  · exact a3
section
variable {w h u t : Int} {M : List (List Int)} {q : It}
theorem kd_in (y x : Int) : -2 ≤ kd M q y x ∧ kd M q y x ≤ 2 := by
  have a := sg_in (pix M y x - pix M (y - dn q.1) (x - ax q.1))
  have b := sg_in (pix M y x - pix M (y + dn q.1) (x + ax q.1))
  unfold kd
  omega
theorem pix_in (p : Pl w h t M) {y x : Int} (y0 : 0 ≤ y) (y1 : y < h) (x0 : 0 ≤ x) (x1 : x < w) : 0 ≤ pix M y x ∧ pix M y x ≤ t := by
  have hr := p.row y0 y1
  exact p.2.2.2.2 _ (itD_mem (by rw [p.2.2.1]; omega)) _ (itD_mem (by rw [hr]; omega))
theorem cp_id {v hi : Int} (h0 : 0 ≤ v) (h1 : v ≤ hi) : cp v hi = v := by
  unfold cp
  rw [if_neg (show ¬ 0 > v by omega), if_neg (by omega)]
theorem cp_law {v hi : Int} (h : 0 ≤ hi) : (if (if v < hi then v else hi) > 0 then (if v < hi then v else hi) else 0) = cp v hi := by
  unfold cp
  by_cases a : v < hi
  · rw [if_pos a]
    by_cases b : v > 0
    · rw [if_pos b, if_neg (show ¬ 0 > v by omega), if_neg (by omega)]
    · by_cases c : 0 > v
      · rw [if_neg b, if_pos c, if_neg (by omega)]
      · rw [if_neg b, if_neg c, if_neg (by omega)]
        omega
  · rw [if_neg a]
    by_cases b : hi > 0
    · rw [if_pos b, if_neg (show ¬ 0 > v by omega)]
      by_cases c : hi < v
      · rw [if_pos c]
      · rw [if_neg c]
        omega
    · rw [if_neg b, if_neg (show ¬ 0 > v by omega)]
      by_cases c : hi < v
      · rw [if_pos c]
        omega
      · rw [if_neg c]
        omega
theorem cp_in {v hi : Int} (h : 0 ≤ hi) : 0 ≤ cp v hi ∧ cp v hi ≤ hi := by
  unfold cp
  split <;> split <;> omega
theorem smp_in (p : Pl w h t M) (ht : 0 ≤ t) {y x : Int} (y0 : 0 ≤ y) (y1 : y < h) (x0 : 0 ≤ x) (x1 : x < w) : 0 ≤ smp w h u t M q y x ∧ smp w h u t M q y x ≤ t := by
  unfold smp
  split
  · exact cp_in ht
  · exact pix_in p y0 y1 x0 x1
/-- a row as a table -/
theorem row_tab (p : Pl w h t M) {y : Int} (y0 : 0 ≤ y) (y1 : y < h) : itD M y = (rng 0 w.toNat).map fun x => pix M y x := list_tab (by have := p.row y0 y1; omega)
theorem rowf_eq {d c W H : Int} (p : Pl w h t M) (hw : w ≤ 10000) (hh : h ≤ 10000) (hq : QOk q) (hd : 8 ≤ d ∧ d ≤ 12) (ht : t = tp d) {y : Int} (y0 : 0 ≤ y) (y1 : y < h) :
    F__filtered_row ⟨W, H, d, c⟩ M y q = .ok ((rng 0 w.toNat).map fun x => smp w h (1 * 2 ^ Int.toNat (d - 8)) t M q y x) := by
  have hl := p.2.2.1
  have gy : -(M.length : Int) ≤ y ∧ y < (M.length : Int) := by omega
  have a := ax_in hq.dir
  have b := dn_in hq.dir
  have sc : (0 : Int) < 1 * 2 ^ Int.toNat (d - 8) ∧ (1 : Int) * 2 ^ Int.toNat (d - 8) ≤ 16 := by
    have : d = 8 ∨ d = 9 ∨ d = 10 ∨ d = 11 ∨ d = 12 := by omega
    rcases this with rfl | rfl | rfl | rfl | rfl <;> decide
  have e1 : itD (itD ([[-1, 0], [0, -1], [-1, -1], [-1, 1]] : List (List Int)) q.1) 0 = -ax q.1 := by
    have : q.1 = 0 ∨ q.1 = 1 ∨ q.1 = 2 ∨ q.1 = 3 := by have := hq.dir; omega
    rcases this with e | e | e | e <;> rw [e] <;> decide
  have e2 : itD (itD ([[-1, 0], [0, -1], [-1, -1], [-1, 1]] : List (List Int)) q.1) 1 = -dn q.1 := by
    have : q.1 = 0 ∨ q.1 = 1 ∨ q.1 = 2 ∨ q.1 = 3 := by have := hq.dir; omega
    rcases this with e | e | e | e <;> rw [e] <;> decide
  have e3 : (itD ([[-1, 0], [0, -1], [-1, -1], [-1, 1]] : List (List Int)) q.1).length = 2 := by
    have : q.1 = 0 ∨ q.1 = 1 ∨ q.1 = 2 ∨ q.1 = 3 := by have := hq.dir; omega
    rcases this with e | e | e | e <;> rw [e] <;> decide
  refine Gv.get ?_
  unfold F__filtered_row
  refine Gv.grd hq.dir (Gv.grd e3 (Gv.bnd fun r hr => Gv.bnd fun v hv => Gv.grd gy ?_))
  rw [e1] at hr
  rw [e2] at hv
  have ar : (if r < 0 then -r else r) = ax q.1 := by split <;> omega
  have av : (if v < 0 then -v else v) = (if dn q.1 < 0 then -dn q.1 else dn q.1) := by split <;> split <;> omega
  rw [ar, av, row_tab p y0 y1]
  have out : (∀ x, ¬ ins w h q y x) → Gv (Rx.ok ((rng 0 w.toNat).map fun x => pix M y x)) (fun z => z = (rng 0 w.toNat).map fun x => smp w h (1 * 2 ^ Int.toNat (d - 8)) t M q y x) := fun n => .ok (by
    refine tab_ext fun x _ _ => ?_
    unfold smp
    rw [if_neg (n x)])
  refine Gv.ite (fun c1 => Gv.ite (fun c2 => ?_) fun n => out fun x z => n ?_) fun n => out fun x z => n ?_
  rotate_left
  · unfold ins at z
    rw [hl]
    split <;> omega
  · unfold ins at z
    split <;> omega
  have g1 : -(M.length : Int) ≤ y + v ∧ y + v < (M.length : Int) := by split at c1 <;> split at c2 <;> omega
  have g2 : -(M.length : Int) ≤ y - v ∧ y - v < (M.length : Int) := by split at c1 <;> split at c2 <;> omega
  have ya : 0 ≤ y - dn q.1 ∧ y - dn q.1 < h := by split at c1 <;> split at c2 <;> omega
  have yb : 0 ≤ y + dn q.1 ∧ y + dn q.1 < h := by split at c1 <;> split at c2 <;> omega
  have ev : y + v = y - dn q.1 := by omega
  have ev2 : y - v = y + dn q.1 := by omega
  have wl : (((rng 0 w.toNat).map fun x => pix M y x).length : Int) = w := by rw [tab_len]; have := p.1; omega
  refine Gv.grd g1 (Gv.grd g2 (Gv.grd ⟨by show 0 ≤ d - 8; omega, by show d - 8 ≤ 4096; omega, one_4096⟩ (Gv.bnd fun s hs => Gv.grd (hq.at q (by decide) (by decide)).1 (Gv.grd (hq.at q (by decide) (by decide)).1 (Gv.grd (hq.at q (by decide) (by decide)).1 (Gv.grd (hq.at q (by decide) (by decide)).1 (Gv.grd ⟨by omega, by omega, by omega, by omega⟩ ?_)))))))
  rw [wl]
  have et : F_Format_top ⟨W, H, d, c⟩ = .ok t := by
    unfold F_Format_top
    exact Gv.get (Gv.grd ⟨by show 0 ≤ d; omega, by show d ≤ 4096; omega, one_4096⟩ (.ok ht.symm))
  refine Gv.bind (Gv.forS (P := fun i s => s = (rng 0 w.toNat).map fun x => if x < ax q.1 + i then smp w h (1 * 2 ^ Int.toNat (d - 8)) t M q y x else pix M y x) ?_ fun i x s' hx pp => ?_) fun s' pp => ?_
  · refine tab_ext fun x x0 x1 => ?_
    split
    · unfold smp
      rw [if_neg]
      intro z
      unfold ins at z
      omega
    · rfl
  · obtain ⟨rfl, hi⟩ := rng_at hx
    have x1 : ax q.1 + (i : Int) < w - ax q.1 := by omega
    have gx : -((((rng 0 w.toNat).map fun x => if x < ax q.1 + (i : Int) then smp w h (1 * 2 ^ Int.toNat (d - 8)) t M q y x else pix M y x).length : Nat) : Int) ≤ ax q.1 + i ∧ ax q.1 + (i : Int) < ((((rng 0 w.toNat).map fun x => if x < ax q.1 + (i : Int) then smp w h (1 * 2 ^ Int.toNat (d - 8)) t M q y x else pix M y x).length : Nat) : Int) := by rw [tab_len]; omega
    have r1 := p.row ya.1 ya.2
    have r2 := p.row yb.1 yb.2
    have ex : itD ((rng 0 w.toNat).map fun x => if x < ax q.1 + (i : Int) then smp w h (1 * 2 ^ Int.toNat (d - 8)) t M q y x else pix M y x) (ax q.1 + i) = pix M y (ax q.1 + i) := by
      rw [tab_itD (by omega) (by omega), if_neg (by omega)]
    have k := kd_in (M := M) (q := q) y (ax q.1 + i)
    have cc := chg_in hq k.1 k.2
    subst pp
    unfold F__filtered_row_b1
    rw [ev, ev2, show ax q.1 + (i : Int) + r = ax q.1 + i - ax q.1 by omega, show ax q.1 + (i : Int) - r = ax q.1 + i + ax q.1 by omega, ex]
    refine Gv.grd gx (Gv.grd ⟨by omega, by omega⟩ (Gv.bind_eq (sign_eq _) (Gv.grd gx (Gv.grd ⟨by omega, by omega⟩ (Gv.bind_eq (sign_eq _) (Gv.bnd fun tu htu => ?_))))))
    have hk : tu = kd M q y (ax q.1 + i) := htu
    subst hk
    refine Gv.grd gx (Gv.grd ⟨by show -(5 : Int) ≤ _; omega, by show _ < (5 : Int); omega⟩ (Gv.grd (.inl ⟨by show -(2 ^ 64) < chg q _; omega, by show chg q _ < 2 ^ 64; omega⟩) (Gv.bind_eq (a := t) (by rw [et]; rfl) (Gv.bind_eq (a := cp (pix M y (ax q.1 + i) + chg q (kd M q y (ax q.1 + i)) * s) t) rfl (Gv.grd gx (Gv.bnd fun z hz => .ok ?_))))))
    rw [hz, set_tab (by omega) (by omega)]
    refine tab_ext fun x x0 x1 => ?_
    have exp : smp w h (1 * 2 ^ Int.toNat (d - 8)) t M q y (ax q.1 + i) = cp (pix M y (ax q.1 + i) + chg q (kd M q y (ax q.1 + i)) * s) t := by
      unfold smp
      rw [if_pos (by unfold ins; omega), hs]
    by_cases e : x = ax q.1 + (i : Int)
    · rw [if_pos e, if_pos (by omega), e, exp]
    · rw [if_neg e]
      by_cases e2 : x < ax q.1 + (i : Int)
      · rw [if_pos e2, if_pos (by omega)]
      · rw [if_neg e2, if_neg (by omega)]
  · refine .ok ?_
    rw [pp]
    refine tab_ext fun x x0 x1 => ?_
    rw [rng_len]
    split
    · rfl
    · unfold smp
      rw [if_neg]
      intro z
      unfold ins at z
      omega
end
/-! k58 two -/
section
variable {w h u t : Int} {M : List (List Int)} {q : It}
theorem lsample_eq (p : Pl w h t M) (ht : 0 ≤ t) (hq : QOk q) (hu : 0 < u ∧ u ≤ 16) {y x : Int} (y0 : 0 ≤ y) (y1 : y < h) (x0 : 0 ≤ x) (x1 : x < w) : F__law_sample M x y q u t = .ok (smp w h u t M q y x) := by
  have hl := p.2.2.1
  have a := ax_in hq.dir
  have b := dn_in hq.dir
  have gy : -(M.length : Int) ≤ y ∧ y < (M.length : Int) := by omega
  have g0 : -(M.length : Int) ≤ 0 ∧ 0 < (M.length : Int) := by omega
  have r0 := p.row (y := 0) (by decide) (by omega)
  have ry := p.row y0 y1
  have gx : -((itD M y).length : Int) ≤ x ∧ x < ((itD M y).length : Int) := by omega
  refine Gv.get ?_
  unfold F__law_sample
  refine Gv.grd ⟨by show -4 ≤ q.1; have := hq.dir; omega, by show q.1 < 4; have := hq.dir; omega⟩ (Gv.bnd fun A hA => Gv.grd ⟨by show -4 ≤ q.1; have := hq.dir; omega, by show q.1 < 4; have := hq.dir; omega⟩ (Gv.bnd fun B hB => ?_))
  have hA2 : A = ax q.1 := hA
  have hB2 : B = dn q.1 := hB
  subst hA2 hB2
  have one : ∀ x2 y2 : Int, F__law_sample_b1 M x y (x2, y2) = .ok (if (0 ≤ x2 ∧ x2 < w) ∧ (0 ≤ y2 ∧ y2 < h) then .go () else .rt (pix M y x)) := fun x2 y2 => by
    refine Gv.get ?_
    have rt : ¬ ((0 ≤ x2 ∧ x2 < w) ∧ (0 ≤ y2 ∧ y2 < h)) → Gv (grd (-(M.length : Int) ≤ y ∧ y < (M.length : Int)) <| grd (-((itD M y).length : Int) ≤ x ∧ x < ((itD M y).length : Int)) <| .ok (.rt (itD (itD M y) x)) : Rx (Lp Unit Int)) (fun v => v = if (0 ≤ x2 ∧ x2 < w) ∧ (0 ≤ y2 ∧ y2 < h) then .go () else .rt (pix M y x)) := fun n => Gv.grd gy (Gv.grd gx (.ok (by rw [if_neg n]; rfl)))
    unfold F__law_sample_b1
    refine Gv.ite (fun c1 => Gv.grd g0 ?_) fun n => rt fun z => n z.1.1
    have rt2 := rt
    rw [hl] at rt2
    rw [r0, hl]
    exact Gv.ite (fun c2 => Gv.ite (fun c3 => Gv.ite (fun c4 => .ok (by rw [if_pos ⟨⟨c1, c2⟩, c3, c4⟩])) fun n => rt2 fun z => n z.2.2) fun n => rt2 fun z => n z.2.1) fun n => rt2 fun z => n z.1.2
  by_cases c : ins w h q y x
  · have c1 : (0 ≤ x - ax q.1 ∧ x - ax q.1 < w) ∧ (0 ≤ y - dn q.1 ∧ y - dn q.1 < h) := ⟨c.1, c.2.1⟩
    have c2 : (0 ≤ x + ax q.1 ∧ x + ax q.1 < w) ∧ (0 ≤ y + dn q.1 ∧ y + dn q.1 < h) := c.2.2
    have e1 := one (x - ax q.1) (y - dn q.1)
    have e2 := one (x + ax q.1) (y + dn q.1)
    rw [if_pos c1] at e1
    rw [if_pos c2] at e2
    have f : forR [((x - ax q.1), (y - dn q.1)), ((x + ax q.1), (y + dn q.1))] () (fun s z => F__law_sample_b1 M x y z) = .ok (.go ()) := forR_unit fun z hz => by
      simp only [List.mem_cons, List.not_mem_nil, or_false] at hz
      rcases hz with rfl | rfl
      · exact e1
      · exact e2
    refine Gv.bind_eq f ?_
    rw [aft_go]
    have ra := p.row c1.2.1 c1.2.2
    have rb := p.row c2.2.1 c2.2.2
    have k := kd_in (M := M) (q := q) y x
    unfold F__law_sample_r1
    refine Gv.grd gy (Gv.grd gx (Gv.grd ⟨by omega, by omega⟩ (Gv.grd ⟨by omega, by omega⟩ (Gv.bind_eq (lsign_eq _) (Gv.grd gy (Gv.grd gx (Gv.grd ⟨by omega, by omega⟩ (Gv.grd ⟨by omega, by omega⟩ (Gv.bind_eq (lsign_eq _) (Gv.bnd fun K hK => ?_))))))))))
    have hK2 : K = kd M q y x := hK
    subst hK2
    have exp : smp w h u t M q y x = cp (pix M y x + chg q (kd M q y x) * u) t := by
      unfold smp
      rw [if_pos c]
    have pin := pix_in p y0 y1 x0 x1
    refine Gv.ite (fun k0 => Gv.grd gy (Gv.grd gx (.ok ?_))) fun k0 => ?_
    · rw [exp, k0, show chg q 0 = 0 from rfl, Int.zero_mul, Int.add_zero, cp_id pin.1 pin.2]
      rfl
    · have ix : (-(q.2.length : Int) ≤ itD [0, 1, 4, 2, 3] (kd M q y x + 2) ∧ itD [0, 1, 4, 2, 3] (kd M q y x + 2) < (q.2.length : Int)) ∧ itD q.2 (itD [0, 1, 4, 2, 3] (kd M q y x + 2)) = chg q (kd M q y x) := by
        rw [hq.len]
        have : kd M q y x = -2 ∨ kd M q y x = -1 ∨ kd M q y x = 1 ∨ kd M q y x = 2 := by omega
        rcases this with e | e | e | e <;> rw [e] <;> exact ⟨by decide, rfl⟩
      have cc := chg_in hq k.1 k.2
      refine Gv.grd ⟨by show -(5 : Int) ≤ _; omega, by show _ < (5 : Int); omega⟩ (Gv.grd ix.1 (Gv.bnd fun N hN => Gv.grd gy (Gv.grd gx (Gv.grd (.inl ⟨by omega, by omega⟩) (.ok ?_)))))
      rw [exp, hN, ix.2]
      exact cp_law ht
  · have f : ∃ l, forR [((x - ax q.1), (y - dn q.1)), ((x + ax q.1), (y + dn q.1))] () (fun s z => F__law_sample_b1 M x y z) = .ok l ∧ l = .rt (pix M y x) := by
      show ∃ l, Rx.bind (F__law_sample_b1 M x y (x - ax q.1, y - dn q.1)) _ = .ok l ∧ _
      rw [one, bind_ok]
      by_cases c1 : (0 ≤ x - ax q.1 ∧ x - ax q.1 < w) ∧ (0 ≤ y - dn q.1 ∧ y - dn q.1 < h)
      · rw [if_pos c1]
        show ∃ l, Rx.bind (F__law_sample_b1 M x y (x + ax q.1, y + dn q.1)) _ = .ok l ∧ _
        rw [one, bind_ok, if_neg fun z => c ⟨c1.1, c1.2, z⟩]
        exact ⟨_, rfl, rfl⟩
      · rw [if_neg c1]
        exact ⟨_, rfl, rfl⟩
    obtain ⟨l, f, rfl⟩ := f
    refine Gv.bind_eq f ?_
    rw [aft_rt]
    refine .ok ?_
    unfold smp
    rw [if_neg c]
end
/-! ### items of offsets -/
def ItOk (x : PyData) : Prop := x = encN () ∨ ∃ q : It, QOk q ∧ x = encT2 PyData.int (encL PyData.int) q
def OfOk (c : Int) (x : PyData) : Prop := x = encN () ∨ ∃ its : List PyData, its.length = nn c ∧ (∀ i ∈ its, ItOk i) ∧ x = encL encD its
abbrev dq (x : PyData) : It := (cT2 cI (cL cI)).dec x
abbrev dl (x : PyData) : List PyData := (cL cD).dec x
theorem dq_e (q : It) : dq (encT2 PyData.int (encL PyData.int) q) = q := (cT2 cI (cL cI)).de q
theorem dl_e (l : List PyData) : dl (encL encD l) = l := (cL cD).de l
theorem okq (q : It) : (cT2 cI (cL cI)).ok (encT2 PyData.int (encL PyData.int) q) = true := (cT2 cI (cL cI)).oke q
theorem okl (l : List PyData) : (cL cD).ok (encL encD l) = true := (cL cD).oke l
theorem noneq (q : It) : dNone (encT2 PyData.int (encL PyData.int) q) = false := rfl
theorem nonel (l : List PyData) : dNone (encL encD l) = false := rfl
def rowD (w h u t : Int) (M : List (List Int)) (x : PyData) (y : Int) : List Int := if dNone x = true then itD M y else (rng 0 w.toNat).map fun k => smp w h u t M (dq x) y k
def itm (O : List PyData) (s pl : Int) : PyData := if dNone (itD O s) = true then encN () else itD (dl (itD O s)) pl
theorem itm_ok {c : Int} {O : List PyData} (h : ∀ x ∈ O, OfOk c x) {s pl : Int} (s0 : 0 ≤ s) (s1 : s < O.length) (p0 : 0 ≤ pl) (p1 : pl < nn c) : ItOk (itm O s pl) := by
  unfold itm
  rcases h _ (itD_mem (xs := O) (k := s) (by omega)) with e | ⟨its, hl, hi, e⟩
  · rw [e]
    exact .inl rfl
  · rw [e, nonel, if_neg (by decide), dl_e]
    exact hi _ (itD_mem (by omega))
theorem due_eq {w h u t c high small pl : Int} {M : List (List Int)} {O : List PyData} (p : Pl w h t M) (hw : w ≤ 10000) (hh : h ≤ 10000) (ht : 0 ≤ t) (hu : 0 < u ∧ u ≤ 16) (hO : ∀ x ∈ O, OfOk c x) (hs : small = 4 ∨ small = 8) (hg : 1 ≤ high ∧ high ≤ 5) (hr : ∀ y : Int, 0 ≤ y → y < h → y / small / high < O.length) (p0 : 0 ≤ pl) (p1 : pl < nn c) :
    F__law_due M small high O pl u t = .ok ((rng 0 h.toNat).map fun y => rowD w h u t M (itm O (y / small / high) pl) y) := by
  have hl := p.2.2.1
  have h1 := p.2.1
  unfold F__law_due
  rw [hl, grd_pos ⟨by omega, by omega⟩]
  have e := forS_list (xs := rng 0 h.toNat) (f := fun s x => F__law_due_b1 M small high O pl u t s x) (g := fun y => rowD w h u t M (itm O (y / small / high) pl) y) (fun s y hy hs2 => ?_) [] (by rw [rng_len]; show 0 + _ ≤ _; omega)
  · rw [e, bind_ok]
    rfl
  have my := rng_mem hy
  have y1 : y < h := by omega
  have gy : -(M.length : Int) ≤ y ∧ y < (M.length : Int) := by omega
  have s0 : 0 ≤ y / small / high := Int.ediv_nonneg (Int.ediv_nonneg my.1 (by omega)) (by omega)
  have s1 := hr y my.1 y1
  have gs : -(O.length : Int) ≤ y / small / high ∧ y / small / high < (O.length : Int) := by omega
  refine Gv.get ?_
  unfold F__law_due_b1
  refine Gv.grd ⟨by omega, by omega⟩ (Gv.grd ⟨by omega, by omega⟩ (Gv.grd gs ?_))
  have H := hO _ (itD_mem gs)
  show Gv _ (fun v => v = s ++ [rowD w h u t M (itm O (y / small / high) pl) y])
  rcases H with ex | ⟨its, il, hi, ex⟩
  · have em : itm O (y / small / high) pl = encN () := by unfold itm; rw [ex]; rfl
    rw [em]
    rw [ex]
    refine Gv.pos rfl (Gv.grd gy (Gv.grd hs2 (Gv.bnd fun z hz => .ok hz)))
  · have em : itm O (y / small / high) pl = itD its pl := by unfold itm; rw [ex, nonel, if_neg (by decide), dl_e]
    rw [em]
    rw [ex]
    have gp : -(its.length : Int) ≤ pl ∧ pl < (its.length : Int) := by omega
    refine Gv.neg (by rw [nonel]; decide) (Gv.grd (okl its) ?_)
    rw [show (cL cD).dec (encL encD its) = its from dl_e its]
    refine Gv.grd gp ?_
    rcases hi _ (itD_mem gp) with e2 | ⟨q, hq, e2⟩
    · rw [e2]
      refine Gv.pos rfl (Gv.grd gy (Gv.grd hs2 (Gv.bnd fun z hz => .ok hz)))
    · have ry := p.row my.1 y1
      rw [e2]
      refine Gv.neg (by rw [noneq]; decide) (Gv.grd gy ?_)
      rw [ry]
      refine Gv.grd ⟨by have := p.1; omega, by omega⟩ (Gv.bind_eq (mapA_pure0 (g := fun k => smp w h u t M q y k) (fun k hk => ?_) (by rw [rng_len]; omega)) (Gv.grd hs2 (Gv.bnd fun z hz => .ok ?_)))
      · have mk := rng_mem hk
        refine Gv.get (Gv.noEr ?_)
        unfold F__law_due_c2
        rw [e2]
        refine Gv.grd gp (Gv.grd (okq q) ?_)
        rw [show (cT2 cI (cL cI)).dec (encT2 PyData.int (encL PyData.int) q) = q from dq_e q]
        exact Gv.bind_eq (lsample_eq p ht hq hu my.1 y1 mk.1 (by omega)) (.ok rfl)
      · rw [hz]
        unfold rowD
        rw [noneq, if_neg (by decide), dq_e]
/-! k58 three -/
theorem div_at {a n s : Int} (hn : 0 < n) : a / n = s ↔ s * n ≤ a ∧ a < s * n + n := by
  constructor
  · rintro rfl
    have h1 := Int.ediv_mul_le a (show n ≠ 0 by omega)
    have h2 := Int.lt_ediv_add_one_mul_self a hn
    rw [Int.add_mul, Int.one_mul] at h2
    exact ⟨h1, h2⟩
  · rintro ⟨h1, h2⟩
    have a1 := Int.le_ediv_of_mul_le hn h1
    have a2 : a / n < s + 1 := Int.ediv_lt_of_lt_mul hn (by rw [Int.add_mul, Int.one_mul]; exact h2)
    omega
def sd (c k : Int) : Int := if 0 < k ∧ c = 1 then 4 else 8
theorem sd_in (c k : Int) : sd c k = 4 ∨ sd c k = 8 := by unfold sd; split <;> simp
section
variable {w h d c high sl ly : Int} {db off : Bool}
theorem side_eq (k : Int) : F_block_side ⟨w, h, d, c⟩ k = .ok (sd c k) := by
  unfold F_block_side sd
  by_cases a : 0 < k
  · rw [if_pos a]
    show (if c = 1 then _ else _) = _
    by_cases b : c = 1
    · rw [if_pos b, if_pos ⟨a, b⟩]; rfl
    · rw [if_neg b, if_neg fun z => b z.2]
  · rw [if_neg a, if_neg fun z => a z.1]
def bh (h : Int) : Int := (h + 8 - 1) / 8
theorem slices_eq (hg : 1 ≤ high ∧ high ≤ 32) : F_Settings_slices ⟨⟨w, h, d, c⟩, sl, high, db, off, ly⟩ = .ok ((bh h + high - 1) / high) := by
  unfold F_Settings_slices
  refine Gv.get (Gv.bind_eq (a := ((w + 8 - 1) / 8, (h + 8 - 1) / 8)) rfl (Gv.grd ⟨by show 0 < high; omega, by show high < 2 ^ 128; omega⟩ (.ok rfl)))
theorem span_eq (hg : 1 ≤ high ∧ high ≤ 32) {s k : Int} (s0 : 0 ≤ s) (s1 : s < (bh h + high - 1) / high) (hb : 0 ≤ bh h ∧ bh h ≤ 1000) : F_slice_span ⟨⟨w, h, d, c⟩, sl, high, db, off, ly⟩ s k = .ok (s * high * sd c k, (s * high + (if bh h - s * high < high then bh h - s * high else high)) * sd c k) := by
  have S := sd_in c k
  have hs : s ≤ 1100 := by
    have : (bh h + high - 1) / high ≤ bh h + high - 1 := Int.ediv_le_self _ (by omega)
    omega
  refine Gv.get ?_
  unfold F_slice_span F_Settings_slice_rows
  refine Gv.bind_eq (a := (s * high, if bh h - s * high < high then bh h - s * high else high)) ?_ (Gv.bind_eq (side_eq k) (Gv.grd (.inr ⟨by omega, by omega⟩) (Gv.grd (.inr ⟨by omega, by omega⟩) (.ok rfl))))
  refine Gv.get (Gv.pos s0 (Gv.bind_eq (slices_eq hg) (Gv.pos s1 (Gv.bind_eq (a := ((w + 8 - 1) / 8, (h + 8 - 1) / 8)) rfl (Gv.grd (.inl ⟨by omega, by omega⟩) (Gv.bnd fun F hF => .ok ?_))))))
  subst hF
  rfl
/-- the rows of a slice in a plane -/
theorem span_at (hg : 1 ≤ high) {s k y : Int} (s0 : 0 ≤ s) (hb : 0 ≤ y ∧ y < bh h * sd c k) : (s * high * sd c k ≤ y ∧ y < (s * high + (if bh h - s * high < high then bh h - s * high else high)) * sd c k) ↔ y / sd c k / high = s := by
  rw [div_at (by omega)]
  have S := sd_in c k
  generalize s * high = z
  rcases S with e | e <;> rw [e] at hb ⊢ <;> constructor <;> intro q <;> split at * <;> omega
theorem last_slice (hg : 1 ≤ high) {k y : Int} (hb : 0 ≤ y ∧ y < bh h * sd c k) : 0 ≤ y / sd c k / high ∧ y / sd c k / high < (bh h + high - 1) / high := by
  have S := sd_in c k
  have a : 0 ≤ y / sd c k ∧ y / sd c k < bh h := by rcases S with e | e <;> rw [e] at hb ⊢ <;> omega
  refine ⟨Int.ediv_nonneg a.1 (by omega), ?_⟩
  have m : y / sd c k / high ≤ (bh h - 1) / high := Int.ediv_le_ediv (by omega) (by omega)
  have e : (bh h + high - 1) / high = (bh h - 1) / high + 1 := by
    rw [show bh h + high - 1 = (bh h - 1) + 1 * high by omega, Int.add_mul_ediv_right _ _ (by omega)]
  omega
theorem hgt_eq {k : Int} : zp c (up h) k = bh h * sd c k := by
  unfold zp up bh sd
  split <;> omega
end
/-! ### the filter over a picture -/
/-- rows after the filter -/
def dr (c w h u t high : Int) (P : List (List (List Int))) (O : List PyData) (k y : Int) : List Int := rowD (zp c (up w) k) (zp c (up h) k) u t (itD P k) (itm O (y / sd c k / high) k) y
/-- some rows filtered -/
def stt (c w h u t high : Int) (P : List (List (List Int))) (O : List PyData) (f : Int → Int → Bool) : List (List (List Int)) := (rng 0 (nn c)).map fun k => (rng 0 (zp c (up h) k).toNat).map fun y => if f k y = true then dr c w h u t high P O k y else itD (itD P k) y
theorem tab2_ext {c : Int} {H : Int → Nat} {f g : Int → Int → List Int} (h : ∀ k y : Int, 0 ≤ k → k < nn c → 0 ≤ y → y < H k → f k y = g k y) : ((rng 0 (nn c)).map fun k => (rng 0 (H k)).map fun y => f k y) = (rng 0 (nn c)).map fun k => (rng 0 (H k)).map fun y => g k y :=
  tab_ext fun k k0 k1 => tab_ext fun y y0 y1 => h k y k0 k1 y0 y1
section
variable {w h d c u t high sl ly : Int} {db off : Bool} {P : List (List (List Int))} {O : List PyData}
theorem stt_ext {f g : Int → Int → Bool} (e : ∀ k y : Int, 0 ≤ k → k < nn c → 0 ≤ y → y < zp c (up h) k → (f k y = g k y ∨ dr c w h u t high P O k y = itD (itD P k) y)) : stt c w h u t high P O f = stt c w h u t high P O g := by
  unfold stt
  refine tab2_ext fun k y k0 k1 y0 y1 => ?_
  rcases e k y k0 k1 y0 (by omega) with q | q
  · rw [q]
  · rw [q]
    split <;> split <;> rfl
theorem stt_none (f : Fr c (up w) (up h) t P) : stt c w h u t high P O (fun _ _ => false) = P := by
  unfold stt
  conv => rhs; rw [list_tab f.len]
  refine tab_ext fun k k0 k1 => ?_
  have p := f.pl k k0 k1
  conv => rhs; rw [list_tab (R := itD P k) (n := (zp c (up h) k).toNat) (by have := p.2.2.1; omega)]
  rfl
theorem fb1_eq (f : Fr c (up w) (up h) t P) (hw : 1 ≤ w ∧ w ≤ 1000) (hh : 1 ≤ h ∧ h ≤ 1000) (hd : 8 ≤ d ∧ d ≤ 12) (ht : t = tp d) (hu : u = 1 * 2 ^ Int.toNat (d - 8)) (hg : 1 ≤ high ∧ high ≤ 5) {s k : Int} (s0 : 0 ≤ s) (s1 : s < (bh h + high - 1) / high) (k0 : 0 ≤ k) (k1 : k < nn c) {F : Int → Int → Bool}
    {its : List PyData} (hl : its.length = nn c) (hi : ∀ i ∈ its, ItOk i) (ho : itD O s = encL encD its) :
    F__filter_slice_b1 ⟨⟨w, h, d, c⟩, sl, high, db, off, ly⟩ s P (stt c w h u t high P O F) (k, itD its k) = .ok (stt c w h u t high P O fun k' y => F k' y || (decide (k' = k) && decide (y / sd c k / high = s))) := by
  have p := f.pl k k0 k1
  have em : ∀ y : Int, y / sd c k / high = s → itm O (y / sd c k / high) k = itD its k := fun y e => by
    unfold itm
    rw [e, ho, nonel, if_neg (by decide), dl_e]
  have hb : 0 ≤ bh h ∧ bh h ≤ 1000 := by unfold bh; omega
  have uw : 8 ≤ up w ∧ up w ≤ 1007 := by unfold up; omega
  have uh : 8 ≤ up h ∧ up h ≤ 1007 := by unfold up; omega
  have z1 := zp_in (c := c) (pl := k) uw (by omega)
  have z2 := zp_in (c := c) (pl := k) uh (by omega)
  have H := hgt_eq (h := h) (c := c) (k := k)
  have S := sd_in c k
  refine Gv.get ?_
  unfold F__filter_slice_b1
  rcases hi _ (itD_mem (xs := its) (k := k) (by omega)) with e2 | ⟨q, hq, e2⟩
  · rw [e2]
    refine Gv.neg (by show ¬ (!dNone (encN ())) = true; decide) (.ok (stt_ext fun k' y a0 a1 y0 y1 => ?_))
    by_cases e : k' = k
    · subst e
      by_cases e3 : y / sd c k' / high = s
      · refine .inr ?_
        unfold dr rowD
        rw [em y e3, e2]
        rfl
      · refine .inl ?_
        rw [decide_eq_false e3]
        simp
    · refine .inl ?_
      rw [decide_eq_false e]
      simp
  · rw [e2]
    have sp := span_eq (w := w) (h := h) (d := d) (c := c) (sl := sl) (db := db) (off := off) (ly := ly) (k := k) ⟨hg.1, by omega⟩ s0 s1 hb
    have at_ : ∀ y : Int, 0 ≤ y → y < zp c (up h) k → ((s * high * sd c k ≤ y ∧ y < (s * high + (if bh h - s * high < high then bh h - s * high else high)) * sd c k) ↔ y / sd c k / high = s) := fun y y0 y1 => span_at hg.1 s0 ⟨y0, by omega⟩
    have sh : s * high < bh h := by
      have := (div_at (a := bh h - 1) (n := high) (s := (bh h - 1) / high) (by omega)).mp rfl
      have e : (bh h + high - 1) / high = (bh h - 1) / high + 1 := by
        rw [show bh h + high - 1 = (bh h - 1) + 1 * high by omega, Int.add_mul_ediv_right _ _ (by omega)]
      have : s * high ≤ (bh h - 1) / high * high := Int.mul_le_mul_of_nonneg_right (by omega) (by omega)
      omega
    have sn : 0 ≤ s * high := Int.mul_nonneg s0 (by omega)
    generalize hlo : s * high * sd c k = lo at sp at_
    generalize hhi : (s * high + (if bh h - s * high < high then bh h - s * high else high)) * sd c k = hi2 at sp at_
    have b0 : 0 ≤ lo ∧ lo ≤ hi2 ∧ hi2 ≤ zp c (up h) k := by
      rw [H, ← hlo, ← hhi]
      generalize s * high = z at sn sh ⊢
      rcases S with e | e <;> rw [e] <;> split <;> omega
    refine Gv.pos (by rw [noneq]; rfl) (Gv.bind_eq (a := (lo, hi2)) (by rw [sp]; rfl) (Gv.grd ⟨by show -(2 ^ 62) ≤ lo; omega, by show lo < 2 ^ 62; omega, by show -(2 ^ 62) ≤ hi2; omega, by show hi2 < 2 ^ 62; omega⟩ ?_))
    refine Gv.bind_eq (mapA_pure0 (g := fun y => dr c w h u t high P O k y) (fun y hy => ?_) (by rw [rng_len]; show (hi2 - lo).toNat ≤ _; omega)) ?_
    · have m := rng_mem hy
      have my : lo ≤ y ∧ y < hi2 := ⟨m.1, by have := m.2; simp only at this; omega⟩
      have e3 := (at_ y (by omega) (by omega)).mp my
      refine Gv.get (Gv.noEr ?_)
      unfold F__filter_slice_c2
      refine Gv.grd (by have := f.len; omega) (Gv.grd (okq q) ?_)
      rw [show (cT2 cI (cL cI)).dec (encT2 PyData.int (encL PyData.int) q) = q from dq_e q]
      refine Gv.bind_eq (rowf_eq p (by omega) (by omega) hq hd ht (by omega) (by omega)) (.ok ?_)
      unfold dr rowD
      rw [em y e3, e2, noneq, if_neg (by decide), dq_e, hu]
    · have lS : (stt c w h u t high P O F).length = nn c := by unfold stt; exact tab_len
      have iS : itD (stt c w h u t high P O F) k = (rng 0 (zp c (up h) k).toNat).map fun y => if F k y = true then dr c w h u t high P O k y else itD (itD P k) y := by
        unfold stt
        exact tab_itD k0 k1
      refine Gv.grd (by omega) (Gv.grd ⟨by show 0 ≤ lo; omega, by show lo ≤ hi2; omega, by rw [iS, tab_len]; show hi2 ≤ _; omega, by rw [iS, tab_len, tab_len]; show _ + (hi2 - lo).toNat ≤ _; omega⟩ (Gv.bnd fun z hz => .ok ?_))
      rw [hz, iS]
      show setL (stt c w h u t high P O F) k (spliceL _ lo hi2 ((rng lo (Int.toNat (hi2 - lo))).map fun y => dr c w h u t high P O k y)) = _
      rw [splice_tab b0.1 b0.2.1 (by omega)]
      unfold stt
      rw [set_tab k0 k1]
      refine tab_ext fun k' a0 a1 => ?_
      by_cases e : k' = k
      · subst e
        rw [if_pos rfl]
        refine tab_ext fun y y0 y1 => ?_
        have := at_ y y0 (by omega)
        by_cases e3 : y / sd c k' / high = s
        · rw [if_pos (this.mpr e3)]
          simp [e3]
        · rw [if_neg fun z => e3 (this.mp z)]
          simp [e3]
      · rw [if_neg e]
        simp [e]
end
/-! k58 four -/
section
variable {w h d c u t high sl ly : Int} {db off : Bool} {P : List (List (List Int))} {O : List PyData}
theorem fs_eq (f : Fr c (up w) (up h) t P) (hw : 1 ≤ w ∧ w ≤ 1000) (hh : 1 ≤ h ∧ h ≤ 1000) (hd : 8 ≤ d ∧ d ≤ 12) (ht : t = tp d) (hu : u = 1 * 2 ^ Int.toNat (d - 8)) (hg : 1 ≤ high ∧ high ≤ 5) {s : Int} (s0 : 0 ≤ s) (s1 : s < (bh h + high - 1) / high)
    {its : List PyData} (hl : its.length = nn c) (hi : ∀ i ∈ its, ItOk i) (ho : itD O s = encL encD its) :
    F__filter_slice ⟨⟨w, h, d, c⟩, sl, high, db, off, ly⟩ s its P (stt c w h u t high P O fun k y => decide (y / sd c k / high < s)) = .ok (stt c w h u t high P O fun k y => decide (y / sd c k / high < s + 1)) := by
  refine Gv.get ?_
  unfold F__filter_slice
  refine Gv.bind (Gv.forS (P := fun i X => X = stt c w h u t high P O fun k y => decide (y / sd c k / high < s) || (decide (k < i) && decide (y / sd c k / high = s))) ?_ fun i x X hx q => ?_) fun X q => .ok ?_
  · refine stt_ext fun k y k0 _ _ _ => .inl ?_
    rw [decide_eq_false (show ¬ k < ((0 : Nat) : Int) by omega)]
    simp
  · have hi2 : i < its.length := by
      have := get_len hx
      rwa [enumL_len] at this
    have e := enumL_get (List.getElem?_eq_getElem hi2)
    rw [hx] at e
    obtain rfl := Option.some.inj e
    rw [q, show its[i] = itD its (i : Int) from (itDn hi2).symm]
    refine Gv.of_eq (fb1_eq f hw hh hd ht hu hg s0 s1 (by omega) (by omega) hl hi ho) (stt_ext fun k y _ _ _ _ => .inl ?_)
    by_cases e1 : k = (i : Int)
    · subst e1
      rw [decide_eq_false (show ¬ (i : Int) < (i : Int) by omega), decide_eq_true (show (i : Int) < ((i + 1 : Nat) : Int) by omega)]
      simp
    · rw [decide_eq_false e1, show decide (k < ((i + 1 : Nat) : Int)) = decide (k < (i : Int)) from by
        by_cases z : k < (i : Int)
        · rw [decide_eq_true z, decide_eq_true (by omega)]
        · rw [decide_eq_false z, decide_eq_false (by omega)]]
      simp
  · rw [q, enumL_len, hl]
    refine stt_ext fun k y _ k1 _ _ => .inl ?_
    rw [decide_eq_true (show k < ((nn c : Nat) : Int) from k1)]
    generalize y / sd c k / high = z
    by_cases a : z < s
    · rw [decide_eq_true a, decide_eq_true (show z < s + 1 by omega)]; rfl
    · by_cases b : z = s
      · rw [decide_eq_false a, decide_eq_true b, decide_eq_true (show z < s + 1 by omega)]; rfl
      · rw [decide_eq_false a, decide_eq_false b, decide_eq_false (show ¬ z < s + 1 by omega)]; rfl
/-- the picture after the filter -/
def FP (c w h u t high : Int) (P : List (List (List Int))) (O : List PyData) : List (List (List Int)) := (rng 0 (nn c)).map fun k => (rng 0 (zp c (up h) k).toNat).map fun y => dr c w h u t high P O k y
theorem copyp_eq {R : List (List (List Int))} (hl : R.length ≤ 1000000) (h : ∀ M ∈ R, M.length ≤ 1000000) : F_copy_planes R = .ok R := by
  unfold F_copy_planes
  rw [mapA_pure0 (g := id) (fun M hM => ?_) hl, List.map_id]
  · rfl
  unfold F_copy_planes_c1
  rw [mapA_pure0 (f := fun x => noEr (F_copy_planes_c2 x)) (g := id) (fun r _ => rfl) (h M hM), List.map_id]
  rfl
theorem apply_eq (f : Fr c (up w) (up h) t P) (hw : 1 ≤ w ∧ w ≤ 1000) (hh : 1 ≤ h ∧ h ≤ 1000) (hd : 8 ≤ d ∧ d ≤ 12) (ht : t = tp d) (hu : u = 1 * 2 ^ Int.toNat (d - 8)) (hg : 1 ≤ high ∧ high ≤ 5) (hO : ∀ x ∈ O, OfOk c x) (hl : (O.length : Int) = (bh h + high - 1) / high) :
    F_apply_offsets ⟨⟨w, h, d, c⟩, sl, high, db, off, ly⟩ P O = .ok (FP c w h u t high P O) := by
  have n0 := nn_in c
  have uh : 8 ≤ up h ∧ up h ≤ 1007 := by unfold up; omega
  refine Gv.get ?_
  unfold F_apply_offsets
  refine Gv.bind_eq (copyp_eq (by have := f.len; omega) fun M hM => ?_) (Gv.bind (Gv.forS (P := fun i X => X = stt c w h u t high P O fun k y => decide (y / sd c k / high < i)) ?_ fun i x X hx q => ?_) fun X q => .ok ?_)
  · obtain ⟨k, k0, k1, rfl⟩ := fr_mem f hM
    have z2 := zp_in (c := c) (pl := k) uh (by omega)
    have := (f.pl k k0 k1).2.2.1
    omega
  · conv => lhs; rw [← stt_none (u := u) (high := high) (O := O) f]
    refine stt_ext fun k y k0 k1 y0 y1 => .inl ?_
    have := (last_slice (h := h) (c := c) (k := k) hg.1 ⟨y0, by rw [← hgt_eq]; exact y1⟩).1
    rw [decide_eq_false (by omega)]
  · have hi : i < O.length := by
      have := get_len hx
      rwa [enumL_len] at this
    have e := enumL_get (List.getElem?_eq_getElem hi)
    rw [hx] at e
    obtain rfl := Option.some.inj e
    have ix : itD O (i : Int) = O[i] := itDn hi
    unfold F_apply_offsets_b1
    rw [q]
    rcases hO _ (List.getElem_mem hi) with e | ⟨its, il, hi2, e⟩
    · rw [e]
      refine Gv.neg (by show ¬ (!dNone (encN ())) = true; decide) (.ok (stt_ext fun k y _ _ _ _ => ?_))
      by_cases e3 : y / sd c k / high = (i : Int)
      · refine .inr ?_
        unfold dr rowD
        have em : itm O (y / sd c k / high) k = encN () := by unfold itm; rw [e3, ix, e]; rfl
        rw [em]
        rfl
      · refine .inl ?_
        by_cases z : y / sd c k / high < (i : Int)
        · rw [decide_eq_true z, decide_eq_true (by omega)]
        · rw [decide_eq_false z, decide_eq_false (by omega)]
    · rw [e]
      refine Gv.pos (by rw [nonel]; rfl) (Gv.grd (okl its) ?_)
      rw [show (cL cD).dec (encL encD its) = its from dl_e its]
      refine Gv.bind_eq (fs_eq f hw hh hd ht hu hg (by omega) (by omega) il hi2 (ix.trans e)) (.ok ?_)
      rfl
  · show X = _
    rw [q, enumL_len]
    unfold stt FP
    refine tab2_ext (H := fun k => (zp c (up h) k).toNat) fun k y k0 k1 y0 y1 => ?_
    have := (last_slice (h := h) (c := c) (k := k) (high := high) hg.1 ⟨y0, by rw [← hgt_eq]; omega⟩).2
    rw [if_pos (decide_eq_true (by omega))]
theorem fp_fr (f : Fr c (up w) (up h) t P) (hw : 1 ≤ w ∧ w ≤ 1000) (hh : 1 ≤ h ∧ h ≤ 1000) (ht : 0 ≤ t) (hg : 1 ≤ high ∧ high ≤ 5) (hO : ∀ x ∈ O, OfOk c x) (hl : (O.length : Int) = (bh h + high - 1) / high) : Fr c (up w) (up h) t (FP c w h u t high P O) := by
  refine ⟨by unfold FP; exact tab_len, fun k k0 k1 => ?_⟩
  have p := f.pl k k0 k1
  unfold FP
  rw [tab_itD k0 k1]
  have row : ∀ y : Int, 0 ≤ y → y < zp c (up h) k → ((dr c w h u t high P O k y).length : Int) = zp c (up w) k ∧ ∀ x ∈ dr c w h u t high P O k y, 0 ≤ x ∧ x ≤ t := fun y y0 y1 => by
    unfold dr rowD
    have gy : -((itD P k).length : Int) ≤ y ∧ y < ((itD P k).length : Int) := by rw [p.2.2.1]; omega
    split
    · exact ⟨p.2.2.2.1 _ (itD_mem gy), p.2.2.2.2 _ (itD_mem gy)⟩
    · refine ⟨by rw [tab_len]; have := p.1; omega, fun x hx => ?_⟩
      obtain ⟨z, hz, rfl⟩ := List.mem_map.mp hx
      have m := rng_mem hz
      exact smp_in p ht y0 y1 m.1 (by have := p.1; omega)
  refine ⟨p.1, p.2.1, by rw [tab_len]; have := p.2.1; omega, fun r hr => ?_, fun r hr => ?_⟩
  · obtain ⟨y, hy, rfl⟩ := List.mem_map.mp hr
    have m := rng_mem hy
    exact (row y m.1 (by have := p.2.1; omega)).1
  · obtain ⟨y, hy, rfl⟩ := List.mem_map.mp hr
    have m := rng_mem hy
    exact (row y m.1 (by have := p.2.1; omega)).2
end
theorem k4_eq : F_law_k4 = F_law_k15 := rfl
/-! k58 five -/
/-- planes that may be changed -/
def GQ (n : Nat) (X : List (List (List Int))) : Prop := X.length = n ∧ ∀ M ∈ X, M.length ≤ 2000 ∧ ∀ r ∈ M, 0 < r.length
theorem fr_gq {c a b t : Int} {R : List (List (List Int))} (f : Fr c a b t R) (hb : 1 ≤ b ∧ b ≤ 2000) : GQ (nn c) R := by
  refine ⟨f.len, fun M hM => ?_⟩
  obtain ⟨k, k0, k1, rfl⟩ := fr_mem f hM
  have p := f.pl k k0 k1
  have z2 := zp_in (c := c) (pl := k) (l := 1) (u := 2000) hb (by decide)
  exact ⟨by have := p.2.2.1; omega, fun r hr => by have := p.2.2.2.1 r hr; have := p.1; omega⟩
theorem b22_gv {n : Nat} {X : List (List (List Int))} {k y : Int} (h : GQ n X) (k0 : 0 ≤ k) (k1 : k < n) (y0 : 0 ≤ y) (y1 : y < ((itD X k).length : Int)) : Gv (F_law_b22 k X y) (fun Y => GQ n Y ∧ (itD Y k).length = (itD X k).length) := by
  have g : -(X.length : Int) ≤ k ∧ k < (X.length : Int) := by have := h.1; omega
  have p := h.2 _ (itD_mem g)
  have gy : -((itD X k).length : Int) ≤ y ∧ y < ((itD X k).length : Int) := by omega
  have pr := p.2 _ (itD_mem gy)
  unfold F_law_b22
  refine Gv.grd g (Gv.grd gy (Gv.grd ⟨by omega, by omega⟩ (Gv.bnd fun a ha => Gv.bnd fun b hb => .ok ⟨⟨by rw [hb, setL_len]; exact h.1, fun M hM => ?_⟩, ?_⟩)))
  · rw [hb] at hM
    rcases setL_mem hM with hM | rfl
    · exact h.2 M hM
    · rw [ha]
      refine ⟨by rw [setL_len]; exact p.1, fun r hr => ?_⟩
      rcases setL_mem hr with hr | rfl
      · exact p.2 r hr
      · rw [setL_len]; exact pr
  · rw [hb, set_at k0 g.2, ha, setL_len]
theorem b21_gv {n : Nat} {X : List (List (List Int))} {k : Int} (h : GQ n X) (k0 : 0 ≤ k) (k1 : k < n) : Gv (F_law_b21 X k) (GQ n) := by
  have g : -(X.length : Int) ≤ k ∧ k < (X.length : Int) := by have := h.1; omega
  have p := h.2 _ (itD_mem g)
  unfold F_law_b21
  refine Gv.grd g (Gv.grd ⟨by omega, by omega⟩ (Gv.bind (Gv.forS (P := fun _ Y => GQ n Y ∧ (itD Y k).length = (itD X k).length) ⟨h, rfl⟩ fun i x s hx q => ?_) fun s q => .ok q.1))
  obtain ⟨rfl, hi⟩ := rng_at hx
  rw [Int.toNat_natCast] at hi
  exact (b22_gv q.1 k0 k1 (by omega) (by rw [q.2]; omega)).imp fun Y z => ⟨z.1, z.2.trans q.2⟩
theorem fmt_top {w h d c : Int} (hd : 8 ≤ d ∧ d ≤ 12) : F_Format_top ⟨w, h, d, c⟩ = .ok (tp d) := by
  unfold F_Format_top
  exact Gv.get (Gv.grd ⟨by show 0 ≤ d; omega, by show d ≤ 4096; omega, one_4096⟩ (.ok rfl))
theorem sm_it {x : PyData} (h : ItOk x) : Sm 7 2 x := by
  rcases h with rfl | ⟨q, hq, rfl⟩
  · exact sm_non.imp (by decide) (by decide)
  · exact (sm_T2 (sm_int (by have := hq.dir; omega)) (sm_ints (m := 4) (fun v hv => by have := hq.val v hv; omega) (by rw [hq.len]; decide))).imp (by decide) (by decide)
theorem sm_of {c : Int} {x : PyData} (h : OfOk c x) : Sm 22 3 x := by
  have n0 := nn_in c
  rcases h with rfl | ⟨its, hl, hi, rfl⟩
  · exact sm_non.imp (by decide) (by decide)
  · exact (sm_L (m := 3) (fun i h => sm_it (hi i h)) (by omega)).imp (by decide) (by decide)
/-- a plane upside down -/
def turnP (M : List (List Int)) : List (List Int) := (rng 0 M.length).map fun j => itD M ((M.length : Int) - 1 - j)
theorem turnP_pl {w h t : Int} {M : List (List Int)} (p : Pl w h t M) : Pl w h t (turnP M) := by
  have m : ∀ r ∈ turnP M, r ∈ M := fun r hr => by
    obtain ⟨j, hj, rfl⟩ := List.mem_map.mp hr
    have := rng_mem hj
    exact itD_mem (by omega)
  exact ⟨p.1, p.2.1, by unfold turnP; rw [tab_len]; exact p.2.2.1, fun r hr => p.2.2.2.1 r (m r hr), fun r hr => p.2.2.2.2 r (m r hr)⟩
section
variable {w h d c high sl ly : Int} {db off : Bool} {P : List (List (List Int))} {O : List PyData}
theorem lawrest (f : Fr c (up w) (up h) (tp d) P) (hw : 1 ≤ w ∧ w ≤ 64) (hh : 1 ≤ h ∧ h ≤ 64) (hd : 8 ≤ d ∧ d ≤ 12) (hg : 1 ≤ high ∧ high ≤ 5) (hO : ∀ x ∈ O, OfOk c x) (hl : (O.length : Int) = (bh h + high - 1) / high) : Gv (F_law_k15 high ⟨⟨w, h, d, c⟩, sl, high, db, off, ly⟩ O P) (fun b => b = true) := by
  have n0 := nn_in c
  have ht := tp_in hd
  have uw : 8 ≤ up w ∧ up w ≤ 64 := by unfold up; omega
  have uh : 8 ≤ up h ∧ up h ≤ 64 := by unfold up; omega
  have sc : (0 : Int) < 1 * 2 ^ Int.toNat (d - 8) ∧ (1 : Int) * 2 ^ Int.toNat (d - 8) ≤ 16 := by
    have : d = 8 ∨ d = 9 ∨ d = 10 ∨ d = 11 ∨ d = 12 := by omega
    rcases this with rfl | rfl | rfl | rfl | rfl <;> decide
  have ol : O.length ≤ 100 := by
    have : (bh h + high - 1) / high ≤ bh h + high - 1 := Int.ediv_le_self _ (by unfold bh; omega)
    unfold bh at this hl
    omega
  have sh : ShowOk (encL encD [encL (encL (encL PyData.int)) P, encL encD O]) := by
    have a : Sm 20000 4 (encL (encL (encL PyData.int)) P) := (fr_sm f ⟨by omega, uw.2⟩ ⟨by omega, uh.2⟩ ht.2).imp (by decide) (by decide)
    have b : Sm 20000 4 (encL encD O) := (sm_L (m := 100) (fun x hx => sm_of (hO x hx)) ol).imp (by decide) (by decide)
    refine (sm_L (f := encD) (n := 20000) (k := 4) (m := 2) (xs := [encL (encL (encL PyData.int)) P, encL encD O]) (fun x hx => ?_) (Nat.le_refl 2)).show
    simp only [List.mem_cons, List.not_mem_nil, or_false] at hx
    rcases hx with rfl | rfl
    · exact a
    · exact b
  have due : ∀ (Q : List (List (List Int))), Fr c (up w) (up h) (tp d) Q → ∀ k : Int, 0 ≤ k → k < nn c → F__law_due (itD Q k) (sd c k) high O k (1 * 2 ^ Int.toNat (d - 8)) (tp d) = .ok (itD (FP c w h (1 * 2 ^ Int.toNat (d - 8)) (tp d) high Q O) k) := fun Q fq k k0 k1 => by
    have z1 := zp_in (c := c) (pl := k) uw (by omega)
    have z2 := zp_in (c := c) (pl := k) uh (by omega)
    have e : itD (FP c w h (1 * 2 ^ Int.toNat (d - 8)) (tp d) high Q O) k = (rng 0 (zp c (up h) k).toNat).map fun y => dr c w h (1 * 2 ^ Int.toNat (d - 8)) (tp d) high Q O k y := by
      unfold FP
      exact tab_itD k0 k1
    rw [e]
    exact due_eq (fq.pl k k0 k1) (by omega) (by omega) (by omega) sc hO (sd_in c k) hg (fun y y0 y1 => by rw [hl]; exact (last_slice hg.1 ⟨y0, by rw [← hgt_eq]; exact y1⟩).2) k0 k1
  have gs : (0 : Int) ≤ d - 8 ∧ d - 8 ≤ 4096 ∧ -(2 ^ 4096) < (1 : Int) ∧ (1 : Int) < 2 ^ 4096 := ⟨by omega, by omega, one_4096⟩
  have app : ∀ (Q : List (List (List Int))), Fr c (up w) (up h) (tp d) Q → F_apply_offsets ⟨⟨w, h, d, c⟩, sl, high, db, off, ly⟩ Q O = .ok (FP c w h (1 * 2 ^ Int.toNat (d - 8)) (tp d) high Q O) := fun Q fq => apply_eq fq ⟨by omega, by omega⟩ ⟨by omega, by omega⟩ hd rfl rfl hg hO hl
  have pe : noEr (F_Format_planes ⟨w, h, d, c⟩) = .ok ((nn c : Nat) : Int) := by rw [planes_eq]; rfl
  unfold F_law_k15
  refine Gv.grd sh (Gv.bind_eq pe (Gv.grd ⟨by omega, by omega⟩ ?_))
  rw [Int.toNat_natCast]
  have e1 := forS_list (xs := rng 0 (nn c)) (f := fun s x => F_law_b19 ⟨w, h, d, c⟩ high O P s x) (g := fun k => itD (FP c w h (1 * 2 ^ Int.toNat (d - 8)) (tp d) high P O) k) (fun s k hk hs2 => ?_) [] (by rw [rng_len]; show 0 + _ ≤ _; omega)
  rotate_left
  · have m := rng_mem hk
    refine Gv.get ?_
    unfold F_law_b19
    refine Gv.bind_eq (a := sd c k) ?_ ?_
    · unfold sd
      by_cases a : 0 < k
      · rw [if_pos a]
        show (if c = 1 then _ else _) = _
        by_cases b : c = 1
        · rw [if_pos b, if_pos ⟨a, b⟩]
        · rw [if_neg b, if_neg fun z => b z.2]
      · rw [if_neg a, if_neg fun z => a z.1]
    · unfold F_law_k20
      exact Gv.grd (by have := f.len; omega) (Gv.grd gs (Gv.bind_eq (a := tp d) (by rw [fmt_top hd]; rfl) (Gv.bind_eq (due P f k m.1 (by omega)) (Gv.grd hs2 (Gv.bnd fun z hz => .ok hz)))))
  refine Gv.bind_eq e1 ?_
  rw [List.nil_append]
  have fpf := fp_fr (u := 1 * 2 ^ Int.toNat (d - 8)) f ⟨hw.1, by omega⟩ ⟨hh.1, by omega⟩ (by omega) hg hO hl
  have tabF : (rng 0 (nn c)).map (fun k => itD (FP c w h (1 * 2 ^ Int.toNat (d - 8)) (tp d) high P O) k) = FP c w h (1 * 2 ^ Int.toNat (d - 8)) (tp d) high P O := (list_tab fpf.len).symm
  rw [tabF]
  unfold F_law_r19
  refine Gv.bind_eq (app P f) (Gv.grd sh (Gv.pos rfl (Gv.pos rfl (Gv.bind_eq pe (Gv.grd ⟨by omega, by omega⟩ (Gv.bind (Gv.forS (P := fun _ => GQ (nn c)) (fr_gq fpf ⟨by omega, by omega⟩) fun i x s hx q => ?_) fun s q => ?_))))))
  · obtain ⟨rfl, hi⟩ := rng_at hx
    rw [Int.toNat_natCast] at hi
    exact b21_gv q (by omega) (by omega)
  unfold F_law_r21
  have ft : Fr c (up w) (up h) (tp d) (P.map turnP) := by
    refine ⟨by rw [List.length_map]; exact f.len, fun k k0 k1 => ?_⟩
    rw [itD_map (by have := f.len; omega)]
    exact turnP_pl (f.pl k k0 k1)
  refine Gv.bind_eq (mapA_pure0 (g := turnP) (fun M hM => ?_) (by have := f.len; omega)) (Gv.bind_eq (app _ ft) (Gv.bind_eq pe (Gv.grd ⟨by omega, by omega⟩ ?_)))
  · obtain ⟨k, k0, k1, rfl⟩ := fr_mem f hM
    have p := f.pl k k0 k1
    have z2 := zp_in (c := c) (pl := k) uh (by omega)
    refine Gv.get (Gv.noEr ?_)
    unfold F_law_c23
    refine Gv.grd ⟨by omega, by have := p.2.2.1; omega⟩ (Gv.bind_eq (mapA_pure0 (g := fun j => itD (itD P k) (((itD P k).length : Int) - 1 - j)) (fun j hj => ?_) (by rw [rng_len]; have := p.2.2.1; omega)) (.ok rfl))
    have m := rng_mem hj
    unfold F_law_c24
    exact Gv.get (Gv.noEr (Gv.grd (by omega) (.ok rfl)))
  rw [Int.toNat_natCast]
  have fpt := fp_fr (u := 1 * 2 ^ Int.toNat (d - 8)) ft ⟨hw.1, by omega⟩ ⟨hh.1, by omega⟩ (by omega) hg hO hl
  refine Gv.bind_eq (forR_unit fun k hk => ?_) ?_
  · have m := rng_mem hk
    have g1 : -((FP c w h (1 * 2 ^ Int.toNat (d - 8)) (tp d) high (P.map turnP) O).length : Int) ≤ k ∧ k < ((FP c w h (1 * 2 ^ Int.toNat (d - 8)) (tp d) high (P.map turnP) O).length : Int) := by have := fpt.len; omega
    have g2 : -((P.map turnP).length : Int) ≤ k ∧ k < ((P.map turnP).length : Int) := by have := ft.len; omega
    have dk := due _ ft k m.1 (by omega)
    have tpe : noEr (F_Format_top ⟨w, h, d, c⟩) = .ok (tp d) := by rw [fmt_top hd]; rfl
    refine Gv.get ?_
    unfold F_law_b25
    refine Gv.ite (fun a => ?_) fun a => ?_
    · show Gv (if c = 1 then _ else _) _
      refine Gv.ite (fun b => ?_) fun b => ?_
      · rw [show sd c k = 4 from by unfold sd; rw [if_pos ⟨a, b⟩]] at dk
        exact Gv.grd g1 (Gv.grd g2 (Gv.grd gs (Gv.bind_eq tpe (Gv.bind_eq dk (Gv.pos rfl (.ok rfl))))))
      · rw [show sd c k = 8 from by unfold sd; rw [if_neg fun z => b z.2]] at dk
        exact Gv.grd g1 (Gv.grd g2 (Gv.grd gs (Gv.bind_eq tpe (Gv.bind_eq dk (Gv.pos rfl (.ok rfl))))))
    · rw [show sd c k = 8 from by unfold sd; rw [if_neg fun z => a z.1]] at dk
      exact Gv.grd g1 (Gv.grd g2 (Gv.grd gs (Gv.bind_eq tpe (Gv.bind_eq dk (Gv.pos rfl (.ok rfl))))))
  rw [aft_go]
  unfold F_law_r25
  exact Gv.grd sh (.ok (by simp))
end
/-! k58 six -/
theorem items_gv {c cell : Int} (h0 : 0 ≤ cell) : Gv (F__law_items cell (nn c)) (OfOk c) := by
  have n0 := nn_in c
  unfold F__law_items
  refine Gv.bind (digits_gv _ _ _ (by decide) (by decide) (by omega) (by omega)) fun ds hds => Gv.grd (by have := hds.1; omega) (Gv.ite (fun _ => .ok (.inl rfl)) fun _ => Gv.grd ⟨by omega, by omega⟩ ?_)
  rw [Int.toNat_natCast]
  refine Gv.bind (Gv.forS (P := fun i s => s.length = i ∧ ∀ x ∈ s, ItOk x) ⟨rfl, fun x hx => nomatch hx⟩ fun i x s hx q => ?_) fun s q => .ok (.inr ⟨s, by rw [q.1, rng_len], q.2, rfl⟩)
  obtain ⟨rfl, hi⟩ := rng_at hx
  unfold F__law_items_b1
  have gi : -(ds.length : Int) ≤ 0 + (i : Int) ∧ 0 + (i : Int) < (ds.length : Int) := by have := hds.1; omega
  have di := (hds.2 _ (itD_mem gi)).1
  refine Gv.grd gi (Gv.bnd fun v hv => Gv.bind (P := ItOk) (Gv.ite (fun _ => .ok (.inr ⟨_, ⟨by show 0 ≤ v / 4 % 4 ∧ v / 4 % 4 < 4; omega, rfl, fun z hz => ?_⟩, rfl⟩)) fun _ => .ok (.inl rfl)) fun it hit => ?_)
  · simp only [List.mem_cons, List.not_mem_nil, or_false] at hz
    rcases hz with rfl | rfl | rfl | rfl <;> omega
  · unfold F__law_items_k2
    refine Gv.grd (by rw [q.1]; omega) (Gv.bnd fun y hy => .ok ?_)
    subst hy
    refine ⟨by rw [List.length_append, q.1]; rfl, fun x hx => ?_⟩
    rcases List.mem_append.mp hx with hx | hx
    · exact q.2 x hx
    · rw [List.mem_singleton.mp hx]
      exact hit
theorem mod3_gv {c a b t : Int} {P : List (List (List Int))} (f : Fr c a b t P) (ha : 1 ≤ a ∧ a ≤ 1000) (hb : 1 ≤ b ∧ b ≤ 1000) (ht : 2 ≤ t) : Gv (mapA P [] (fun x => noEr (F_law_c16 x))) (Fr c a b t) := by
  have n0 := nn_in c
  have one : ∀ M ∈ P, noEr (F_law_c16 M) = .ok (M.map fun r => r.map fun z => z % 3) := fun M hM => by
    obtain ⟨k, k0, k1, rfl⟩ := fr_mem f hM
    have p := f.pl k k0 k1
    have z1 := zp_in (c := c) (pl := k) ha (by omega)
    have z2 := zp_in (c := c) (pl := k) hb (by omega)
    refine Gv.get (Gv.noEr ?_)
    unfold F_law_c16
    refine Gv.bind_eq (mapA_pure0 (g := fun r => r.map fun z => z % 3) (fun r hr => ?_) (by have := p.2.2.1; omega)) (.ok rfl)
    refine Gv.get (Gv.noEr ?_)
    unfold F_law_c17
    exact Gv.bind_eq (mapA_pure0 (g := fun z => z % 3) (fun z _ => rfl) (by have := p.2.2.2.1 r hr; omega)) (.ok rfl)
  refine Gv.of_eq (mapA_pure0 (g := fun M => M.map fun r => r.map fun z => z % 3) one (by have := f.len; omega)) ⟨by rw [List.length_map]; exact f.len, fun k k0 k1 => ?_⟩
  rw [itD_map (by have := f.len; omega)]
  have p := f.pl k k0 k1
  refine ⟨p.1, p.2.1, by rw [List.length_map]; exact p.2.2.1, fun r hr => ?_, fun r hr z hz => ?_⟩
  · obtain ⟨q, hq, rfl⟩ := List.mem_map.mp hr
    rw [List.length_map]
    exact p.2.2.2.1 q hq
  · obtain ⟨q, hq, rfl⟩ := List.mem_map.mp hr
    obtain ⟨v, hv, rfl⟩ := List.mem_map.mp hz
    omega
theorem c5_eq : F_law_c5 = F_law_c16 := rfl
theorem law_true (script : List Int) (hs : script.length ≤ 63) : F_law script = .ok true := by
  refine Gv.get ?_
  unfold F_law
  refine Gv.bind (cell_gv _ _ (by decide)) fun v0 _ => Gv.bind (digits_gv _ _ _ (by decide) (by decide) (by decide) (by decide)) fun ds hds => ?_
  have gi : ∀ k : Int, 0 ≤ k → k < 6 → -(ds.length : Int) ≤ k ∧ k < (ds.length : Int) := fun k _ _ => by have := hds.1; omega
  have m : ∀ k : Int, 0 ≤ k → k < 6 → 0 ≤ itD ds k := fun k a b => (hds.2 _ (itD_mem (gi k a b))).1
  have m0 := m 0 (by decide) (by decide)
  have m1 := m 1 (by decide) (by decide)
  have m2 := m 2 (by decide) (by decide)
  have m3 := m 3 (by decide) (by decide)
  have m4 := m 4 (by decide) (by decide)
  have g0 := gi 0 (by decide) (by decide)
  have g1 := gi 1 (by decide) (by decide)
  refine Gv.grd g0 (Gv.bnd fun W hW => Gv.grd g1 (Gv.bnd fun H hH => Gv.bind (P := fun p : Int × Int => (1 ≤ p.1 ∧ p.1 ≤ 64) ∧ (1 ≤ p.2 ∧ p.2 ≤ 64)) (Gv.grd g0 (Gv.ite (fun _ => Gv.grd g0 (Gv.bnd fun a ha => Gv.grd g1 (Gv.bnd fun b hb => .ok ⟨by omega, by omega⟩))) fun _ => .ok ⟨by omega, by omega⟩)) ?_))
  rintro ⟨w, h⟩ ⟨hw, hh⟩
  show Gv (F_law_k1 script ds w h) _
  unfold F_law_k1
  refine Gv.grd (gi 2 (by decide) (by decide)) (Gv.grd (gi 3 (by decide) (by decide)) ?_)
  have hd : 8 ≤ 8 + itD ds 2 % 5 ∧ 8 + itD ds 2 % 5 ≤ 12 := by omega
  have hc : 0 ≤ itD ds 3 % 3 ∧ itD ds 3 % 3 ≤ 2 := by omega
  have hg : 1 ≤ 1 + itD ds 4 % 5 ∧ 1 + itD ds 4 % 5 ≤ 5 := by omega
  have g5 := gi 5 (by decide) (by decide)
  generalize 8 + itD ds 2 % 5 = d at hd ⊢
  generalize itD ds 3 % 3 = c at hc ⊢
  generalize 1 + itD ds 4 % 5 = high at hg ⊢
  simp only at hw hh
  have ff : F_Format___init__ w h d c = .ok ⟨w, h, d, c⟩ := by
    unfold F_Format___init__
    refine Gv.get ?_
    refine Gv.pos (by omega) (Gv.pos (by omega) (Gv.pos (by omega) (Gv.pos (by omega) (Gv.pos (by omega) (Gv.pos (by omega) (Gv.pos (by omega) (Gv.pos (by omega) (.ok rfl))))))))
  have fs : ∀ off : Bool, F_Settings___init__ ⟨w, h, d, c⟩ 1 high false off 1 = .ok ⟨⟨w, h, d, c⟩, 1, high, false, off, 1⟩ := fun off => by
    unfold F_Settings___init__
    have e1 : (decide (1 ≤ high) && decide (high ≤ 32)) = true := by rw [decide_eq_true hg.1, decide_eq_true (by omega)]; rfl
    have rq : ∀ t, F__require (decide (1 ≤ high) && decide (high ≤ 32)) t = .ok () := fun t => by rw [e1]; rfl
    have r1 : ∀ t, F__require (decide ((1 : Int) ≤ 1) && decide ((1 : Int) ≤ 4)) t = .ok () := fun t => rfl
    rw [rq, r1, r1]
    rfl
  have uw : 8 ≤ up w ∧ up w ≤ 64 := by unfold up; omega
  have uh : 8 ≤ up h ∧ up h ≤ 64 := by unfold up; omega
  have sl := slices_eq (w := w) (h := h) (d := d) (c := c) (high := high) (sl := 1) (db := false) (off := true) (ly := 1) ⟨hg.1, by omega⟩
  have sn : 0 ≤ (bh h + high - 1) / high ∧ (bh h + high - 1) / high ≤ 100 := by
    have : (bh h + high - 1) / high ≤ bh h + high - 1 := Int.ediv_le_self _ (by unfold bh; omega)
    refine ⟨Int.ediv_nonneg (by unfold bh; omega) (by omega), ?_⟩
    unfold bh at this ⊢
    omega
  refine Gv.bind_eq ff (Gv.grd (gi 4 (by decide) (by decide)) (Gv.bnd fun hi hhi => ?_))
  subst hhi
  refine Gv.bind_eq (fs true) (Gv.bind_eq sl (Gv.grd ⟨by omega, by omega⟩ (Gv.bind (Gv.forS (P := fun i s => s.length = i ∧ ∀ x ∈ s, OfOk c x) ⟨rfl, fun x hx => nomatch hx⟩ fun i x s hx q => ?_) fun O q => ?_)))
  · obtain ⟨rfl, hi2⟩ := rng_at hx
    unfold F_law_b2
    refine Gv.bind (cell_gv _ _ (by omega)) fun v hv => Gv.bind_eq (a := ((nn c : Nat) : Int)) (by rw [planes_eq]; rfl) (Gv.bind (items_gv (by omega)) fun it hit => Gv.grd (by rw [q.1]; omega) (Gv.bnd fun y hy => .ok ?_))
    subst hy
    refine ⟨by rw [List.length_append, q.1]; rfl, fun x hx => ?_⟩
    rcases List.mem_append.mp hx with hx | hx
    · exact q.2 x hx
    · rw [List.mem_singleton.mp hx]
      exact hit
  rw [rng_len] at q
  have ol : (O.length : Int) = (bh h + hi - 1) / hi := by rw [q.1]; omega
  have n0 := nn_in c
  have pl : ∀ cell : Int, 0 ≤ cell → ∀ (K : List (List (List Int)) → Rx Bool), (∀ P, Fr c (up w) (up h) (tp d) P → Gv (K P) (fun b => b = true)) → Gv (Rx.bind (noEr (F_Format_top ⟨w, h, d, c⟩)) fun v => Rx.bind (F__law_planes cell ⟨w, h, d, c⟩ v) K) (fun b => b = true) := fun cell c0 K hK => Gv.bind_eq (a := tp d) (by rw [fmt_top hd]; rfl) (Gv.bind (lplanes_gv ⟨hw.1, by omega⟩ ⟨hh.1, by omega⟩ ⟨by have := tp_in hd; omega, (tp_in hd).2⟩ c0) fun P hP => hK P hP)
  have md : ∀ P, Fr c (up w) (up h) (tp d) P → Gv (grd (-((ds : (List Int)).length : Int) ≤ 5 ∧ 5 < ((ds : (List Int)).length : Int)) <| (if (((itD (ds) (5)) % 3) : Int) = 0 then Rx.bind (mapA P [] (fun x => noEr (F_law_c16 x))) fun v => .ok v else .ok P) : Rx (List (List (List Int)))) (Fr c (up w) (up h) (tp d)) := fun P hP => Gv.grd g5 (Gv.ite (fun _ => Gv.bind (mod3_gv hP ⟨by omega, by omega⟩ ⟨by omega, by omega⟩ (by have := tp_in hd; omega)) fun Q hQ => .ok hQ) fun _ => .ok hP)
  unfold F_law_r2
  refine Gv.grd g5 (Gv.ite (fun _ => ?_) fun _ => ?_)
  · have ch : ∀ x ∈ O, Gv (noEr (F_law_c3 ⟨w, h, d, c⟩ x)) (OfOk c) := fun x hx => by
      refine Gv.noEr ?_
      unfold F_law_c3
      refine Gv.ite (fun _ => .ok (.inl rfl)) fun _ => Gv.bind_eq planes_eq (Gv.grd ⟨by omega, by omega, by show 1 * _ ≤ _; omega⟩ (.ok (.inr ⟨_, ?_, fun i hi => .inl ?_, rfl⟩)))
      · rw [repL_len]
        show Int.toNat _ * 1 = _
        omega
      · unfold repL at hi
        obtain ⟨l, hl, hx⟩ := List.mem_flatten.mp hi
        rw [(List.mem_replicate.mp hl).2] at hx
        exact List.mem_singleton.mp hx
    have mp : Gv (mapA O [] (fun x => noEr (F_law_c3 ⟨w, h, d, c⟩ x))) (fun O2 => O2.length = O.length ∧ ∀ x ∈ O2, OfOk c x) := by
      have ch2 : ∀ x, ∃ y, x ∈ O → noEr (F_law_c3 ⟨w, h, d, c⟩ x) = .ok y ∧ OfOk c y := fun x => by
        by_cases hx : x ∈ O
        · obtain ⟨y, e, p⟩ := ch x hx
          exact ⟨y, fun _ => ⟨e, p⟩⟩
        · exact ⟨.none, fun z => absurd z hx⟩
      obtain ⟨g, hg2⟩ : ∃ g : PyData → PyData, ∀ x, x ∈ O → noEr (F_law_c3 ⟨w, h, d, c⟩ x) = .ok (g x) ∧ OfOk c (g x) := ⟨fun x => Classical.choose (ch2 x), fun x => Classical.choose_spec (ch2 x)⟩
      refine Gv.of_eq (mapA_pure0 (g := g) (fun x hx => (hg2 x hx).1) (by omega)) ⟨List.length_map .., fun x hx => ?_⟩
      obtain ⟨y, hy, rfl⟩ := List.mem_map.mp hx
      exact (hg2 y hy).2
    refine Gv.bind_eq (fs false) (Gv.bind mp fun O2 q2 => Gv.bind (cell_gv _ _ (by decide)) fun v hv => pl v hv _ fun P hP => Gv.bind (md P hP) fun Q hQ => ?_)
    show Gv (F_law_k4 hi _ O2 Q) _
    rw [k4_eq]
    exact lawrest hQ hw hh hd hg q2.2 (by rw [q2.1]; exact ol)
  · exact Gv.bind (cell_gv _ _ (by decide)) fun v hv => pl v hv _ fun P hP => Gv.bind (md P hP) fun Q hQ => lawrest hQ hw hh hd hg q.2 ol

end Vx
namespace Vx
open PySem PySem.Spec PyProof.Rows L2
def topS (i : Nat) : Stmt := PySem.Challenge.pw_thaumatrope_k58_whole_pictures_offset.main.body.getD i (.Pass ⟨0, 0, 0, 0⟩)
abbrev s__law_digits : Stmt := topS 27
abbrev s_Format___init__ : Stmt := inClass (topS 10) 0
abbrev s__require : Stmt := topS 24
abbrev s_Settings___init__ : Stmt := inClass (topS 23) 0
abbrev s_Format_planes : Stmt := inClass (topS 10) 2
abbrev s_Format_blocks : Stmt := inClass (topS 10) 7
abbrev s_Format__plane_size : Stmt := inClass (topS 10) 10
abbrev s_Format_coded_size : Stmt := inClass (topS 10) 6
abbrev s__law_planes : Stmt := topS 28
abbrev s_copy_planes : Stmt := topS 11
abbrev s_block_side : Stmt := topS 13
abbrev s_Settings_slices : Stmt := inClass (topS 23) 2
abbrev s_Settings_slice_rows : Stmt := inClass (topS 23) 3
abbrev s_slice_span : Stmt := topS 14
abbrev s_clip : Stmt := topS 2
abbrev s__sign : Stmt := topS 21
abbrev s_Format_top : Stmt := inClass (topS 10) 4
abbrev s__filtered_row : Stmt := topS 20
abbrev s__filter_slice : Stmt := topS 19
abbrev s_apply_offsets : Stmt := topS 18
abbrev s__law_cell : Stmt := topS 26
abbrev s__law_items : Stmt := topS 29
abbrev s__law_sign : Stmt := topS 30
abbrev s__law_sample : Stmt := topS 31
abbrev s__law_due : Stmt := topS 32
abbrev s_law : Stmt := topS 33
structure Ads where
  c_Format : Addr
  c_Settings : Addr
  x_CodecError : Addr
  x_BadFormat : Addr
  x_OutOfRange : Addr
  x_BadHeader : Addr
  t_STEPS : Addr
  t_STEPS_0 : Addr
  t_STEPS_1 : Addr
  t_STEPS_2 : Addr
  t_STEPS_3 : Addr
  z0 : Addr
def excA (AD : Ads) : Nat → Addr
  | 0 => AD.x_CodecError
  | 1 => AD.x_BadFormat
  | 2 => AD.x_OutOfRange
  | 3 => AD.x_BadHeader
  | _ => AD.z0
structure Txt (w : World) (K : PySem.W.Frag) (mg : Str → Option Value) (AD : Ads) : Prop where
  b_int : mg "int" = none
  b_range : mg "range" = none
  g_BLOCK : ∃ u, mg "BLOCK" = some u ∧ RelV (V.int 8) u
  b_list : mg "list" = none
  b_min : mg "min" = none
  b_max : mg "max" = none
  g_STEPS : ∃ u, mg "STEPS" = some u ∧ RelV (V.ref AD.t_STEPS) u
  ts_STEPS : ∀ H, SqT K H AD.t_STEPS (([AD.t_STEPS_0, AD.t_STEPS_1, AD.t_STEPS_2, AD.t_STEPS_3] : List Addr).map V.ref)
  tt_STEPS : ∀ k : Int, 0 ≤ k → k < 4 → ∀ H, SqT K H (itD ([AD.t_STEPS_0, AD.t_STEPS_1, AD.t_STEPS_2, AD.t_STEPS_3] : List Addr) k) ((itD ([[-1, 0], [0, -1], [-1, -1], [-1, 1]] : List (List Int)) k).map V.int)
  b_abs : mg "abs" = none
  b_len : mg "len" = none
  g_LEAST_DEPTH : ∃ u, mg "LEAST_DEPTH" = some u ∧ RelV (V.int 8) u
  b_enumerate : mg "enumerate" = none
  b_repr : mg "repr" = none
  b_isinstance : mg "isinstance" = none
  cl_Format : Cls K AD.c_Format
  n_Format_width : NoAttr K AD.c_Format "width"
  n_Format_height : NoAttr K AD.c_Format "height"
  n_Format_depth : NoAttr K AD.c_Format "depth"
  n_Format_chroma : NoAttr K AD.c_Format "chroma"
  cl_Settings : Cls K AD.c_Settings
  n_Settings_fmt : NoAttr K AD.c_Settings "fmt"
  n_Settings_slots : NoAttr K AD.c_Settings "slots"
  n_Settings_rows : NoAttr K AD.c_Settings "rows"
  n_Settings_deblock : NoAttr K AD.c_Settings "deblock"
  n_Settings_offset : NoAttr K AD.c_Settings "offset"
  n_Settings_layers : NoAttr K AD.c_Settings "layers"
  xg_BadFormat : mg "BadFormat" = some (.ref AD.x_BadFormat)
  xx_BadFormat : PySem.W.excIn K AD.x_BadFormat [.type "ValueError", .type "Exception", .type "BaseException", .type "object"] "ValueError.__new__" = true
  xk_BadFormat : PySem.W.keepIn K (.ref AD.x_BadFormat) = true
  xb_BadFormat : PySem.W.subIn K (.ref AD.x_BadFormat) (.type "BaseException") = some true
  xt_BadFormat : PySem.W.typeIn K (.ref AD.x_BadFormat) = some (.type "type")
  xg_BadHeader : mg "BadHeader" = some (.ref AD.x_BadHeader)
  xx_BadHeader : PySem.W.excIn K AD.x_BadHeader [.type "ValueError", .type "Exception", .type "BaseException", .type "object"] "ValueError.__new__" = true
  xk_BadHeader : PySem.W.keepIn K (.ref AD.x_BadHeader) = true
  xb_BadHeader : PySem.W.subIn K (.ref AD.x_BadHeader) (.type "BaseException") = some true
  xt_BadHeader : PySem.W.typeIn K (.ref AD.x_BadHeader) = some (.type "type")
  xg_OutOfRange : mg "OutOfRange" = some (.ref AD.x_OutOfRange)
  xx_OutOfRange : PySem.W.excIn K AD.x_OutOfRange [.type "ValueError", .type "Exception", .type "BaseException", .type "object"] "ValueError.__new__" = true
  xk_OutOfRange : PySem.W.keepIn K (.ref AD.x_OutOfRange) = true
  xb_OutOfRange : PySem.W.subIn K (.ref AD.x_OutOfRange) (.type "BaseException") = some true
  xt_OutOfRange : PySem.W.typeIn K (.ref AD.x_OutOfRange) = some (.type "type")
abbrev pat__law_digits_0 : Pat := (3, [], fun vs _ => vs)
abbrev pats__law_digits : List Pat := [pat__law_digits_0]
abbrev pat_Format___init___0 : Pat := (3, ["depth", "chroma"], fun vs zs => match vs, zs with | [a0, a1, a2], [b0, b1] => [a0, a1, a2, b0, b1] | _, _ => [])
abbrev pats_Format___init__ : List Pat := [pat_Format___init___0]
abbrev pat__require_0 : Pat := (2, [], fun vs _ => vs)
abbrev pats__require : List Pat := [pat__require_0]
def gk_Settings___init___0 {α : Type} (us mz ws : List α) : List α := match us, mz, ws with | [a0, a1], [m0, m1, m2], [b0, b1] => [a0, a1, m0, b0, m1, b1, m2] | _, _, _ => []
theorem gknil_Settings___init___0 {α : Type} {us mz ws : List α} (h : us.length ≠ 2 ∨ mz.length ≠ 3 ∨ ws.length ≠ 2) : gk_Settings___init___0 us mz ws = [] := by
  unfold gk_Settings___init___0
  split
  · simp at h
  · rfl
theorem gkrel_Settings___init___0 {vs mz zs : List V} {us mv ws : List Value} (r : Vals vs us) (s : Vals mz mv) (q : Vals zs ws) : Vals (gk_Settings___init___0 vs mz zs) (gk_Settings___init___0 us mv ws) := by
  by_cases h1 : vs.length = 2
  · by_cases h2 : mz.length = 3
    · by_cases h3 : zs.length = 2
      · obtain ⟨a0, a1, rfl⟩ := len2 h1
        obtain ⟨m0, m1, m2, rfl⟩ := len3 h2
        obtain ⟨b0, b1, rfl⟩ := len2 h3
        cases r with | cons r0 r =>
          cases r with | cons r1 r =>
            cases r
            cases s with | cons s0 s =>
              cases s with | cons s1 s =>
                cases s with | cons s2 s =>
                  cases s
                  cases q with | cons q0 q =>
                    cases q with | cons q1 q =>
                      cases q
                      exact (.cons r0 (.cons r1 (.cons s0 (.cons q0 (.cons s1 (.cons q1 (.cons s2 .nil)))))))
      · have k : ws.length ≠ 2 := fun z => h3 (q.length.trans z)
        rw [gknil_Settings___init___0 (by first | exact .inl h3 | exact .inr (.inl h3) | exact .inr (.inr h3)), gknil_Settings___init___0 (by first | exact .inl k | exact .inr (.inl k) | exact .inr (.inr k))]
        exact .nil
    · have k : mv.length ≠ 3 := fun z => h2 (s.length.trans z)
      rw [gknil_Settings___init___0 (by first | exact .inl h2 | exact .inr (.inl h2) | exact .inr (.inr h2)), gknil_Settings___init___0 (by first | exact .inl k | exact .inr (.inl k) | exact .inr (.inr k))]
      exact .nil
  · have k : us.length ≠ 2 := fun z => h1 (r.length.trans z)
    rw [gknil_Settings___init___0 (by first | exact .inl h1 | exact .inr (.inl h1) | exact .inr (.inr h1)), gknil_Settings___init___0 (by first | exact .inl k | exact .inr (.inl k) | exact .inr (.inr k))]
    exact .nil
abbrev pat_Settings___init___0 : Pat := (2, ["rows", "offset"], fun vs zs => gk_Settings___init___0 vs [V.int 1, V.bl false, V.int 1] zs)
def gk_Settings___init___1 {α : Type} (us mz ws : List α) : List α := match us, mz, ws with | [a0, a1], [m0, m1, m2, m3], [b0] => [a0, a1, m0, b0, m1, m2, m3] | _, _, _ => []
theorem gknil_Settings___init___1 {α : Type} {us mz ws : List α} (h : us.length ≠ 2 ∨ mz.length ≠ 4 ∨ ws.length ≠ 1) : gk_Settings___init___1 us mz ws = [] := by
  unfold gk_Settings___init___1
  split
  · simp at h
  · rfl
theorem gkrel_Settings___init___1 {vs mz zs : List V} {us mv ws : List Value} (r : Vals vs us) (s : Vals mz mv) (q : Vals zs ws) : Vals (gk_Settings___init___1 vs mz zs) (gk_Settings___init___1 us mv ws) := by
  by_cases h1 : vs.length = 2
  · by_cases h2 : mz.length = 4
    · by_cases h3 : zs.length = 1
      · obtain ⟨a0, a1, rfl⟩ := len2 h1
        obtain ⟨m0, m1, m2, m3, rfl⟩ := len4 h2
        obtain ⟨b0, rfl⟩ := len1 h3
        cases r with | cons r0 r =>
          cases r with | cons r1 r =>
            cases r
            cases s with | cons s0 s =>
              cases s with | cons s1 s =>
                cases s with | cons s2 s =>
                  cases s with | cons s3 s =>
                    cases s
                    cases q with | cons q0 q =>
                      cases q
                      exact (.cons r0 (.cons r1 (.cons s0 (.cons q0 (.cons s1 (.cons s2 (.cons s3 .nil)))))))
      · have k : ws.length ≠ 1 := fun z => h3 (q.length.trans z)
        rw [gknil_Settings___init___1 (by first | exact .inl h3 | exact .inr (.inl h3) | exact .inr (.inr h3)), gknil_Settings___init___1 (by first | exact .inl k | exact .inr (.inl k) | exact .inr (.inr k))]
        exact .nil
    · have k : mv.length ≠ 4 := fun z => h2 (s.length.trans z)
      rw [gknil_Settings___init___1 (by first | exact .inl h2 | exact .inr (.inl h2) | exact .inr (.inr h2)), gknil_Settings___init___1 (by first | exact .inl k | exact .inr (.inl k) | exact .inr (.inr k))]
      exact .nil
  · have k : us.length ≠ 2 := fun z => h1 (r.length.trans z)
    rw [gknil_Settings___init___1 (by first | exact .inl h1 | exact .inr (.inl h1) | exact .inr (.inr h1)), gknil_Settings___init___1 (by first | exact .inl k | exact .inr (.inl k) | exact .inr (.inr k))]
    exact .nil
abbrev pat_Settings___init___1 : Pat := (2, ["rows"], fun vs zs => gk_Settings___init___1 vs [V.int 1, V.bl false, V.bl false, V.int 1] zs)
abbrev pats_Settings___init__ : List Pat := [pat_Settings___init___0, pat_Settings___init___1]
abbrev pats_Format_planes : List Pat := []
abbrev pat_Format_blocks_0 : Pat := (1, [], fun vs _ => vs)
abbrev pats_Format_blocks : List Pat := [pat_Format_blocks_0]
abbrev pat_Format__plane_size_0 : Pat := (4, [], fun vs _ => vs)
abbrev pats_Format__plane_size : List Pat := [pat_Format__plane_size_0]
abbrev pat_Format_coded_size_0 : Pat := (2, [], fun vs _ => vs)
abbrev pats_Format_coded_size : List Pat := [pat_Format_coded_size_0]
abbrev pat__law_planes_0 : Pat := (3, [], fun vs _ => vs)
abbrev pats__law_planes : List Pat := [pat__law_planes_0]
abbrev pat_copy_planes_0 : Pat := (1, [], fun vs _ => vs)
abbrev pats_copy_planes : List Pat := [pat_copy_planes_0]
abbrev pat_block_side_0 : Pat := (2, [], fun vs _ => vs)
abbrev pats_block_side : List Pat := [pat_block_side_0]
abbrev pat_Settings_slices_0 : Pat := (1, [], fun vs _ => vs)
abbrev pats_Settings_slices : List Pat := [pat_Settings_slices_0]
abbrev pat_Settings_slice_rows_0 : Pat := (2, [], fun vs _ => vs)
abbrev pats_Settings_slice_rows : List Pat := [pat_Settings_slice_rows_0]
abbrev pat_slice_span_0 : Pat := (3, [], fun vs _ => vs)
abbrev pats_slice_span : List Pat := [pat_slice_span_0]
abbrev pat_clip_0 : Pat := (3, [], fun vs _ => vs)
abbrev pats_clip : List Pat := [pat_clip_0]
abbrev pat__sign_0 : Pat := (1, [], fun vs _ => vs)
abbrev pats__sign : List Pat := [pat__sign_0]
abbrev pats_Format_top : List Pat := []
abbrev pat__filtered_row_0 : Pat := (4, [], fun vs _ => vs)
abbrev pats__filtered_row : List Pat := [pat__filtered_row_0]
abbrev pat__filter_slice_0 : Pat := (5, [], fun vs _ => vs)
abbrev pats__filter_slice : List Pat := [pat__filter_slice_0]
abbrev pat_apply_offsets_0 : Pat := (3, [], fun vs _ => vs)
abbrev pats_apply_offsets : List Pat := [pat_apply_offsets_0]
abbrev pat__law_cell_0 : Pat := (2, [], fun vs _ => vs)
abbrev pats__law_cell : List Pat := [pat__law_cell_0]
abbrev pat__law_items_0 : Pat := (2, [], fun vs _ => vs)
abbrev pats__law_items : List Pat := [pat__law_items_0]
abbrev pat__law_sign_0 : Pat := (1, [], fun vs _ => vs)
abbrev pats__law_sign : List Pat := [pat__law_sign_0]
abbrev pat__law_sample_0 : Pat := (6, [], fun vs _ => vs)
abbrev pats__law_sample : List Pat := [pat__law_sample_0]
abbrev pat__law_due_0 : Pat := (7, [], fun vs _ => vs)
abbrev pats__law_due : List Pat := [pat__law_due_0]
abbrev pats_law : List Pat := []
def sp__law_digits (K : PySem.W.Frag) (AD : Ads) : Sp := fun vs H Q E => ∃ (G : Hp) (cell' : Int) (base' : Int) (most' : Int), vs = [.int cell', .int base', .int most'] ∧ Same G H ∧ cW (F__law_digits cell' base' most') (fun v => ∀ p H', H p = none → Same H H' → H' p = some (.lst (v.map V.int)) → Q (.ref p) H') (fun e => ∀ H', Same H H' → E (.ref (excA AD e)) none H')
def sp_Format___init__ (K : PySem.W.Frag) (AD : Ads) : Sp := fun vs H Q E => ∃ (G : Hp) (p_self dx_self : Addr) (width' : Int) (height' : Int) (depth' : Int) (chroma' : Int), vs = [.ref p_self, .int width', .int height', .int depth', .int chroma'] ∧ Same G H ∧ (∀ a ∈ [p_self], G a = none) ∧ H p_self = some (.ins AD.c_Format dx_self []) ∧ cW (F_Format___init__ width' height' depth' chroma') (fun v => ∀ (H' : Hp), SameX p_self H H' → H' p_self = some (.ins AD.c_Format dx_self [("width", V.int v.width), ("height", V.int v.height), ("depth", V.int v.depth), ("chroma", V.int v.chroma)]) → Q .non H') (fun e => ∀ H', SameX p_self H H' → E (.ref (excA AD e)) none H')
def sp__require (K : PySem.W.Frag) (AD : Ads) : Sp := fun vs H Q E => ∃ (G : Hp) (holds' : Bool) (text' : Str), vs = [.bl holds', .str text'] ∧ Same G H ∧ cW (F__require holds' text') (fun v => Q .non H) (fun e => E (.ref (excA AD e)) none H)
def sp_Settings___init__ (K : PySem.W.Frag) (AD : Ads) : Sp := fun vs H Q E => ∃ (G : Hp) (p_self dx_self : Addr) (p_fmt dx_fmt : Addr) (fmt' : St_Format) (slots' : Int) (rows' : Int) (deblock' : Bool) (offset' : Bool) (layers' : Int), vs = [.ref p_self, .ref p_fmt, .int slots', .int rows', .bl deblock', .bl offset', .int layers'] ∧ Same G H ∧ (∀ a ∈ [p_self], G a = none) ∧ H p_self = some (.ins AD.c_Settings dx_self []) ∧ (hideL [p_self] H) p_fmt = some (.ins AD.c_Format dx_fmt [("width", V.int fmt'.width), ("height", V.int fmt'.height), ("depth", V.int fmt'.depth), ("chroma", V.int fmt'.chroma)]) ∧ cW (F_Settings___init__ fmt' slots' rows' deblock' offset' layers') (fun v => ∀ (H' : Hp), SameX p_self H H' → H' p_self = some (.ins AD.c_Settings dx_self [("fmt", V.ref p_fmt), ("slots", V.int v.slots), ("rows", V.int v.rows), ("deblock", V.bl v.deblock), ("offset", V.bl v.offset), ("layers", V.int v.layers)]) → Q .non H') (fun e => ∀ H', SameX p_self H H' → E (.ref (excA AD e)) none H')
def sp_Format_planes (K : PySem.W.Frag) (AD : Ads) : Sp := fun vs H Q E => ∃ (G : Hp) (p_self dx_self : Addr) (self' : St_Format), vs = [.ref p_self] ∧ Same G H ∧ (hideL [] H) p_self = some (.ins AD.c_Format dx_self [("width", V.int self'.width), ("height", V.int self'.height), ("depth", V.int self'.depth), ("chroma", V.int self'.chroma)]) ∧ cW (F_Format_planes self') (fun v => ∀ H', Same H H' → Q (.int v) H') (fun e => ∀ H', Same H H' → E (.ref (excA AD e)) none H')
def sp_Format_blocks (K : PySem.W.Frag) (AD : Ads) : Sp := fun vs H Q E => ∃ (G : Hp) (p_self dx_self : Addr) (self' : St_Format), vs = [.ref p_self] ∧ Same G H ∧ (hideL [] H) p_self = some (.ins AD.c_Format dx_self [("width", V.int self'.width), ("height", V.int self'.height), ("depth", V.int self'.depth), ("chroma", V.int self'.chroma)]) ∧ cW (F_Format_blocks self') (fun v => ∀ u H' G', Same H H' → Same G G' → Same G' H' → (∀ b, H b ≠ none → G b = none → G' b = none) → Rp G' u ((encT2 PyData.int PyData.int) v) → Q u H') (fun e => ∀ H', Same H H' → E (.ref (excA AD e)) none H')
def sp_Format__plane_size (K : PySem.W.Frag) (AD : Ads) : Sp := fun vs H Q E => ∃ (G : Hp) (p_self dx_self : Addr) (self' : St_Format) (plane' : Int) (width' : Int) (height' : Int), vs = [.ref p_self, .int plane', .int width', .int height'] ∧ Same G H ∧ (hideL [] H) p_self = some (.ins AD.c_Format dx_self [("width", V.int self'.width), ("height", V.int self'.height), ("depth", V.int self'.depth), ("chroma", V.int self'.chroma)]) ∧ cW (F_Format__plane_size self' plane' width' height') (fun v => ∀ u H' G', Same H H' → Same G G' → Same G' H' → (∀ b, H b ≠ none → G b = none → G' b = none) → Rp G' u ((encT2 PyData.int PyData.int) v) → Q u H') (fun e => ∀ H', Same H H' → E (.ref (excA AD e)) none H')
def sp_Format_coded_size (K : PySem.W.Frag) (AD : Ads) : Sp := fun vs H Q E => ∃ (G : Hp) (p_self dx_self : Addr) (self' : St_Format) (plane' : Int), vs = [.ref p_self, .int plane'] ∧ Same G H ∧ (hideL [] H) p_self = some (.ins AD.c_Format dx_self [("width", V.int self'.width), ("height", V.int self'.height), ("depth", V.int self'.depth), ("chroma", V.int self'.chroma)]) ∧ cW (F_Format_coded_size self' plane') (fun v => ∀ u H' G', Same H H' → Same G G' → Same G' H' → (∀ b, H b ≠ none → G b = none → G' b = none) → Rp G' u ((encT2 PyData.int PyData.int) v) → Q u H') (fun e => ∀ H', Same H H' → E (.ref (excA AD e)) none H')
def sp__law_planes (K : PySem.W.Frag) (AD : Ads) : Sp := fun vs H Q E => ∃ (G : Hp) (cell' : Int) (p_fmt dx_fmt : Addr) (fmt' : St_Format) (top' : Int), vs = [.int cell', .ref p_fmt, .int top'] ∧ Same G H ∧ (hideL [] H) p_fmt = some (.ins AD.c_Format dx_fmt [("width", V.int fmt'.width), ("height", V.int fmt'.height), ("depth", V.int fmt'.depth), ("chroma", V.int fmt'.chroma)]) ∧ cW (F__law_planes cell' fmt' top') (fun v => ∀ u H' G', Same H H' → Same G G' → Same G' H' → (∀ b, H b ≠ none → G b = none → G' b = none) → Rp G' u ((encL (encL (encL PyData.int))) v) → Q u H') (fun e => ∀ H', Same H H' → E (.ref (excA AD e)) none H')
def sp_copy_planes (K : PySem.W.Frag) (AD : Ads) : Sp := fun vs H Q E => ∃ (G : Hp) (v_planes : V) (planes' : (List (List (List Int)))), vs = [v_planes] ∧ Same G H ∧ Rp (hideL [] H) v_planes ((encL (encL (encL PyData.int))) planes') ∧ cW (F_copy_planes planes') (fun v => ∀ (H' : Hp) (a : Addr) (vs : List V) (L : List Addr) (G' : Hp), H a = none → (∀ b ∈ L, H b = none) → (∀ b ∈ L, b ≠ a) → Same H H' → Same G G' → Same G' H' → (∀ b, H b ≠ none → G b = none → G' b = none) → G' a = none → (∀ b ∈ L, G' b = none) → H' a = some (.lst vs) → OwAll G' H' L vs ((v : (List (List (List Int)))).map (oL (oL oI))) → Q (.ref a) H') (fun e => ∀ H', Same H H' → E (.ref (excA AD e)) none H')
def sp_block_side (K : PySem.W.Frag) (AD : Ads) : Sp := fun vs H Q E => ∃ (G : Hp) (p_fmt dx_fmt : Addr) (fmt' : St_Format) (plane' : Int), vs = [.ref p_fmt, .int plane'] ∧ Same G H ∧ (hideL [] H) p_fmt = some (.ins AD.c_Format dx_fmt [("width", V.int fmt'.width), ("height", V.int fmt'.height), ("depth", V.int fmt'.depth), ("chroma", V.int fmt'.chroma)]) ∧ cW (F_block_side fmt' plane') (fun v => ∀ H', Same H H' → Q (.int v) H') (fun e => ∀ H', Same H H' → E (.ref (excA AD e)) none H')
def sp_Settings_slices (K : PySem.W.Frag) (AD : Ads) : Sp := fun vs H Q E => ∃ (G : Hp) (p_self p_self_fmt dx_self dx_self_fmt : Addr) (self' : St_Settings), vs = [.ref p_self] ∧ Same G H ∧ (hideL [] H) p_self = some (.ins AD.c_Settings dx_self [("fmt", V.ref p_self_fmt), ("slots", V.int self'.slots), ("rows", V.int self'.rows), ("deblock", V.bl self'.deblock), ("offset", V.bl self'.offset), ("layers", V.int self'.layers)]) ∧ (hideL [] H) p_self_fmt = some (.ins AD.c_Format dx_self_fmt [("width", V.int self'.fmt.width), ("height", V.int self'.fmt.height), ("depth", V.int self'.fmt.depth), ("chroma", V.int self'.fmt.chroma)]) ∧ cW (F_Settings_slices self') (fun v => ∀ H', Same H H' → Q (.int v) H') (fun e => ∀ H', Same H H' → E (.ref (excA AD e)) none H')
def sp_Settings_slice_rows (K : PySem.W.Frag) (AD : Ads) : Sp := fun vs H Q E => ∃ (G : Hp) (p_self p_self_fmt dx_self dx_self_fmt : Addr) (self' : St_Settings) (index' : Int), vs = [.ref p_self, .int index'] ∧ Same G H ∧ (hideL [] H) p_self = some (.ins AD.c_Settings dx_self [("fmt", V.ref p_self_fmt), ("slots", V.int self'.slots), ("rows", V.int self'.rows), ("deblock", V.bl self'.deblock), ("offset", V.bl self'.offset), ("layers", V.int self'.layers)]) ∧ (hideL [] H) p_self_fmt = some (.ins AD.c_Format dx_self_fmt [("width", V.int self'.fmt.width), ("height", V.int self'.fmt.height), ("depth", V.int self'.fmt.depth), ("chroma", V.int self'.fmt.chroma)]) ∧ cW (F_Settings_slice_rows self' index') (fun v => ∀ u H' G', Same H H' → Same G G' → Same G' H' → (∀ b, H b ≠ none → G b = none → G' b = none) → Rp G' u ((encT2 PyData.int PyData.int) v) → Q u H') (fun e => ∀ H', Same H H' → E (.ref (excA AD e)) none H')
def sp_slice_span (K : PySem.W.Frag) (AD : Ads) : Sp := fun vs H Q E => ∃ (G : Hp) (p_settings p_settings_fmt dx_settings dx_settings_fmt : Addr) (settings' : St_Settings) (index' : Int) (plane' : Int), vs = [.ref p_settings, .int index', .int plane'] ∧ Same G H ∧ (hideL [] H) p_settings = some (.ins AD.c_Settings dx_settings [("fmt", V.ref p_settings_fmt), ("slots", V.int settings'.slots), ("rows", V.int settings'.rows), ("deblock", V.bl settings'.deblock), ("offset", V.bl settings'.offset), ("layers", V.int settings'.layers)]) ∧ (hideL [] H) p_settings_fmt = some (.ins AD.c_Format dx_settings_fmt [("width", V.int settings'.fmt.width), ("height", V.int settings'.fmt.height), ("depth", V.int settings'.fmt.depth), ("chroma", V.int settings'.fmt.chroma)]) ∧ cW (F_slice_span settings' index' plane') (fun v => ∀ u H' G', Same H H' → Same G G' → Same G' H' → (∀ b, H b ≠ none → G b = none → G' b = none) → Rp G' u ((encT2 PyData.int PyData.int) v) → Q u H') (fun e => ∀ H', Same H H' → E (.ref (excA AD e)) none H')
def sp_clip (K : PySem.W.Frag) (AD : Ads) : Sp := fun vs H Q E => ∃ (G : Hp) (value' : Int) (low' : Int) (high' : Int), vs = [.int value', .int low', .int high'] ∧ Same G H ∧ cW (F_clip value' low' high') (fun v => Q (.int v) H) (fun e => E (.ref (excA AD e)) none H)
def sp__sign (K : PySem.W.Frag) (AD : Ads) : Sp := fun vs H Q E => ∃ (G : Hp) (number' : Int), vs = [.int number'] ∧ Same G H ∧ cW (F__sign number') (fun v => Q (.int v) H) (fun e => E (.ref (excA AD e)) none H)
def sp_Format_top (K : PySem.W.Frag) (AD : Ads) : Sp := fun vs H Q E => ∃ (G : Hp) (p_self dx_self : Addr) (self' : St_Format), vs = [.ref p_self] ∧ Same G H ∧ (hideL [] H) p_self = some (.ins AD.c_Format dx_self [("width", V.int self'.width), ("height", V.int self'.height), ("depth", V.int self'.depth), ("chroma", V.int self'.chroma)]) ∧ cW (F_Format_top self') (fun v => ∀ H', Same H H' → Q (.int v) H') (fun e => ∀ H', Same H H' → E (.ref (excA AD e)) none H')
def sp__filtered_row (K : PySem.W.Frag) (AD : Ads) : Sp := fun vs H Q E => ∃ (G : Hp) (p_fmt dx_fmt : Addr) (fmt' : St_Format) (v_plane : V) (plane' : (List (List Int))) (y' : Int) (v_item : V) (item' : (Int × (List Int))), vs = [.ref p_fmt, v_plane, .int y', v_item] ∧ Same G H ∧ (hideL [] H) p_fmt = some (.ins AD.c_Format dx_fmt [("width", V.int fmt'.width), ("height", V.int fmt'.height), ("depth", V.int fmt'.depth), ("chroma", V.int fmt'.chroma)]) ∧ Rp (hideL [] H) v_plane ((encL (encL PyData.int)) plane') ∧ Rp (hideL [] H) v_item ((encT2 PyData.int (encL PyData.int)) item') ∧ cW (F__filtered_row fmt' plane' y' item') (fun v => ∀ p H', H p = none → Same H H' → H' p = some (.lst (v.map V.int)) → Q (.ref p) H') (fun e => ∀ H', Same H H' → E (.ref (excA AD e)) none H')
def sp__filter_slice (K : PySem.W.Frag) (AD : Ads) : Sp := fun vs H Q E => ∃ (G : Hp) (p_settings p_settings_fmt dx_settings dx_settings_fmt : Addr) (settings' : St_Settings) (index' : Int) (v_items : V) (items' : (List PyData)) (v_planes : V) (planes' : (List (List (List Int)))) (a_filtered : Addr) (vs_filtered : List V) (L_filtered : List Addr) (filtered' : (List (List (List Int)))), vs = [.ref p_settings, .int index', v_items, v_planes, .ref a_filtered] ∧ Same G H ∧ (∀ a ∈ (a_filtered :: (L_filtered ++ [])), G a = none) ∧ (hideL (a_filtered :: (L_filtered ++ [])) H) p_settings = some (.ins AD.c_Settings dx_settings [("fmt", V.ref p_settings_fmt), ("slots", V.int settings'.slots), ("rows", V.int settings'.rows), ("deblock", V.bl settings'.deblock), ("offset", V.bl settings'.offset), ("layers", V.int settings'.layers)]) ∧ (hideL (a_filtered :: (L_filtered ++ [])) H) p_settings_fmt = some (.ins AD.c_Format dx_settings_fmt [("width", V.int settings'.fmt.width), ("height", V.int settings'.fmt.height), ("depth", V.int settings'.fmt.depth), ("chroma", V.int settings'.fmt.chroma)]) ∧ Rp (hideL (a_filtered :: (L_filtered ++ [])) H) v_items ((encL encD) items') ∧ Rp (hideL (a_filtered :: (L_filtered ++ [])) H) v_planes ((encL (encL (encL PyData.int))) planes') ∧ H a_filtered = some (.lst (vs_filtered)) ∧ OwAll G H L_filtered vs_filtered ((filtered' : (List (List (List Int)))).map (oL (oL oI))) ∧ (∀ b ∈ L_filtered, b ≠ a_filtered) ∧ cW (F__filter_slice settings' index' items' planes' filtered') (fun v => ∀ (H' G' : Hp) (vs'_filtered : List V) (L'_filtered : List Addr), SameXs (a_filtered :: (L_filtered ++ [])) H H' → Same G G' → Same G' H' → (∀ b, H b ≠ none → G b = none → G' b = none) → (∀ b ∈ (a_filtered :: (L_filtered ++ [])), H' b ≠ none) → H' a_filtered = some (.lst (vs'_filtered)) → (∀ b ∈ L'_filtered, b ∈ L_filtered ∨ H b = none) → (∀ b ∈ L'_filtered, G' b = none) → (∀ b ∈ L'_filtered, b ≠ a_filtered) → OwAll G' H' L'_filtered vs'_filtered ((v : (List (List (List Int)))).map (oL (oL oI))) → Q .non H') (fun e => ∀ H', Same H H' → E (.ref (excA AD e)) none H')
def sp_apply_offsets (K : PySem.W.Frag) (AD : Ads) : Sp := fun vs H Q E => ∃ (G : Hp) (p_settings p_settings_fmt dx_settings dx_settings_fmt : Addr) (settings' : St_Settings) (v_planes : V) (planes' : (List (List (List Int)))) (v_offsets : V) (offsets' : (List PyData)), vs = [.ref p_settings, v_planes, v_offsets] ∧ Same G H ∧ (hideL [] H) p_settings = some (.ins AD.c_Settings dx_settings [("fmt", V.ref p_settings_fmt), ("slots", V.int settings'.slots), ("rows", V.int settings'.rows), ("deblock", V.bl settings'.deblock), ("offset", V.bl settings'.offset), ("layers", V.int settings'.layers)]) ∧ (hideL [] H) p_settings_fmt = some (.ins AD.c_Format dx_settings_fmt [("width", V.int settings'.fmt.width), ("height", V.int settings'.fmt.height), ("depth", V.int settings'.fmt.depth), ("chroma", V.int settings'.fmt.chroma)]) ∧ Rp (hideL [] H) v_planes ((encL (encL (encL PyData.int))) planes') ∧ Rp (hideL [] H) v_offsets ((encL encD) offsets') ∧ cW (F_apply_offsets settings' planes' offsets') (fun v => ∀ (H' : Hp) (a : Addr) (vs : List V) (L : List Addr) (G' : Hp), H a = none → (∀ b ∈ L, H b = none) → (∀ b ∈ L, b ≠ a) → Same H H' → Same G G' → Same G' H' → (∀ b, H b ≠ none → G b = none → G' b = none) → G' a = none → (∀ b ∈ L, G' b = none) → H' a = some (.lst vs) → OwAll G' H' L vs ((v : (List (List (List Int)))).map (oL (oL oI))) → Q (.ref a) H') (fun e => ∀ H', Same H H' → E (.ref (excA AD e)) none H')
def sp__law_cell (K : PySem.W.Frag) (AD : Ads) : Sp := fun vs H Q E => ∃ (G : Hp) (a_script : Addr) (script' : List Int) (k' : Int), vs = [.ref a_script, .int k'] ∧ Same G H ∧ SqL K H a_script ((script' : List Int).map V.int) ∧ cW (F__law_cell script' k') (fun v => Q (.int v) H) (fun e => E (.ref (excA AD e)) none H)
def sp__law_items (K : PySem.W.Frag) (AD : Ads) : Sp := fun vs H Q E => ∃ (G : Hp) (cell' : Int) (planes' : Int), vs = [.int cell', .int planes'] ∧ Same G H ∧ cW (F__law_items cell' planes') (fun v => ∀ u H' G', Same H H' → Same G G' → Same G' H' → (∀ b, H b ≠ none → G b = none → G' b = none) → Rp G' u (encD v) → Q u H') (fun e => ∀ H', Same H H' → E (.ref (excA AD e)) none H')
def sp__law_sign (K : PySem.W.Frag) (AD : Ads) : Sp := fun vs H Q E => ∃ (G : Hp) (number' : Int), vs = [.int number'] ∧ Same G H ∧ cW (F__law_sign number') (fun v => Q (.int v) H) (fun e => E (.ref (excA AD e)) none H)
def sp__law_sample (K : PySem.W.Frag) (AD : Ads) : Sp := fun vs H Q E => ∃ (G : Hp) (v_rows : V) (rows' : (List (List Int))) (x' : Int) (y' : Int) (v_item : V) (item' : (Int × (List Int))) (unit' : Int) (top' : Int), vs = [v_rows, .int x', .int y', v_item, .int unit', .int top'] ∧ Same G H ∧ Rp (hideL [] H) v_rows ((encL (encL PyData.int)) rows') ∧ Rp (hideL [] H) v_item ((encT2 PyData.int (encL PyData.int)) item') ∧ cW (F__law_sample rows' x' y' item' unit' top') (fun v => ∀ H', Same H H' → Q (.int v) H') (fun e => ∀ H', Same H H' → E (.ref (excA AD e)) none H')
def sp__law_due (K : PySem.W.Frag) (AD : Ads) : Sp := fun vs H Q E => ∃ (G : Hp) (v_rows : V) (rows' : (List (List Int))) (small' : Int) (high' : Int) (v_offsets : V) (offsets' : (List PyData)) (plane' : Int) (unit' : Int) (top' : Int), vs = [v_rows, .int small', .int high', v_offsets, .int plane', .int unit', .int top'] ∧ Same G H ∧ Rp (hideL [] H) v_rows ((encL (encL PyData.int)) rows') ∧ Rp (hideL [] H) v_offsets ((encL encD) offsets') ∧ cW (F__law_due rows' small' high' offsets' plane' unit' top') (fun v => ∀ u H' G', Same H H' → Same G G' → Same G' H' → (∀ b, H b ≠ none → G b = none → G' b = none) → Rp G' u ((encL (encL PyData.int)) v) → Q u H') (fun e => ∀ H', Same H H' → E (.ref (excA AD e)) none H')
def sp_law (K : PySem.W.Frag) (AD : Ads) : Sp := fun vs H Q E => ∃ (a_script : Addr) (script : List Int), vs = [.ref a_script] ∧ SqL K H a_script (script.map V.int) ∧ cW (F_law script) (fun v => v = true) (fun _ => False) ∧ ∀ H', Q (.bl true) H'
section
variable {P : Program} {w : World} {K : PySem.W.Frag} {mg : Str → Option Value} {base : Heap} {AD : Ads}
abbrev N__law_digits : List Str := ["cell", "base", "most", "digits", "large", "k"]
theorem sc__law_digits : FnScope N__law_digits ["cell", "base", "most"] (defScope s__law_digits) := ⟨rfl, rfl, rfl, by decide +kernel, rfl, by decide +kernel, by decide +kernel⟩
theorem ok__law_digits (D : DefX K mg "_law_digits" s__law_digits ["cell", "base", "most"] pats__law_digits) (T : Txt w K mg AD)  : CalX P w K mg base 1 "_law_digits" (sp__law_digits K AD) pats__law_digits := by
  refine D.ok sc__law_digits (fun vs H Q E h => ?_) (fun f cdv A_ outer s H vs Q E hr h => ?_)
  · obtain ⟨G, cell', base', most', rfl, _⟩ := h
    rfl
  · obtain ⟨G, cell', base', most', rfl, sG, hw⟩ := h
    refine ⟨_, (pss_cons (ps_set (i := 3) sc__law_digits.nd rfl (Or.inl rfl) (pe_lst pa_nil))
      (pss_cons (ps_set (i := 4) sc__law_digits.nd rfl (Or.inl rfl) (pe_cmp (pc_ge (pv 0) (pe_op op_pow pe_int pe_int))))
      (pss_cons (ps_for (passes_of rfl) rfl (pi_range1 rfl T.b_range (pa_cons (pv 2) pa_nil)) (pg_name (i := 5) sc__law_digits.nd rfl (Or.inl rfl)) (pss_one (ps_if (pt_val (pv 4)) (pss_cons (ps_expr (pe_bm PySem.F.plainAttrs_list PySem.F.slot_list_append PySem.F.type_list_append mt_append (pv 3) (pa_cons (pe_op op_mod (pe_callTy call_int1 (by rfl) T.b_int (by decide +kernel) (pa_cons (pv 0) pa_nil)) (pv 1)) pa_nil)))
      (pss_one (ps_set (i := 0) sc__law_digits.nd rfl (Or.inl rfl) (pe_op op_fdivW (pv 0) (pv 1))))) (pss_one (ps_expr (pe_bm PySem.F.plainAttrs_list PySem.F.slot_list_append PySem.F.type_list_append mt_append (pv 3) (pa_cons (pe_op op_mod (pe_op op_mod (pe_callTy call_int1 (by rfl) T.b_int (by decide +kernel) (pa_cons (pe_op op_add (pe_op op_add (pe_op op_mul (pv 0) pe_int) (pe_op op_mul (pe_op op_mul (pe_op op_add (pv 5) pe_int) (pe_op op_add (pv 5) pe_int)) pe_int)) (pe_op op_mul (pe_op op_fdivW (pv 0) pe_int) (pv 5))) pa_nil)) pe_int) (pv 1)) pa_nil)))))))
      (pss_one (ps_ret (pv 3)))))), ?_⟩
    obtain ⟨KK, EE, hK0, hE, hw⟩ := cW_gen hw
    have S0 := Sep.startG sG
    unfold F__law_digits at hw
    refine ⟨(by show 0 ≤ sizeLine; decide), fun p1 n2 => ?_⟩
    generalize g3 : upd H p1 _ = H4
    obtain ⟨e5, h6⟩ := gen_new n2 g3
    have h7 : H4 p1 = some (.lst ((([] : (List Int)) : (List Int)).map V.int)) := h6
    have fr8 := S0.free n2
    have S9 := S0.new n2 e5 h7 fr8
    refine ⟨_, rfl, _, _, rfl, rfl, ⟨by decide, by decide, by decide⟩, _, _, rfl, rfl, ?_⟩
    have hw := cW_bnd hw
    obtain ⟨g11, hw⟩ := cW_grd hw
    obtain ⟨K14, hK15, hw⟩ := cW_push hw
    refine ⟨_, rfl, _, rfl, g11.1, g11.2, for_range (lo := 0) (n := Int.toNat (most')) (fun i σ H' => ∃ (cell_16 : Int) (digits_17 : (List Int)) (u18 : Option V) (G' : Hp), σ = [some (V.int cell_16), some (V.int (base')), some (V.int (most')), some (V.ref p1), some (V.bl (decide (((10 : Int) ^ Int.toNat 18) ≤ cell'))), u18] ∧ Same G G' ∧ Sep [] H G G' H' [p1] ∧ H' p1 = some (.lst ((digits_17 : (List Int)).map V.int)) ∧ cW (forS (List.drop i (rng (0) (Int.toNat (most')))) (cell_16, digits_17) (fun s x => F__law_digits_b1 (base') (decide (((10 : Int) ^ Int.toNat 18) ≤ cell')) (s.1) (s.2) x)) K14 EE) ?_ ?_ ?_⟩
    · exact ⟨(cell'), (([] : (List Int))), _, _, rfl, (Same.refl _), S9, h7, hw⟩
    · intro i σ H19 hi hw
      obtain ⟨cell_16, digits_17, u18, G22, rfl, eG23, S20, h21, hw⟩ := hw
      have hw := cW_forS (rng_get hi) hw
      generalize (0 + (i : Int)) = x24 at hw ⊢
      have hw : cW (F__law_digits_b1 (base') (decide (((10 : Int) ^ Int.toNat 18) ≤ cell')) (cell_16) (digits_17) (x24)) _ EE := hw
      unfold F__law_digits_b1 at hw
      obtain ⟨K27, hK28, hw⟩ := cW_name hw
      refine ⟨_, rfl, _, rfl, ?_⟩
      refine iteB (fun c30 => ?_) (fun c30 => ?_)
      · have hw := cW_pos c30 hw
        refine ⟨_, rfl, (.inl ⟨rfl, _, SqL.of h21⟩), _, rfl, .inl ⟨_, rfl, ?_⟩⟩
        obtain ⟨g31, hw⟩ := cW_grd hw
        obtain ⟨g32, hw⟩ := cW_grd hw
        refine ⟨_, rfl, _, _, rfl, rfl, g31, _, _, _, rfl, rfl, h21, (app_lenM g32), ?_⟩
        generalize g33 : upd H19 p1 _ = H34
        obtain ⟨x35, h36⟩ := gen_mut g33
        have h37 : H34 p1 = some (.lst (((digits_17) ++ [(cell_16 % base')] : (List Int)).map V.int)) := snoc_map h36
        have S38 := S20.mut1 x35 (.head _) h37
        have hw := cW_bnd hw
        obtain ⟨g40, hw⟩ := cW_grd hw
        refine ⟨_, rfl, _, rfl, _, _, rfl, rfl, (divW_small g40.1 g40.2), ?_⟩
        have hw := cW_bnd hw
        have hw := cW_ok hw
        have hw := hK28 _ hw
        exact ⟨((cell_16 / base')), ((digits_17) ++ [(cell_16 % base')]), _, _, rfl, eG23, S38, h37, hw⟩
      · have hw := cW_negB c30 hw
        obtain ⟨g42, hw⟩ := cW_grd hw
        obtain ⟨g43, hw⟩ := cW_grd hw
        refine ⟨_, rfl, (.inl ⟨rfl, _, SqL.of h21⟩), _, rfl, _, _, rfl, rfl, (.inr ⟨by decide, by decide⟩), _, rfl, _, _, rfl, rfl, _, rfl, _, _, rfl, rfl, _, _, rfl, rfl, g42, _, _, rfl, rfl, (.inr ⟨by decide, by decide⟩), _, _, rfl, rfl, _, rfl, _, _, rfl, rfl, (divW_lit (by decide) (by decide)), _, rfl, _, _, rfl, rfl, g43, _, _, rfl, rfl, .inl ⟨_, rfl, ?_⟩⟩
        obtain ⟨g44, hw⟩ := cW_grd hw
        obtain ⟨g45, hw⟩ := cW_grd hw
        refine ⟨_, _, rfl, rfl, (show (0 : Int) < 2147483647 by decide), _, rfl, _, _, rfl, rfl, g44, _, _, _, rfl, rfl, h21, (app_lenM g45), ?_⟩
        generalize g46 : upd H19 p1 _ = H47
        obtain ⟨x48, h49⟩ := gen_mut g46
        have h50 : H47 p1 = some (.lst (((digits_17) ++ [(((((cell_16 * 48271) + (((x24 + 1) * (x24 + 5)) * 69621)) + ((cell_16 / 97) * x24)) % 2147483647) % base')] : (List Int)).map V.int)) := snoc_map h49
        have S51 := S20.mut1 x48 (.head _) h50
        have hw := cW_bnd hw
        have hw := cW_ok hw
        have hw := hK28 _ hw
        exact ⟨(cell_16), ((digits_17) ++ [(((((cell_16 * 48271) + (((x24 + 1) * (x24 + 5)) * 69621)) + ((cell_16 / 97) * x24)) % 2147483647) % base')]), _, _, rfl, eG23, S51, h50, hw⟩
    · intro σ H53 hw
      obtain ⟨cell_16, digits_17, u18, G56, rfl, eG57, S54, h55, hw⟩ := hw
      have hw := hK15 _ (cW_forS0 (rng_len _ _).symm hw)
      have hw : cW (F__law_digits_r1  (cell_16) (digits_17)) _ EE := hw
      unfold F__law_digits_r1 at hw
      refine ⟨_, rfl, ?_⟩
      have hw := cW_ok hw
      exact hK0 _ hw _ _ fr8 S54.b0 h55

abbrev N_Format___init__ : List Str := ["self", "width", "height", "depth", "chroma"]
theorem sc_Format___init__ : FnScope N_Format___init__ ["self", "width", "height", "depth", "chroma"] (defScope s_Format___init__) := ⟨rfl, rfl, rfl, by decide +kernel, rfl, by decide +kernel, by decide +kernel⟩
theorem ok_Format___init__ (D : InitX K mg AD.c_Format "Format" "Format.__init__" s_Format___init__ ["self", "width", "height", "depth", "chroma"] pats_Format___init__) (T : Txt w K mg AD)  : MakX P w K mg base 1 "Format" AD.c_Format (sp_Format___init__ K AD) pats_Format___init__ := by
  refine D.ok sc_Format___init__ (fun vs H Q E h => ?_) (fun f cdv A_ outer s H vs Q E hr h => ?_)
  · obtain ⟨G, p_self, dx_self, width', height', depth', chroma', rfl, _⟩ := h
    rfl
  · obtain ⟨G, p_self, dx_self, width', height', depth', chroma', rfl, sG, gM, h_self, hw⟩ := h
    refine ⟨_, (pss_cons (ps_if (pt_not (PW.pt (pw_and (pt_chain op_le op_le pe_int (pv 1) pe_int) (pw_and1 (pt_chain op_le op_le pe_int (pv 2) pe_int))))) (pss_one (ps_raise rfl (takes_of rfl rfl rfl rfl) (pmk_own PySem.F.excBase_ValueError T.xx_BadFormat T.xg_BadFormat T.xk_BadFormat (raises_own T.xb_BadFormat T.xt_BadFormat) rfl))) pss_nil)
      (pss_cons (ps_if (pt_not (pt_chain op_le op_le pe_int (pv 3) pe_int)) (pss_one (ps_raise rfl (takes_of rfl rfl rfl rfl) (pmk_own PySem.F.excBase_ValueError T.xx_BadFormat T.xg_BadFormat T.xk_BadFormat (raises_own T.xb_BadFormat T.xt_BadFormat) rfl))) pss_nil)
      (pss_cons (ps_if (pt_not (pt_chain op_le op_le pe_int (pv 4) pe_int)) (pss_one (ps_raise rfl (takes_of rfl rfl rfl rfl) (pmk_own PySem.F.excBase_ValueError T.xx_BadFormat T.xg_BadFormat T.xk_BadFormat (raises_own T.xb_BadFormat T.xt_BadFormat) rfl))) pss_nil)
      (pss_cons (ps_fld (pv 0) (pv 1) rfl)
      (pss_cons (ps_fld (pv 0) (pv 2) rfl)
      (pss_cons (ps_fld (pv 0) (pv 3) rfl)
      (pss_one (ps_fld (pv 0) (pv 4) rfl)))))))), ?_⟩
    obtain ⟨KK, EE, hK0, hE, hw⟩ := cW_gen hw
    have S0 := Sep.startM (M := [p_self]) sG (all_cons (some_ne h_self) all_nil) gM
    unfold F_Format___init__ at hw
    refine ⟨_, rfl, _, _, rfl, rfl, _, rfl, ?_⟩
    refine iteD (fun c60 => ?_) (fun c60 => ?_)
    · have hw := cW_pos c60 hw
      refine ⟨_, _, rfl, rfl, _, rfl, ?_⟩
      refine iteD (fun c61 => ?_) (fun c61 => ?_)
      · have hw := cW_pos c61 hw
        refine ⟨_, rfl, _, _, rfl, rfl, _, rfl, ?_⟩
        refine iteD (fun c62 => ?_) (fun c62 => ?_)
        · have hw := cW_pos c62 hw
          refine ⟨_, _, rfl, rfl, _, rfl, ?_⟩
          refine iteN (fun c63 => ?_) (fun c63 => ?_)
          · have hw := cW_neg c63 hw
            exact hE 1 (cW_er hw) _ (sameX_of S0.base)
          · have hw := cW_pos c63 hw
            refine ⟨_, rfl, _, _, rfl, rfl, _, rfl, ?_⟩
            refine iteD (fun c64 => ?_) (fun c64 => ?_)
            · have hw := cW_pos c64 hw
              refine ⟨_, _, rfl, rfl, _, rfl, ?_⟩
              refine iteN (fun c65 => ?_) (fun c65 => ?_)
              · have hw := cW_neg c65 hw
                exact hE 1 (cW_er hw) _ (sameX_of S0.base)
              · have hw := cW_pos c65 hw
                refine ⟨_, rfl, _, _, rfl, rfl, _, rfl, ?_⟩
                refine iteD (fun c66 => ?_) (fun c66 => ?_)
                · have hw := cW_pos c66 hw
                  refine ⟨_, _, rfl, rfl, _, rfl, ?_⟩
                  refine iteN (fun c67 => ?_) (fun c67 => ?_)
                  · have hw := cW_neg c67 hw
                    exact hE 1 (cW_er hw) _ (sameX_of S0.base)
                  · have hw := cW_pos c67 hw
                    refine ⟨_, rfl, _, rfl, _, _, _, _, rfl, h_self, T.cl_Format, T.n_Format_width, (by show 0 < 1000; decide), ?_⟩
                    generalize g68 : upd H p_self _ = H69
                    obtain ⟨x70, h71⟩ := gen_mut g68
                    have h72 : H69 p_self = some (.ins AD.c_Format dx_self [("width", V.int (width'))]) := h71
                    have S73 := S0.mut1 x70 (.head _) h72
                    refine ⟨_, rfl, _, rfl, _, _, _, _, rfl, h72, T.cl_Format, T.n_Format_height, (by show 1 < 1000; decide), ?_⟩
                    generalize g74 : upd H69 p_self _ = H75
                    obtain ⟨x76, h77⟩ := gen_mut g74
                    have h78 : H75 p_self = some (.ins AD.c_Format dx_self [("width", V.int (width')), ("height", V.int (height'))]) := h77
                    have S79 := S73.mut1 x76 (.head _) h78
                    refine ⟨_, rfl, _, rfl, _, _, _, _, rfl, h78, T.cl_Format, T.n_Format_depth, (by show 2 < 1000; decide), ?_⟩
                    generalize g80 : upd H75 p_self _ = H81
                    obtain ⟨x82, h83⟩ := gen_mut g80
                    have h84 : H81 p_self = some (.ins AD.c_Format dx_self [("width", V.int (width')), ("height", V.int (height')), ("depth", V.int (depth'))]) := h83
                    have S85 := S79.mut1 x82 (.head _) h84
                    refine ⟨_, rfl, _, rfl, _, _, _, _, rfl, h84, T.cl_Format, T.n_Format_chroma, (by show 3 < 1000; decide), ?_⟩
                    generalize g86 : upd H81 p_self _ = H87
                    obtain ⟨x88, h89⟩ := gen_mut g86
                    have h90 : H87 p_self = some (.ins AD.c_Format dx_self [("width", V.int (width')), ("height", V.int (height')), ("depth", V.int (depth')), ("chroma", V.int (chroma'))]) := h89
                    have S91 := S85.mut1 x88 (.head _) h90
                    have hw := cW_ok hw
                    exact hK0 _ hw _ (sameX_of S91.base) h90
                · have hw := cW_neg c66 hw
                  refine ⟨_, rfl, ?_⟩
                  refine iteT ?_
                  exact hE 1 (cW_er hw) _ (sameX_of S0.base)
            · have hw := cW_neg c64 hw
              refine ⟨_, rfl, ?_⟩
              refine iteT ?_
              exact hE 1 (cW_er hw) _ (sameX_of S0.base)
        · have hw := cW_neg c62 hw
          refine ⟨_, rfl, ?_⟩
          refine iteT ?_
          exact hE 1 (cW_er hw) _ (sameX_of S0.base)
      · have hw := cW_neg c61 hw
        refine iteT ?_
        exact hE 1 (cW_er hw) _ (sameX_of S0.base)
    · have hw := cW_neg c60 hw
      refine ⟨_, rfl, ?_⟩
      refine iteF ?_
      refine iteT ?_
      exact hE 1 (cW_er hw) _ (sameX_of S0.base)

abbrev N__require : List Str := ["holds", "text"]
theorem sc__require : FnScope N__require ["holds", "text"] (defScope s__require) := ⟨rfl, rfl, rfl, by decide +kernel, rfl, by decide +kernel, by decide +kernel⟩
theorem ok__require (D : DefX K mg "_require" s__require ["holds", "text"] pats__require) (T : Txt w K mg AD)  : CalX P w K mg base 1 "_require" (sp__require K AD) pats__require := by
  refine D.ok sc__require (fun vs H Q E h => ?_) (fun f cdv A_ outer s H vs Q E hr h => ?_)
  · obtain ⟨G, holds', text', rfl, _⟩ := h
    rfl
  · obtain ⟨G, holds', text', rfl, sG, hw⟩ := h
    refine ⟨_, (pss_one (ps_if (pt_not (pt_val (pv 0))) (pss_one (ps_raise rfl (takes_of rfl rfl rfl rfl) (SkE.pmk_own1 PySem.F.excBase_ValueError T.xx_BadHeader T.xg_BadHeader T.xk_BadHeader (raises_own T.xb_BadHeader T.xt_BadHeader) rfl (pv 1)))) pss_nil)), ?_⟩
    obtain ⟨KK, EE, hK0, hE, hw⟩ := cW_gen hw
    have S0 := Sep.startG sG
    unfold F__require at hw
    refine ⟨_, rfl, _, rfl, ?_⟩
    refine iteBN (fun c92 => ?_) (fun c92 => ?_)
    · have hw := cW_negB c92 hw
      refine ⟨_, rfl, ?_⟩
      exact hE 3 (cW_er hw)
    · have hw := cW_pos c92 hw
      have hw := cW_ok hw
      exact hK0 _ hw

abbrev N_Settings___init__ : List Str := ["self", "fmt", "slots", "rows", "deblock", "offset", "layers"]
theorem sc_Settings___init__ : FnScope N_Settings___init__ ["self", "fmt", "slots", "rows", "deblock", "offset", "layers"] (defScope s_Settings___init__) := ⟨rfl, rfl, rfl, by decide +kernel, rfl, by decide +kernel, by decide +kernel⟩
theorem ok_Settings___init__ (D : InitX K mg AD.c_Settings "Settings" "Settings.__init__" s_Settings___init__ ["self", "fmt", "slots", "rows", "deblock", "offset", "layers"] pats_Settings___init__) (T : Txt w K mg AD) (c__require : CalX P w K mg base 1 "_require" (sp__require K AD) pats__require) : MakX P w K mg base 2 "Settings" AD.c_Settings (sp_Settings___init__ K AD) pats_Settings___init__ := by
  refine D.ok sc_Settings___init__ (fun vs H Q E h => ?_) (fun f cdv A_ outer s H vs Q E hr h => ?_)
  · obtain ⟨G, p_self, dx_self, p_fmt, dx_fmt, fmt', slots', rows', deblock', offset', layers', rfl, _⟩ := h
    rfl
  · obtain ⟨G, p_self, dx_self, p_fmt, dx_fmt, fmt', slots', rows', deblock', offset', layers', rfl, sG, gM, h_self, h_p_fmt, hw⟩ := h
    refine ⟨_, (pss_cons (ps_expr (vx_callX c__require pat__require_0 (.head _) hr (by decide) (takes_of rfl rfl rfl rfl) rfl (pa_cons (pe_chain op_le op_le pe_int (pv 2) pe_int) (pa_cons pe_str pa_nil)) pk_nil))
      (pss_cons (ps_expr (vx_callX c__require pat__require_0 (.head _) hr (by decide) (takes_of rfl rfl rfl rfl) rfl (pa_cons (pe_chain op_le op_le pe_int (pv 3) pe_int) (pa_cons pe_str pa_nil)) pk_nil))
      (pss_cons (ps_expr (vx_callX c__require pat__require_0 (.head _) hr (by decide) (takes_of rfl rfl rfl rfl) rfl (pa_cons (pe_chain op_le op_le pe_int (pv 6) pe_int) (pa_cons pe_str pa_nil)) pk_nil))
      (pss_cons (ps_fld (pv 0) (pv 1) rfl)
      (pss_cons (ps_fld (pv 0) (pv 2) rfl)
      (pss_cons (ps_fld (pv 0) (pv 3) rfl)
      (pss_cons (ps_fld (pv 0) (pv 4) rfl)
      (pss_cons (ps_fld (pv 0) (pv 5) rfl)
      (pss_one (ps_fld (pv 0) (pv 6) rfl)))))))))), ?_⟩
    obtain ⟨KK, EE, hK0, hE, hw⟩ := cW_gen hw
    have S0 := Sep.startM (M := [p_self]) sG (all_cons (some_ne h_self) all_nil) gM
    unfold F_Settings___init__ at hw
    refine vv_chain (ta := (tC (V.int 1))) (tb := (tVar 2)) (tc := (tC (V.int 4))) (r := (rI0 fun i j => V.bl (decide (i ≤ j)))) (r' := (rI0 fun i j => V.bl (decide (i ≤ j)))) (x := V.int (1)) (y := V.int (slots')) (z := V.int (4)) (a := decide (1 ≤ slots')) (b := decide (slots' ≤ 4)) ?hx93 ?hy94 ?hz95 (fun Q q => ⟨_, _, rfl, rfl, q⟩) (fun Q q => ⟨_, _, rfl, rfl, q⟩) _ ?_
    case hx93 => exact val_c
    case hy94 => exact (val_var rfl)
    case hz95 => exact val_c
    refine ⟨rfl, rfl, G, _, _, rfl, S0.sG, cW_call hw (fun v96 hw => ?_) (fun e he => hE e he _ (sameX_of S0.base))⟩
    refine vv_chain (ta := (tC (V.int 1))) (tb := (tVar 3)) (tc := (tC (V.int 32))) (r := (rI0 fun i j => V.bl (decide (i ≤ j)))) (r' := (rI0 fun i j => V.bl (decide (i ≤ j)))) (x := V.int (1)) (y := V.int (rows')) (z := V.int (32)) (a := decide (1 ≤ rows')) (b := decide (rows' ≤ 32)) ?hx97 ?hy98 ?hz99 (fun Q q => ⟨_, _, rfl, rfl, q⟩) (fun Q q => ⟨_, _, rfl, rfl, q⟩) _ ?_
    case hx97 => exact val_c
    case hy98 => exact (val_var rfl)
    case hz99 => exact val_c
    refine ⟨rfl, rfl, G, _, _, rfl, S0.sG, cW_call hw (fun v100 hw => ?_) (fun e he => hE e he _ (sameX_of S0.base))⟩
    refine vv_chain (ta := (tC (V.int 1))) (tb := (tVar 6)) (tc := (tC (V.int 4))) (r := (rI0 fun i j => V.bl (decide (i ≤ j)))) (r' := (rI0 fun i j => V.bl (decide (i ≤ j)))) (x := V.int (1)) (y := V.int (layers')) (z := V.int (4)) (a := decide (1 ≤ layers')) (b := decide (layers' ≤ 4)) ?hx101 ?hy102 ?hz103 (fun Q q => ⟨_, _, rfl, rfl, q⟩) (fun Q q => ⟨_, _, rfl, rfl, q⟩) _ ?_
    case hx101 => exact val_c
    case hy102 => exact (val_var rfl)
    case hz103 => exact val_c
    refine ⟨rfl, rfl, G, _, _, rfl, S0.sG, cW_call hw (fun v104 hw => ?_) (fun e he => hE e he _ (sameX_of S0.base))⟩
    refine ⟨_, rfl, _, rfl, _, _, _, _, rfl, h_self, T.cl_Settings, T.n_Settings_fmt, (by show 0 < 1000; decide), ?_⟩
    generalize g105 : upd H p_self _ = H106
    obtain ⟨x107, h108⟩ := gen_mut g105
    have h109 : H106 p_self = some (.ins AD.c_Settings dx_self [("fmt", V.ref p_fmt)]) := h108
    have S110 := S0.mut1 x107 (.head _) h109
    refine ⟨_, rfl, _, rfl, _, _, _, _, rfl, h109, T.cl_Settings, T.n_Settings_slots, (by show 1 < 1000; decide), ?_⟩
    generalize g111 : upd H106 p_self _ = H112
    obtain ⟨x113, h114⟩ := gen_mut g111
    have h115 : H112 p_self = some (.ins AD.c_Settings dx_self [("fmt", V.ref p_fmt), ("slots", V.int (slots'))]) := h114
    have S116 := S110.mut1 x113 (.head _) h115
    refine ⟨_, rfl, _, rfl, _, _, _, _, rfl, h115, T.cl_Settings, T.n_Settings_rows, (by show 2 < 1000; decide), ?_⟩
    generalize g117 : upd H112 p_self _ = H118
    obtain ⟨x119, h120⟩ := gen_mut g117
    have h121 : H118 p_self = some (.ins AD.c_Settings dx_self [("fmt", V.ref p_fmt), ("slots", V.int (slots')), ("rows", V.int (rows'))]) := h120
    have S122 := S116.mut1 x119 (.head _) h121
    refine ⟨_, rfl, _, rfl, _, _, _, _, rfl, h121, T.cl_Settings, T.n_Settings_deblock, (by show 3 < 1000; decide), ?_⟩
    generalize g123 : upd H118 p_self _ = H124
    obtain ⟨x125, h126⟩ := gen_mut g123
    have h127 : H124 p_self = some (.ins AD.c_Settings dx_self [("fmt", V.ref p_fmt), ("slots", V.int (slots')), ("rows", V.int (rows')), ("deblock", V.bl (deblock'))]) := h126
    have S128 := S122.mut1 x125 (.head _) h127
    refine ⟨_, rfl, _, rfl, _, _, _, _, rfl, h127, T.cl_Settings, T.n_Settings_offset, (by show 4 < 1000; decide), ?_⟩
    generalize g129 : upd H124 p_self _ = H130
    obtain ⟨x131, h132⟩ := gen_mut g129
    have h133 : H130 p_self = some (.ins AD.c_Settings dx_self [("fmt", V.ref p_fmt), ("slots", V.int (slots')), ("rows", V.int (rows')), ("deblock", V.bl (deblock')), ("offset", V.bl (offset'))]) := h132
    have S134 := S128.mut1 x131 (.head _) h133
    refine ⟨_, rfl, _, rfl, _, _, _, _, rfl, h133, T.cl_Settings, T.n_Settings_layers, (by show 5 < 1000; decide), ?_⟩
    generalize g135 : upd H130 p_self _ = H136
    obtain ⟨x137, h138⟩ := gen_mut g135
    have h139 : H136 p_self = some (.ins AD.c_Settings dx_self [("fmt", V.ref p_fmt), ("slots", V.int (slots')), ("rows", V.int (rows')), ("deblock", V.bl (deblock')), ("offset", V.bl (offset')), ("layers", V.int (layers'))]) := h138
    have S140 := S134.mut1 x137 (.head _) h139
    have hw := cW_ok hw
    exact hK0 _ hw _ (sameX_of S140.base) h139

abbrev N_Format_planes : List Str := ["self"]
theorem sc_Format_planes : FnScope N_Format_planes ["self"] (defScope s_Format_planes) := ⟨rfl, rfl, rfl, by decide +kernel, rfl, by decide +kernel, by decide +kernel⟩
theorem ok_Format_planes (D : PropX K AD.c_Format "Format.planes" "planes" s_Format_planes ["self"] pats_Format_planes) (T : Txt w K mg AD)  : PropY P w K mg base 1 AD.c_Format "planes" (sp_Format_planes K AD) pats_Format_planes := by
  refine D.ok T.cl_Format sc_Format_planes (fun vs H Q E h => ?_) (fun f cdv A_ outer s H vs Q E hr h => ?_)
  · obtain ⟨G, p_self, dx_self, self', rfl, _⟩ := h
    rfl
  · obtain ⟨G, p_self, dx_self, self', rfl, sG, h_p_self, hw⟩ := h
    refine ⟨_, (pss_one (ps_ret (pe_ifExp (pt_cmp (pc_eqI (fldK (K := K) (pv 0)) pe_int)) pe_int pe_int))), ?_⟩
    obtain ⟨KK, EE, hK0, hE, hw⟩ := cW_gen hw
    have S0 := Sep.startG sG
    unfold F_Format_planes at hw
    refine vv_if (vt_cmp (vv_cmp (val_fld (val_var rfl) (S0.bM _ _ h_p_self) T.cl_Format T.n_Format_chroma rfl) val_c (fun Q q => ⟨_, _, rfl, rfl, q⟩))) val_c val_c _ ?_
    have hw := cW_ok hw
    exact hK0 _ hw _ S0.b0

abbrev N_Format_blocks : List Str := ["self"]
theorem sc_Format_blocks : FnScope N_Format_blocks ["self"] (defScope s_Format_blocks) := ⟨rfl, rfl, rfl, by decide +kernel, rfl, by decide +kernel, by decide +kernel⟩
theorem ok_Format_blocks (D : MethX K AD.c_Format "Format.blocks" "blocks" s_Format_blocks ["self"] pats_Format_blocks) (T : Txt w K mg AD)  : MetX P w K mg base 1 AD.c_Format "blocks" (sp_Format_blocks K AD) pats_Format_blocks := by
  refine D.ok T.cl_Format sc_Format_blocks (fun vs H Q E h => ?_) (fun f cdv A_ outer s H vs Q E hr h => ?_)
  · obtain ⟨G, p_self, dx_self, self', rfl, _⟩ := h
    rfl
  · obtain ⟨G, p_self, dx_self, self', rfl, sG, h_p_self, hw⟩ := h
    refine ⟨_, (pss_one (ps_ret (pe_tup (pa_cons (pe_op op_fdivW (pe_op op_sub (pe_op op_add (fldK (K := K) (pv 0)) (C8.pe_gc rfl T.g_BLOCK)) pe_int) (C8.pe_gc rfl T.g_BLOCK)) (pa_cons (pe_op op_fdivW (pe_op op_sub (pe_op op_add (fldK (K := K) (pv 0)) (C8.pe_gc rfl T.g_BLOCK)) pe_int) (C8.pe_gc rfl T.g_BLOCK)) pa_nil))))), ?_⟩
    obtain ⟨KK, EE, hK0, hE, hw⟩ := cW_gen hw
    have S0 := Sep.startG sG
    unfold F_Format_blocks at hw
    refine ⟨_, rfl, _, _, _, _, _, rfl, (S0.bM _ _ h_p_self), T.cl_Format, T.n_Format_width, rfl, _, _, rfl, rfl, _, _, rfl, rfl, _, _, rfl, rfl, (divW_lit (by decide) (by decide)), _, rfl, _, _, _, _, _, rfl, (S0.bM _ _ h_p_self), T.cl_Format, T.n_Format_height, rfl, _, _, rfl, rfl, _, _, rfl, rfl, _, _, rfl, rfl, (divW_lit (by decide) (by decide)), (by show 2 ≤ sizeLine; decide), fun p144 n145 => ?_⟩
    generalize g146 : upd H p144 _ = H147
    obtain ⟨e148, h149⟩ := gen_new n145 g146
    have h150 : H147 p144 = some (.tup [V.int ((((self'.width + 8) - 1) / 8)), V.int ((((self'.height + 8) - 1) / 8))]) := h149
    have fr151 := S0.free n145
    obtain ⟨G153, eG154, hg155, S152⟩ := S0.grow n145 e148 h150 fr151
    have hw := cW_ok hw
    exact hK0 _ hw _ _ _ S152.b0 S152.g0 S152.sG S152.gn (rp_mk2 hg155 (.int _) (.int _))

abbrev N_Format__plane_size : List Str := ["self", "plane", "width", "height"]
theorem sc_Format__plane_size : FnScope N_Format__plane_size ["self", "plane", "width", "height"] (defScope s_Format__plane_size) := ⟨rfl, rfl, rfl, by decide +kernel, rfl, by decide +kernel, by decide +kernel⟩
theorem ok_Format__plane_size (D : MethX K AD.c_Format "Format._plane_size" "_plane_size" s_Format__plane_size ["self", "plane", "width", "height"] pats_Format__plane_size) (T : Txt w K mg AD) (c_Format_planes : PropY P w K mg base 1 AD.c_Format "planes" (sp_Format_planes K AD) pats_Format_planes) : MetX P w K mg base 3 AD.c_Format "_plane_size" (sp_Format__plane_size K AD) pats_Format__plane_size := by
  refine D.ok T.cl_Format sc_Format__plane_size (fun vs H Q E h => ?_) (fun f cdv A_ outer s H vs Q E hr h => ?_)
  · obtain ⟨G, p_self, dx_self, self', plane', width', height', rfl, _⟩ := h
    rfl
  · obtain ⟨G, p_self, dx_self, self', plane', width', height', rfl, sG, h_p_self, hw⟩ := h
    refine ⟨_, (pss_cons (ps_if (pt_not (pt_chain op_le op_lt pe_int (pv 1) (vx_propX c_Format_planes hr (by decide) (pv 0)))) (pss_one (ps_raise rfl (takes_of rfl rfl rfl rfl) (pmk_own PySem.F.excBase_ValueError T.xx_OutOfRange T.xg_OutOfRange T.xk_OutOfRange (raises_own T.xb_OutOfRange T.xt_OutOfRange) rfl))) pss_nil)
      (pss_cons (ps_if (PW.pt (pw_and (pt_cmp (pc_gt (pv 1) pe_int)) (pw_and1 (pt_cmp (pc_eqI (fldK (K := K) (pv 0)) pe_int))))) (pss_one (ps_ret (pe_tup (pa_cons (pe_op op_fdivW (pe_op op_add (pv 2) pe_int) pe_int) (pa_cons (pe_op op_fdivW (pe_op op_add (pv 3) pe_int) pe_int) pa_nil))))) pss_nil)
      (pss_one (ps_ret (pe_tup (pa_cons (pv 2) (pa_cons (pv 3) pa_nil))))))), ?_⟩
    obtain ⟨KK, EE, hK0, hE, hw⟩ := cW_gen hw
    have S0 := Sep.startG sG
    unfold F_Format__plane_size at hw
    refine ⟨_, rfl, _, _, rfl, rfl, _, rfl, ?_⟩
    refine iteD (fun c156 => ?_) (fun c156 => ?_)
    · have hw := cW_pos c156 hw
      refine ⟨_, rfl, _, _, _, rfl, (S0.bM _ _ h_p_self), G, _, _, self', rfl, S0.sG, (hide_nil (S0.bM _ _ h_p_self)), cW_callN hw (fun v157 hw H158 e159 => ?_) trivial⟩
      have S160 := S0.same e159
      refine ⟨_, _, rfl, rfl, _, rfl, ?_⟩
      refine iteN (fun c161 => ?_) (fun c161 => ?_)
      · have hw := cW_neg c161 hw
        exact hE 2 (cW_er hw) _ S160.b0
      · have hw := cW_pos c161 hw
        refine ⟨_, rfl, _, _, rfl, rfl, _, rfl, ?_⟩
        refine iteD (fun c162 => ?_) (fun c162 => ?_)
        · have hw := cW_pos c162 hw
          refine ⟨_, rfl, _, _, _, _, _, rfl, (S160.bM _ _ h_p_self), T.cl_Format, T.n_Format_chroma, rfl, _, _, rfl, rfl, _, rfl, ?_⟩
          refine iteD (fun c163 => ?_) (fun c163 => ?_)
          · have hw := cW_pos c163 hw
            refine ⟨_, rfl, _, _, rfl, rfl, _, _, rfl, rfl, (divW_lit (by decide) (by decide)), _, rfl, _, _, rfl, rfl, _, _, rfl, rfl, (divW_lit (by decide) (by decide)), (by show 2 ≤ sizeLine; decide), fun p164 n165 => ?_⟩
            generalize g166 : upd H158 p164 _ = H167
            obtain ⟨e168, h169⟩ := gen_new n165 g166
            have h170 : H167 p164 = some (.tup [V.int (((width' + 1) / 2)), V.int (((height' + 1) / 2))]) := h169
            have fr171 := S160.free n165
            obtain ⟨G173, eG174, hg175, S172⟩ := S160.grow n165 e168 h170 fr171
            have hw := cW_ok hw
            exact hK0 _ hw _ _ _ S172.b0 S172.g0 S172.sG S172.gn (rp_mk2 hg175 (.int _) (.int _))
          · have hw := cW_neg c163 hw
            refine ⟨_, rfl, _, rfl, (by show 2 ≤ sizeLine; decide), fun p176 n177 => ?_⟩
            generalize g178 : upd H158 p176 _ = H179
            obtain ⟨e180, h181⟩ := gen_new n177 g178
            have h182 : H179 p176 = some (.tup [V.int (width'), V.int (height')]) := h181
            have fr183 := S160.free n177
            obtain ⟨G185, eG186, hg187, S184⟩ := S160.grow n177 e180 h182 fr183
            have hw := cW_ok hw
            exact hK0 _ hw _ _ _ S184.b0 S184.g0 S184.sG S184.gn (rp_mk2 hg187 (.int _) (.int _))
        · have hw := cW_neg c162 hw
          refine iteF ?_
          refine ⟨_, rfl, _, rfl, (by show 2 ≤ sizeLine; decide), fun p188 n189 => ?_⟩
          generalize g190 : upd H158 p188 _ = H191
          obtain ⟨e192, h193⟩ := gen_new n189 g190
          have h194 : H191 p188 = some (.tup [V.int (width'), V.int (height')]) := h193
          have fr195 := S160.free n189
          obtain ⟨G197, eG198, hg199, S196⟩ := S160.grow n189 e192 h194 fr195
          have hw := cW_ok hw
          exact hK0 _ hw _ _ _ S196.b0 S196.g0 S196.sG S196.gn (rp_mk2 hg199 (.int _) (.int _))
    · have hw := cW_neg c156 hw
      refine ⟨_, rfl, ?_⟩
      refine iteT ?_
      exact hE 2 (cW_er hw) _ S0.b0

abbrev N_Format_coded_size : List Str := ["self", "plane", "columns", "rows"]
theorem sc_Format_coded_size : FnScope N_Format_coded_size ["self", "plane"] (defScope s_Format_coded_size) := ⟨rfl, rfl, rfl, by decide +kernel, rfl, by decide +kernel, by decide +kernel⟩
theorem ok_Format_coded_size (D : MethX K AD.c_Format "Format.coded_size" "coded_size" s_Format_coded_size ["self", "plane"] pats_Format_coded_size) (T : Txt w K mg AD) (c_Format_blocks : MetX P w K mg base 1 AD.c_Format "blocks" (sp_Format_blocks K AD) pats_Format_blocks) (c_Format__plane_size : MetX P w K mg base 3 AD.c_Format "_plane_size" (sp_Format__plane_size K AD) pats_Format__plane_size) : MetX P w K mg base 4 AD.c_Format "coded_size" (sp_Format_coded_size K AD) pats_Format_coded_size := by
  refine D.ok T.cl_Format sc_Format_coded_size (fun vs H Q E h => ?_) (fun f cdv A_ outer s H vs Q E hr h => ?_)
  · obtain ⟨G, p_self, dx_self, self', plane', rfl, _⟩ := h
    rfl
  · obtain ⟨G, p_self, dx_self, self', plane', rfl, sG, h_p_self, hw⟩ := h
    refine ⟨_, (pss_cons (ps_asg (vx_methX0 c_Format_blocks pat_Format_blocks_0 (.head _) hr (by decide) (takes_of rfl rfl rfl rfl) (pv 0)) (pg_tupK (K := K) (n := 2) (pgs_cons (pg_name (i := 2) sc_Format_coded_size.nd rfl (Or.inl rfl)) (pgs_cons (pg_name (i := 3) sc_Format_coded_size.nd rfl (Or.inl rfl)) pgs_nil))))
      (pss_one (ps_ret (vx_methX c_Format__plane_size pat_Format__plane_size_0 (.head _) hr (by decide) (takes_of rfl rfl rfl rfl) (pv 0) (pa_cons (pv 1) (pa_cons (pe_op op_mul (pv 2) (C8.pe_gc rfl T.g_BLOCK)) (pa_cons (pe_op op_mul (pv 3) (C8.pe_gc rfl T.g_BLOCK)) pa_nil))) pk_nil)))), ?_⟩
    obtain ⟨KK, EE, hK0, hE, hw⟩ := cW_gen hw
    have S0 := Sep.startG sG
    unfold F_Format_coded_size at hw
    refine ⟨_, rfl, _, _, _, rfl, (S0.bM _ _ h_p_self), rfl, rfl, rfl, G, _, _, self', rfl, S0.sG, (hide_nil (S0.bM _ _ h_p_self)), cW_call hw (fun v200 hw v203 H201 G204 e202 eG205 sG206 hn207 r208 => ?_) (fun e he H2 e2 => hE e he H2 (Same.trans S0.b0 e2))⟩
    have S209 := S0.step e202 eG205 sG206 hn207
    obtain ⟨a210, v212, v213, rfl, h211, r214, r215⟩ := rp_tup2 r208
    obtain rfl := rp_int r214
    obtain rfl := rp_int r215
    refine ⟨_, _, rfl, (SqT.of (S209.sG _ _ h211)), rfl, _, _, rfl, _, _, rfl, rfl, _, rfl, _, _, _, rfl, (S209.bM _ _ h_p_self), rfl, _, rfl, _, rfl, _, _, rfl, rfl, (.inr ⟨by decide, by decide⟩), _, rfl, _, _, rfl, rfl, (.inr ⟨by decide, by decide⟩), rfl, rfl, G204, _, _, self', _, _, _, rfl, S209.sG, (hide_nil (S209.bM _ _ h_p_self)), cW_call hw (fun v216 hw v219 H217 G220 e218 eG221 sG222 hn223 r224 => ?_) (fun e he H2 e2 => hE e he H2 (Same.trans S209.b0 e2))⟩
    have S225 := S209.step e218 eG221 sG222 hn223
    obtain ⟨a226, v228, v229, rfl, h227, r230, r231⟩ := rp_tup2 r224
    obtain rfl := rp_int r230
    obtain rfl := rp_int r231
    have hw := cW_ok hw
    exact hK0 _ hw _ _ _ S225.b0 S225.g0 S225.sG S225.gn (rp_mk2 h227 (.int _) (.int _))

abbrev N__law_planes : List Str := ["cell", "fmt", "top", "planes", "plane", "size", "digits", "rows", "j", "i"]
theorem sc__law_planes : FnScope N__law_planes ["cell", "fmt", "top"] (defScope s__law_planes) := ⟨rfl, rfl, rfl, by decide +kernel, rfl, by decide +kernel, by decide +kernel⟩
theorem ok__law_planes (D : DefX K mg "_law_planes" s__law_planes ["cell", "fmt", "top"] pats__law_planes) (T : Txt w K mg AD) (c_Format_coded_size : MetX P w K mg base 4 AD.c_Format "coded_size" (sp_Format_coded_size K AD) pats_Format_coded_size) (c__law_digits : CalX P w K mg base 1 "_law_digits" (sp__law_digits K AD) pats__law_digits) (c_Format_planes : PropY P w K mg base 1 AD.c_Format "planes" (sp_Format_planes K AD) pats_Format_planes) : CalX P w K mg base 5 "_law_planes" (sp__law_planes K AD) pats__law_planes := by
  refine D.ok sc__law_planes (fun vs H Q E h => ?_) (fun f cdv A_ outer s H vs Q E hr h => ?_)
  · obtain ⟨G, cell', p_fmt, dx_fmt, fmt', top', rfl, _⟩ := h
    rfl
  · obtain ⟨G, cell', p_fmt, dx_fmt, fmt', top', rfl, sG, h_p_fmt, hw⟩ := h
    refine ⟨_, (pss_cons (ps_set (i := 3) sc__law_planes.nd rfl (Or.inl rfl) (pe_lst pa_nil))
      (pss_cons (ps_for (passes_of rfl) rfl (pi_range1 rfl T.b_range (pa_cons (vx_propX c_Format_planes hr (by decide) (pv 1)) pa_nil)) (pg_name (i := 4) sc__law_planes.nd rfl (Or.inl rfl)) (pss_cons (ps_set (i := 5) sc__law_planes.nd rfl (Or.inl rfl) (vx_methX c_Format_coded_size pat_Format_coded_size_0 (.head _) hr (by decide) (takes_of rfl rfl rfl rfl) (pv 1) (pa_cons (pv 4) pa_nil) pk_nil))
      (pss_cons (ps_set (i := 6) sc__law_planes.nd rfl (Or.inr rfl) (vx_callX c__law_digits pat__law_digits_0 (.head _) hr (by decide) (takes_of rfl rfl rfl rfl) rfl (pa_cons (pe_op op_add (pv 0) (pe_op op_mul pe_int (pv 4))) (pa_cons (pe_op op_add (pv 2) pe_int) (pa_cons pe_int pa_nil))) pk_nil))
      (pss_cons (ps_set (i := 7) sc__law_planes.nd rfl (Or.inl rfl) (pe_lst pa_nil))
      (pss_cons (ps_for (passes_of rfl) rfl (pi_range1 rfl T.b_range (pa_cons (pe_ix (ix_tupK (K := K)) (pv 5) pe_int (fun _ _ => rfl)) pa_nil)) (pg_name (i := 8) sc__law_planes.nd rfl (Or.inr rfl)) (pss_one (ps_if (pt_cmp (pc_eqI (pe_op op_mod (pe_op op_fdivW (pv 0) pe_int) pe_int) pe_int)) (pss_one (ps_expr (pe_bm PySem.F.plainAttrs_list PySem.F.slot_list_append PySem.F.type_list_append mt_append (pv 7) (pa_cons (pe_lc (own := [("i", 9)]) (g := gName 9) (by rfl) sc__law_planes.nd (pi_range1 rfl T.b_range (pa_cons (pe_ix (ix_tupK (K := K)) (pv 5) pe_int (fun _ _ => rfl)) pa_nil)) (blkOk_by (own := [("i", 9)]) (N := N__law_planes) (sc := defScope s__law_planes) (by decide +kernel)) (fun _ _ _ _ _ => (pg_name (i := 9) sc__law_planes.nd rfl (Or.inl rfl))) (fun _ _ _ _ _ => pts_nil) (fun _ _ _ _ _ => (pe_ix (ix_listK (K := K)) (pv 6) (pe_op op_mod (pe_op op_add (pe_op op_mul pe_int (pv 8)) (pv 9)) pe_int) (fun _ _ => rfl)))) pa_nil)))) (pss_one (ps_if (pt_cmp (pc_eqI (pe_op op_mod (pe_op op_fdivW (pv 0) pe_int) pe_int) pe_int)) (pss_one (ps_expr (pe_bm PySem.F.plainAttrs_list PySem.F.slot_list_append PySem.F.type_list_append mt_append (pv 7) (pa_cons (pe_lc (own := [("i", 9)]) (g := gName 9) (by rfl) sc__law_planes.nd (pi_range1 rfl T.b_range (pa_cons (pe_ix (ix_tupK (K := K)) (pv 5) pe_int (fun _ _ => rfl)) pa_nil)) (blkOk_by (own := [("i", 9)]) (N := N__law_planes) (sc := defScope s__law_planes) (by decide +kernel)) (fun _ _ _ _ _ => (pg_name (i := 9) sc__law_planes.nd rfl (Or.inl rfl))) (fun _ _ _ _ _ => pts_nil) (fun _ _ _ _ _ => (pe_op op_mod (pe_callTy call_int1 (by rfl) T.b_int (by decide +kernel) (pa_cons (pe_op op_add (pe_op op_add (pv 0) (pe_op op_mul pe_int (pv 9))) (pe_op op_mul pe_int (pv 8))) pa_nil)) (pe_op op_add (pv 2) pe_int)))) pa_nil)))) (pss_one (ps_expr (pe_bm PySem.F.plainAttrs_list PySem.F.slot_list_append PySem.F.type_list_append mt_append (pv 7) (pa_cons (pe_lc (own := [("i", 9)]) (g := gName 9) (by rfl) sc__law_planes.nd (pi_range1 rfl T.b_range (pa_cons (pe_ix (ix_tupK (K := K)) (pv 5) pe_int (fun _ _ => rfl)) pa_nil)) (blkOk_by (own := [("i", 9)]) (N := N__law_planes) (sc := defScope s__law_planes) (by decide +kernel)) (fun _ _ _ _ _ => (pg_name (i := 9) sc__law_planes.nd rfl (Or.inl rfl))) (fun _ _ _ _ _ => pts_nil) (fun _ _ _ _ _ => (pe_op op_mod (pe_callTy call_int1 (by rfl) T.b_int (by decide +kernel) (pa_cons (pe_op op_add (pe_ix (ix_listK (K := K)) (pv 6) pe_int (fun _ _ => rfl)) (pe_op op_mul (pe_op op_add (pe_op op_fdivW (pv 9) pe_int) (pe_op op_fdivW (pv 8) pe_int)) pe_int)) pa_nil)) (pe_op op_add (pv 2) pe_int)))) pa_nil)))))))))
      (pss_one (ps_expr (pe_bm PySem.F.plainAttrs_list PySem.F.slot_list_append PySem.F.type_list_append mt_append (pv 3) (pa_cons (pv 7) pa_nil)))))))))
      (pss_one (ps_ret (pv 3))))), ?_⟩
    obtain ⟨KK, EE, hK0, hE, hw⟩ := cW_gen hw
    have S0 := Sep.startG sG
    unfold F__law_planes at hw
    refine ⟨(by show 0 ≤ sizeLine; decide), fun p232 n233 => ?_⟩
    generalize g234 : upd H p232 _ = H235
    obtain ⟨e236, h237⟩ := gen_new n233 g234
    have h238 : H235 p232 = some (.lst ([])) := h237
    have fr239 := S0.free n233
    have S240 := S0.new n233 e236 h238 fr239
    have d241 : RpAll G ([]) ((([] : (List (List (List Int)))) : (List (List (List Int)))).map (encL (encL PyData.int))) := RpAll.nil
    refine ⟨_, rfl, _, _, _, rfl, (S240.bM _ _ h_p_fmt), G, _, _, fmt', rfl, S240.sG, (hide_nil (S240.bM _ _ h_p_fmt)), cW_callN hw (fun v242 hw H243 e244 => ?_) trivial⟩
    have S245 := S240.same e244
    obtain ⟨g246, hw⟩ := cW_grd hw
    obtain ⟨K250, hK251, hw⟩ := cW_push hw
    refine ⟨_, rfl, g246.1, g246.2, for_range (lo := 0) (n := Int.toNat (v242)) (fun i σ H' => ∃ (planes_252 : (List (List (List Int)))) (vs253 : List V) (u254 : Option V) (u255 : Option V) (u256 : Option V) (u257 : Option V) (u258 : Option V) (G' : Hp), σ = [some (V.int (cell')), some (V.ref p_fmt), some (V.int (top')), some (V.ref p232), u254, u255, u256, u257, u258, none] ∧ Same G G' ∧ Sep [] H G G' H' [p232] ∧ H' p232 = some (.lst (vs253)) ∧ RpAll G' (vs253) ((planes_252 : (List (List (List Int)))).map (encL (encL PyData.int))) ∧ cW (forS (List.drop i (rng (0) (Int.toNat (v242)))) planes_252 (fun s x => F__law_planes_b1 (cell') (fmt') (top') s x)) K250 EE) ?_ ?_ ?_⟩
    · have h259 := (e244 _ _ h238)
      exact ⟨(([] : (List (List (List Int))))), _, _, _, _, _, _, _, rfl, (Same.refl _), S245, h259, d241, hw⟩
    · intro i σ H260 hi hw
      obtain ⟨planes_252, vs253, u254, u255, u256, u257, u258, G264, rfl, eG265, S261, h262, d263, hw⟩ := hw
      have hw := cW_forS (rng_get hi) hw
      generalize (0 + (i : Int)) = x266 at hw ⊢
      have hw : cW (F__law_planes_b1 (cell') (fmt') (top') (planes_252) (x266)) _ EE := hw
      unfold F__law_planes_b1 at hw
      obtain ⟨K268, hK269, hw⟩ := cW_name hw
      refine ⟨_, rfl, _, _, _, rfl, (S261.bM _ _ h_p_fmt), rfl, _, rfl, rfl, rfl, G264, _, _, fmt', _, rfl, S261.sG, (hide_nil (S261.bM _ _ h_p_fmt)), cW_call hw (fun v271 hw v274 H272 G275 e273 eG276 sG277 hn278 r279 => ?_) (fun e he H2 e2 => hE e he H2 (Same.trans S261.b0 e2))⟩
      have S280 := S261.step e273 eG276 sG277 hn278
      obtain ⟨a281, v283, v284, rfl, h282, r285, r286⟩ := rp_tup2 r279
      obtain rfl := rp_int r285
      obtain rfl := rp_int r286
      refine ⟨_, rfl, _, rfl, _, _, rfl, rfl, (.inl ⟨by decide, by decide⟩), _, _, rfl, rfl, _, rfl, _, _, rfl, rfl, rfl, rfl, G275, _, _, _, rfl, S280.sG, cW_call hw (fun v287 hw p290 H288 n291 e289 h292 => ?_) (fun e he H2 e2 => hE e he H2 (Same.trans S280.b0 e2))⟩
      have h293 : H288 p290 = some (.lst ((v287 : (List Int)).map V.int)) := h292
      have fr294 := S280.free n291
      have S295 := S280.new n291 e289 h293 fr294
      refine ⟨(by show 0 ≤ sizeLine; decide), fun p296 n297 => ?_⟩
      generalize g298 : upd H288 p296 _ = H299
      obtain ⟨e300, h301⟩ := gen_new n297 g298
      have h302 : H299 p296 = some (.lst ([])) := h301
      have fr303 := S295.free n297
      have S304 := S295.new n297 e300 h302 fr303
      have d305 : RpAll G275 ([]) ((([] : (List (List Int))) : (List (List Int))).map (encL PyData.int)) := RpAll.nil
      obtain ⟨g306, hw⟩ := cW_grd hw
      obtain ⟨K312, hK313, hw⟩ := cW_push hw
      refine ⟨_, rfl, _, _, _, _, rfl, rfl, (SqT.of (S304.sG _ _ h282)), rfl, _, rfl, g306.1, g306.2, for_range (lo := 0) (n := Int.toNat (v271.2)) (fun i σ H' => ∃ (rows_314 : (List (List Int))) (vs315 : List V) (u316 : Option V) (G' : Hp), σ = [some (V.int (cell')), some (V.ref p_fmt), some (V.int (top')), some (V.ref p232), some (V.int (x266)), some (V.ref a281), some (V.ref p290), some (V.ref p296), u316, none] ∧ Same G275 G' ∧ Sep [] H G G' H' [p232, p290, p296] ∧ H' p232 = some (.lst (vs253)) ∧ H' p290 = some (.lst ((v287 : (List Int)).map V.int)) ∧ H' p296 = some (.lst (vs315)) ∧ RpAll G' (vs315) ((rows_314 : (List (List Int))).map (encL PyData.int)) ∧ cW (forS (List.drop i (rng (0) (Int.toNat (v271.2)))) rows_314 (fun s x => F__law_planes_b2 (cell') (top') (v271) (v287) s x)) K312 EE) ?_ ?_ ?_⟩
      · have h317 := (e300 _ _ (e289 _ _ (e273 _ _ h262)))
        have h318 := (e300 _ _ h293)
        exact ⟨(([] : (List (List Int)))), _, _, _, rfl, (Same.refl _), (S304.sub (all_cons (.tail _ (.tail _ (.head _))) (all_cons (.tail _ (.head _)) (all_cons (.head _) all_nil)))), h317, h318, h302, d305, hw⟩
      · intro i σ H319 hi hw
        obtain ⟨rows_314, vs315, u316, G325, rfl, eG326, S320, h321, h322, h323, d324, hw⟩ := hw
        have hw := cW_forS (rng_get hi) hw
        generalize (0 + (i : Int)) = x327 at hw ⊢
        have hw : cW (F__law_planes_b2 (cell') (top') (v271) (v287) (rows_314) (x327)) _ EE := hw
        unfold F__law_planes_b2 at hw
        obtain ⟨K329, hK330, hw⟩ := cW_name hw
        refine ⟨_, rfl, _, _, rfl, rfl, (divW_lit (by decide) (by decide)), _, _, rfl, rfl, (show (0 : Int) < 3 by decide), _, _, rfl, rfl, _, rfl, ?_⟩
        refine iteD (fun c332 => ?_) (fun c332 => ?_)
        · have hw := cW_pos c332 hw
          obtain ⟨g333, hw⟩ := cW_grd hw
          obtain ⟨K337, hK338, hw⟩ := cW_push hw
          refine ⟨_, rfl, (.inl ⟨rfl, _, SqL.of h323⟩), _, rfl, _, _, _, _, rfl, rfl, (SqT.of (S320.sG _ _ (eG326 _ _ h282))), rfl, _, rfl, g333.1, g333.2, fun D339 n340 => lc_range (lo := 0) (n := Int.toNat (v271.1)) (fun i1 H' => ∃ (G' : Hp) (acc342 : (List Int)), Same G325 G' ∧ Sep [] H G G' H' [D339, p232, p290, p296] ∧ H' p232 = some (.lst (vs253)) ∧ H' p290 = some (.lst ((v287 : (List Int)).map V.int)) ∧ H' p296 = some (.lst (vs315)) ∧ H' D339 = some (.lst ((acc342 : (List Int)).map V.int)) ∧ Same H319 H' ∧ cW (mapA (List.drop i1 (rng (0) (Int.toNat (v271.1)))) acc342 (fun x => noEr (F__law_planes_c3 (v287) (x327) x))) K337 EE) ?_ ?_ ?_⟩
          · generalize g344 : upd H319 D339 _ = H345
            obtain ⟨e346, h347⟩ := gen_new n340 g344
            have fr348 := S320.free n340
            have S349 := S320.new n340 e346 h347 fr348
            have h350 := (e346 _ _ h321)
            have h351 := (e346 _ _ h322)
            have h352 := (e346 _ _ h323)
            exact ⟨_, [], Same.refl _, S349, h350, h351, h352, h347, e346, hw⟩
          · intro i1 H353 hi hw
            obtain ⟨G356, acc358, eG357, S354, h365, h366, h367, h355, eo364, hw⟩ := hw
            obtain ⟨z368, hw⟩ := cW_mapA (rng_get hi) hw
            generalize (0 + (i1 : Int)) = x369 at hw ⊢
            have hw := cW_noEr hw
            have hw : cW (F__law_planes_c3 (v287) (x327) (x369)) _ (fun _ => False) := hw
            unfold F__law_planes_c3 at hw
            refine ⟨rfl, ?_⟩
            refine tyes_go ?_
            obtain ⟨g371, hw⟩ := cW_grd hw
            refine ⟨_, rfl, _, rfl, _, _, rfl, rfl, (.inl ⟨by decide, by decide⟩), _, rfl, _, _, rfl, rfl, _, _, rfl, rfl, (show (0 : Int) < 24 by decide), _, _, _, _, rfl, rfl, (SqL.of h366), (atI_map g371), _, h355, (app_lenM z368), ?_⟩
            generalize g372 : upd H353 D339 _ = H373
            obtain ⟨x374, h375⟩ := gen_mut g372
            have S376 := S354.mut1 x374 (.head _) h375
            have hw := cW_ok hw
            have h377 := (x374 _ _ h365 (ne_of_none h321 n340))
            have h378 := (x374 _ _ h366 (ne_of_none h322 n340))
            have h379 := (x374 _ _ h367 (ne_of_none h323 n340))
            exact ⟨_, (acc358 ++ [(itD (v287) ((((7 * x327) + x369) % 24)))]), eG357, S376, h377, h378, h379, (snoc_map h375), (same_mut eo364 x374 n340), hw⟩
          intro H380 hw
          obtain ⟨G383, acc385, eG384, S381, h392, h393, h394, h382, eo391, hw⟩ := hw
          have hw := hK338 _ (cW_mapA0 (rng_len _ _).symm hw)
          have fr395 := S320.free n340
          obtain ⟨g396, hw⟩ := cW_grd hw
          obtain ⟨G397, eG398, hg399, S400⟩ := Sep.freeze (O' := [p232, p290, p296]) S381 (.head _) h382 fr395 ((all_cons ⟨(.tail _ (.head _)), (ne_of_none h321 n340)⟩ (all_cons ⟨(.tail _ (.tail _ (.head _))), (ne_of_none h322 n340)⟩ (all_cons ⟨(.tail _ (.tail _ (.tail _ (.head _)))), (ne_of_none h323 n340)⟩ all_nil))))
          refine ⟨_, _, _, rfl, rfl, h394, (app_len (RpAll.mono eG398 (RpAll.mono eG384 d324)) g396), ?_⟩
          generalize g401 : upd H380 p296 _ = H402
          obtain ⟨x403, h404⟩ := gen_mut g401
          have h405 : H402 p296 = some (.lst (vs315 ++ [V.ref D339])) := h404
          have S406 := S400.mut1 x403 (.tail _ (.tail _ (.head _))) h405
          have d407 : RpAll G397 (vs315 ++ [V.ref D339]) (((rows_314) ++ [acc385] : (List (List Int))).map (encL PyData.int)) := app_map (RpAll.mono eG398 (RpAll.mono eG384 d324)) (RpAll.one (rp_mk_ints hg399))
          have hw := cW_bnd hw
          have hw := cW_ok hw
          have hw := hK330 _ hw
          have h409 := (x403 _ _ h392 (ne_of_none (e289 _ _ (e273 _ _ h262)) n297))
          have h410 := (x403 _ _ h393 (ne_of_none h293 n297))
          exact ⟨((rows_314) ++ [acc385]), _, _, _, rfl, (Same.trans (Same.trans eG326 eG384) eG398), S406, h409, h410, h405, d407, hw⟩
        · have hw := cW_neg c332 hw
          refine ⟨_, rfl, _, _, rfl, rfl, (divW_lit (by decide) (by decide)), _, _, rfl, rfl, (show (0 : Int) < 3 by decide), _, _, rfl, rfl, _, rfl, ?_⟩
          refine iteD (fun c411 => ?_) (fun c411 => ?_)
          · have hw := cW_pos c411 hw
            obtain ⟨g412, hw⟩ := cW_grd hw
            obtain ⟨K417, hK418, hw⟩ := cW_push hw
            refine ⟨_, rfl, (.inl ⟨rfl, _, SqL.of h323⟩), _, rfl, _, _, _, _, rfl, rfl, (SqT.of (S320.sG _ _ (eG326 _ _ h282))), rfl, _, rfl, g412.1, g412.2, fun D419 n420 => lc_range (lo := 0) (n := Int.toNat (v271.1)) (fun i1 H' => ∃ (G' : Hp) (acc422 : (List Int)), Same G325 G' ∧ Sep [] H G G' H' [D419, p232, p290, p296] ∧ H' p232 = some (.lst (vs253)) ∧ H' p290 = some (.lst ((v287 : (List Int)).map V.int)) ∧ H' p296 = some (.lst (vs315)) ∧ H' D419 = some (.lst ((acc422 : (List Int)).map V.int)) ∧ Same H319 H' ∧ cW (mapA (List.drop i1 (rng (0) (Int.toNat (v271.1)))) acc422 (fun x => noEr (F__law_planes_c4 (cell') (top') (x327) x))) K417 EE) ?_ ?_ ?_⟩
            · generalize g424 : upd H319 D419 _ = H425
              obtain ⟨e426, h427⟩ := gen_new n420 g424
              have fr428 := S320.free n420
              have S429 := S320.new n420 e426 h427 fr428
              have h430 := (e426 _ _ h321)
              have h431 := (e426 _ _ h322)
              have h432 := (e426 _ _ h323)
              exact ⟨_, [], Same.refl _, S429, h430, h431, h432, h427, e426, hw⟩
            · intro i1 H433 hi hw
              obtain ⟨G436, acc438, eG437, S434, h445, h446, h447, h435, eo444, hw⟩ := hw
              obtain ⟨z448, hw⟩ := cW_mapA (rng_get hi) hw
              generalize (0 + (i1 : Int)) = x449 at hw ⊢
              have hw := cW_noEr hw
              have hw : cW (F__law_planes_c4 (cell') (top') (x327) (x449)) _ (fun _ => False) := hw
              unfold F__law_planes_c4 at hw
              refine ⟨rfl, ?_⟩
              refine tyes_go ?_
              refine ⟨_, rfl, _, rfl, _, _, rfl, rfl, (.inl ⟨by decide, by decide⟩), _, _, rfl, rfl, _, rfl, _, _, rfl, rfl, (.inl ⟨by decide, by decide⟩), _, _, rfl, rfl, .inl ⟨_, rfl, ?_⟩⟩
              obtain ⟨g451, hw⟩ := cW_grd hw
              refine ⟨_, rfl, _, _, rfl, rfl, _, _, rfl, rfl, g451, _, h435, (app_lenM z448), ?_⟩
              generalize g452 : upd H433 D419 _ = H453
              obtain ⟨x454, h455⟩ := gen_mut g452
              have S456 := S434.mut1 x454 (.head _) h455
              have hw := cW_ok hw
              have h457 := (x454 _ _ h445 (ne_of_none h321 n420))
              have h458 := (x454 _ _ h446 (ne_of_none h322 n420))
              have h459 := (x454 _ _ h447 (ne_of_none h323 n420))
              exact ⟨_, (acc438 ++ [(((cell' + (9 * x449)) + (5 * x327)) % (top' + 1))]), eG437, S456, h457, h458, h459, (snoc_map h455), (same_mut eo444 x454 n420), hw⟩
            intro H460 hw
            obtain ⟨G463, acc465, eG464, S461, h472, h473, h474, h462, eo471, hw⟩ := hw
            have hw := hK418 _ (cW_mapA0 (rng_len _ _).symm hw)
            have fr475 := S320.free n420
            obtain ⟨g476, hw⟩ := cW_grd hw
            obtain ⟨G477, eG478, hg479, S480⟩ := Sep.freeze (O' := [p232, p290, p296]) S461 (.head _) h462 fr475 ((all_cons ⟨(.tail _ (.head _)), (ne_of_none h321 n420)⟩ (all_cons ⟨(.tail _ (.tail _ (.head _))), (ne_of_none h322 n420)⟩ (all_cons ⟨(.tail _ (.tail _ (.tail _ (.head _)))), (ne_of_none h323 n420)⟩ all_nil))))
            refine ⟨_, _, _, rfl, rfl, h474, (app_len (RpAll.mono eG478 (RpAll.mono eG464 d324)) g476), ?_⟩
            generalize g481 : upd H460 p296 _ = H482
            obtain ⟨x483, h484⟩ := gen_mut g481
            have h485 : H482 p296 = some (.lst (vs315 ++ [V.ref D419])) := h484
            have S486 := S480.mut1 x483 (.tail _ (.tail _ (.head _))) h485
            have d487 : RpAll G477 (vs315 ++ [V.ref D419]) (((rows_314) ++ [acc465] : (List (List Int))).map (encL PyData.int)) := app_map (RpAll.mono eG478 (RpAll.mono eG464 d324)) (RpAll.one (rp_mk_ints hg479))
            have hw := cW_bnd hw
            have hw := cW_ok hw
            have hw := hK330 _ hw
            have h489 := (x483 _ _ h472 (ne_of_none (e289 _ _ (e273 _ _ h262)) n297))
            have h490 := (x483 _ _ h473 (ne_of_none h293 n297))
            exact ⟨((rows_314) ++ [acc465]), _, _, _, rfl, (Same.trans (Same.trans eG326 eG464) eG478), S486, h489, h490, h485, d487, hw⟩
          · have hw := cW_neg c411 hw
            obtain ⟨g491, hw⟩ := cW_grd hw
            obtain ⟨K496, hK497, hw⟩ := cW_push hw
            refine ⟨_, rfl, (.inl ⟨rfl, _, SqL.of h323⟩), _, rfl, _, _, _, _, rfl, rfl, (SqT.of (S320.sG _ _ (eG326 _ _ h282))), rfl, _, rfl, g491.1, g491.2, fun D498 n499 => lc_range (lo := 0) (n := Int.toNat (v271.1)) (fun i1 H' => ∃ (G' : Hp) (acc501 : (List Int)), Same G325 G' ∧ Sep [] H G G' H' [D498, p232, p290, p296] ∧ H' p232 = some (.lst (vs253)) ∧ H' p290 = some (.lst ((v287 : (List Int)).map V.int)) ∧ H' p296 = some (.lst (vs315)) ∧ H' D498 = some (.lst ((acc501 : (List Int)).map V.int)) ∧ Same H319 H' ∧ cW (mapA (List.drop i1 (rng (0) (Int.toNat (v271.1)))) acc501 (fun x => noEr (F__law_planes_c5 (top') (v287) (x327) x))) K496 EE) ?_ ?_ ?_⟩
            · generalize g503 : upd H319 D498 _ = H504
              obtain ⟨e505, h506⟩ := gen_new n499 g503
              have fr507 := S320.free n499
              have S508 := S320.new n499 e505 h506 fr507
              have h509 := (e505 _ _ h321)
              have h510 := (e505 _ _ h322)
              have h511 := (e505 _ _ h323)
              exact ⟨_, [], Same.refl _, S508, h509, h510, h511, h506, e505, hw⟩
            · intro i1 H512 hi hw
              obtain ⟨G515, acc517, eG516, S513, h524, h525, h526, h514, eo523, hw⟩ := hw
              obtain ⟨z527, hw⟩ := cW_mapA (rng_get hi) hw
              generalize (0 + (i1 : Int)) = x528 at hw ⊢
              have hw := cW_noEr hw
              have hw : cW (F__law_planes_c5 (top') (v287) (x327) (x528)) _ (fun _ => False) := hw
              unfold F__law_planes_c5 at hw
              refine ⟨rfl, ?_⟩
              refine tyes_go ?_
              obtain ⟨g530, hw⟩ := cW_grd hw
              refine ⟨_, rfl, _, _, _, _, rfl, rfl, (SqL.of h525), (atI_map g530), _, rfl, _, _, rfl, rfl, (divW_lit (by decide) (by decide)), _, rfl, _, _, rfl, rfl, (divW_lit (by decide) (by decide)), _, _, rfl, rfl, _, _, rfl, rfl, (.inr ⟨by decide, by decide⟩), _, _, rfl, rfl, .inl ⟨_, rfl, ?_⟩⟩
              obtain ⟨g531, hw⟩ := cW_grd hw
              refine ⟨_, rfl, _, _, rfl, rfl, _, _, rfl, rfl, g531, _, h514, (app_lenM z527), ?_⟩
              generalize g532 : upd H512 D498 _ = H533
              obtain ⟨x534, h535⟩ := gen_mut g532
              have S536 := S513.mut1 x534 (.head _) h535
              have hw := cW_ok hw
              have h537 := (x534 _ _ h524 (ne_of_none h321 n499))
              have h538 := (x534 _ _ h525 (ne_of_none h322 n499))
              have h539 := (x534 _ _ h526 (ne_of_none h323 n499))
              exact ⟨_, (acc517 ++ [(((itD (v287) (0)) + (((x528 / 3) + (x327 / 3)) * 40)) % (top' + 1))]), eG516, S536, h537, h538, h539, (snoc_map h535), (same_mut eo523 x534 n499), hw⟩
            intro H540 hw
            obtain ⟨G543, acc545, eG544, S541, h552, h553, h554, h542, eo551, hw⟩ := hw
            have hw := hK497 _ (cW_mapA0 (rng_len _ _).symm hw)
            have fr555 := S320.free n499
            obtain ⟨g556, hw⟩ := cW_grd hw
            obtain ⟨G557, eG558, hg559, S560⟩ := Sep.freeze (O' := [p232, p290, p296]) S541 (.head _) h542 fr555 ((all_cons ⟨(.tail _ (.head _)), (ne_of_none h321 n499)⟩ (all_cons ⟨(.tail _ (.tail _ (.head _))), (ne_of_none h322 n499)⟩ (all_cons ⟨(.tail _ (.tail _ (.tail _ (.head _)))), (ne_of_none h323 n499)⟩ all_nil))))
            refine ⟨_, _, _, rfl, rfl, h554, (app_len (RpAll.mono eG558 (RpAll.mono eG544 d324)) g556), ?_⟩
            generalize g561 : upd H540 p296 _ = H562
            obtain ⟨x563, h564⟩ := gen_mut g561
            have h565 : H562 p296 = some (.lst (vs315 ++ [V.ref D498])) := h564
            have S566 := S560.mut1 x563 (.tail _ (.tail _ (.head _))) h565
            have d567 : RpAll G557 (vs315 ++ [V.ref D498]) (((rows_314) ++ [acc545] : (List (List Int))).map (encL PyData.int)) := app_map (RpAll.mono eG558 (RpAll.mono eG544 d324)) (RpAll.one (rp_mk_ints hg559))
            have hw := cW_bnd hw
            have hw := cW_ok hw
            have hw := hK330 _ hw
            have h569 := (x563 _ _ h552 (ne_of_none (e289 _ _ (e273 _ _ h262)) n297))
            have h570 := (x563 _ _ h553 (ne_of_none h293 n297))
            exact ⟨((rows_314) ++ [acc545]), _, _, _, rfl, (Same.trans (Same.trans eG326 eG544) eG558), S566, h569, h570, h565, d567, hw⟩
      · intro σ H571 hw
        obtain ⟨rows_314, vs315, u316, G577, rfl, eG578, S572, h573, h574, h575, d576, hw⟩ := hw
        have hw := hK313 _ (cW_forS0 (rng_len _ _).symm hw)
        have hw : cW (F__law_planes_r2 (planes_252) (rows_314)) _ EE := hw
        unfold F__law_planes_r2 at hw
        obtain ⟨g580, hw⟩ := cW_grd hw
        refine ⟨_, rfl, (.inl ⟨rfl, _, SqL.of h573⟩), _, rfl, ?_⟩
        obtain ⟨G581, eG582, hg583, S584⟩ := Sep.freeze (O' := [p232, p290]) S572 (.tail _ (.tail _ (.head _))) h575 fr303 ((all_cons ⟨(.head _), (ne_of_none (e289 _ _ (e273 _ _ h262)) n297)⟩ (all_cons ⟨(.tail _ (.head _)), (ne_of_none h293 n297)⟩ all_nil)))
        refine ⟨_, _, _, rfl, rfl, h573, (app_len (RpAll.mono eG582 (RpAll.mono eG578 (RpAll.mono eG276 d263))) g580), ?_⟩
        generalize g585 : upd H571 p232 _ = H586
        obtain ⟨x587, h588⟩ := gen_mut g585
        have h589 : H586 p232 = some (.lst (vs253 ++ [V.ref p296])) := h588
        have S590 := S584.mut1 x587 (.head _) h589
        have d591 : RpAll G581 (vs253 ++ [V.ref p296]) (((planes_252) ++ [rows_314] : (List (List (List Int)))).map (encL (encL PyData.int))) := app_map (RpAll.mono eG582 (RpAll.mono eG578 (RpAll.mono eG276 d263))) (RpAll.one (rp_mk_list hg583 (RpAll.mono eG582 d576)))
        have hw := cW_bnd hw
        have hw := cW_ok hw
        have hw := hK269 _ hw
        exact ⟨((planes_252) ++ [rows_314]), _, _, _, _, _, _, _, rfl, (Same.trans (Same.trans (Same.trans eG265 eG276) eG578) eG582), (S590.sub (all_cons (.head _) all_nil)), h589, d591, hw⟩
    · intro σ H593 hw
      obtain ⟨planes_252, vs253, u254, u255, u256, u257, u258, G597, rfl, eG598, S594, h595, d596, hw⟩ := hw
      have hw := hK251 _ (cW_forS0 (rng_len _ _).symm hw)
      have hw : cW (F__law_planes_r1  (planes_252)) _ EE := hw
      unfold F__law_planes_r1 at hw
      refine ⟨_, rfl, ?_⟩
      obtain ⟨G600, eG601, hg602, S603⟩ := Sep.freeze (O' := []) S594 (.head _) h595 fr239 (all_nil)
      have hw := cW_ok hw
      exact hK0 _ hw _ _ _ S603.b0 S603.g0 S603.sG S603.gn (rp_mk_list hg602 (RpAll.mono eG601 d596))

abbrev N_copy_planes : List Str := ["planes", "plane", "row"]
theorem sc_copy_planes : FnScope N_copy_planes ["planes"] (defScope s_copy_planes) := ⟨rfl, rfl, rfl, by decide +kernel, rfl, by decide +kernel, by decide +kernel⟩
theorem ok_copy_planes (D : DefX K mg "copy_planes" s_copy_planes ["planes"] pats_copy_planes) (T : Txt w K mg AD)  : CalX P w K mg base 1 "copy_planes" (sp_copy_planes K AD) pats_copy_planes := by
  refine D.ok sc_copy_planes (fun vs H Q E h => ?_) (fun f cdv A_ outer s H vs Q E hr h => ?_)
  · obtain ⟨G, v_planes, planes', rfl, _⟩ := h
    rfl
  · obtain ⟨G, v_planes, planes', rfl, sG, r_planes, hw⟩ := h
    refine ⟨_, (pss_one (ps_ret (pe_lc (own := [("plane", 1)]) (g := gName 1) (by rfl) sc_copy_planes.nd (pi_listK (K := K) (pv 0)) (blkOk_by (own := [("plane", 1)]) (N := N_copy_planes) (sc := defScope s_copy_planes) (by decide +kernel)) (fun _ _ _ _ _ => (pg_name (i := 1) sc_copy_planes.nd rfl (Or.inl rfl))) (fun _ _ _ _ _ => pts_nil) (fun _ _ _ _ _ => (pe_lc (own := [("row", 2)]) (g := gName 2) (by rfl) sc_copy_planes.nd (pi_listK (K := K) (pv 1)) (blk_relabel (blkOk_by (own := [("row", 2)]) (N := N_copy_planes) (by decide +kernel))) (fun _ _ _ _ _ => (pg_name (i := 2) sc_copy_planes.nd rfl (Or.inl rfl))) (fun _ _ _ _ _ => pts_nil) (fun _ _ _ _ _ => (pe_callTy (call_listLK (K := K)) (by rfl) T.b_list (by decide +kernel) (pa_cons (pv 2) pa_nil)))))))), ?_⟩
    obtain ⟨KK, EE, hK0, hE, hw⟩ := cW_gen hw
    have S0 := Sep.startG sG
    unfold F_copy_planes at hw
    obtain ⟨a604, vs605, rfl, h606, d607⟩ := rp_list r_planes
    obtain ⟨K609, hK610, hw⟩ := cW_push hw
    refine ⟨_, rfl, _, rfl, ⟨_, (SqL.of (S0.bM _ _ h606))⟩, fun D611 n612 => lc_list (K := K) (a := a604) (xs := vs605) (fun i1 H' => ∃ (G' : Hp) (acc614 : (List (List (List Int)))) (vs615 : List V) (L613 : List Addr), Same G G' ∧ Sep [] H G G' H' (D611 :: (L613 ++ [])) ∧ H' D611 = some (.lst vs615) ∧ OwAll G' H' L613 vs615 ((acc614 : (List (List (List Int)))).map (oL (oL oI))) ∧ (∀ b ∈ L613, H b = none) ∧ (∀ b ∈ L613, b ≠ D611) ∧ Same H H' ∧ cW (mapA (List.drop i1 (planes')) acc614 (fun x => noEr (F_copy_planes_c1  x))) K609 EE) ?_ ?_ ?_ ?_⟩
    · generalize g616 : upd H D611 _ = H617
      obtain ⟨e618, h619⟩ := gen_new n612 g616
      have fr620 := S0.free n612
      have S621 := S0.new n612 e618 h619 fr620
      exact ⟨_, [], [], [], Same.refl _, (S621.sub (all_cons (.head _) (all_app (L := []) all_nil all_nil))), h619, OwAll.nil, all_nil, all_nil, e618, hw⟩
    · intro i1 H622 _ hw
      obtain ⟨G625, acc627, vs628, L630, eG626, S623, h624, d629, nb631, nd632, eo633, hw⟩ := hw
      exact (SqL.of (S623.bM _ _ h606))
    · intro i1 x H634 hj hw
      obtain ⟨G637, acc639, vs640, L642, eG638, S635, h636, d641, nb643, nd644, eo645, hw⟩ := hw
      obtain ⟨x646, hx, r647⟩ := RpAll.get d607 hj
      obtain ⟨a648, vs649, rfl, h650, d651⟩ := rp_list r647
      obtain ⟨z652, hw⟩ := cW_mapA hx hw
      have hw := cW_noEr hw
      have hw : cW (F_copy_planes_c1  (x646)) _ (fun _ => False) := hw
      unfold F_copy_planes_c1 at hw
      refine ⟨rfl, ?_⟩
      refine tyes_go ?_
      obtain ⟨K655, hK656, hw⟩ := cW_push hw
      refine ⟨_, rfl, _, rfl, ⟨_, (SqL.of (S635.bM _ _ h650))⟩, fun D657 n658 => lc_list (K := K) (a := a648) (xs := vs649) (fun i2 H' => ∃ (G' : Hp) (acc660 : (List (List Int))) (vs661 : List V) (L659 : List Addr), Same G637 G' ∧ Sep [] H G G' H' (D657 :: (L659 ++ (D611 :: (L642 ++ [])))) ∧ H' D611 = some (.lst (vs640)) ∧ H' D657 = some (.lst vs661) ∧ OwAll G' H' L642 (vs640) ((acc639 : (List (List (List Int)))).map (oL (oL oI))) ∧ OwAll G' H' L659 vs661 ((acc660 : (List (List Int))).map (oL oI)) ∧ (∀ b ∈ L659, H634 b = none) ∧ (∀ b ∈ L659, b ≠ D657) ∧ Same H634 H' ∧ cW (mapA (List.drop i2 (x646)) acc660 (fun x => noEr (F_copy_planes_c2  x))) K655 (fun _ => False)) ?_ ?_ ?_ ?_⟩
      · generalize g662 : upd H634 D657 _ = H663
        obtain ⟨e664, h665⟩ := gen_new n658 g662
        have fr666 := S635.free n658
        have S667 := S635.new n658 e664 h665 fr666
        have h668 := (e664 _ _ h636)
        have w669 : OwAll G637 H663 L642 (vs640) ((acc639 : (List (List (List Int)))).map (oL (oL oI))) := (OwAll.mono (Same.refl _) (keeps_same e664) d641)
        exact ⟨_, [], [], [], Same.refl _, (S667.sub (all_cons (.head _) (all_app (L := []) all_nil (all_cons (.tail _ (.head _)) (all_app ((fun b hb => (.tail _ (.tail _ (List.mem_append_left _ hb)))) : ∀ b ∈ L642, b ∈ (D657 :: (D611 :: (L642 ++ [])))) all_nil))))), h668, h665, w669, OwAll.nil, all_nil, all_nil, e664, hw⟩
      · intro i2 H670 _ hw
        obtain ⟨G673, acc675, vs676, L678, eG674, S671, h682, h672, w683, d677, nb679, nd680, eo681, hw⟩ := hw
        exact (SqL.of (S671.bM _ _ h650))
      · intro i2 x H684 hj hw
        obtain ⟨G687, acc689, vs690, L692, eG688, S685, h696, h686, w697, d691, nb693, nd694, eo695, hw⟩ := hw
        obtain ⟨x698, hx, r699⟩ := RpAll.get d651 hj
        obtain ⟨a700, rfl, h701⟩ := rp_ints r699
        obtain ⟨z702, hw⟩ := cW_mapA hx hw
        have hw := cW_noEr hw
        have hw : cW (F_copy_planes_c2  (x698)) _ (fun _ => False) := hw
        unfold F_copy_planes_c2 at hw
        refine ⟨rfl, ?_⟩
        refine tyes_go ?_
        refine ⟨_, rfl, _, _, rfl, (SqL.of (S685.bM _ _ h701)), fun p704 n705 => ?_⟩
        generalize g706 : upd H684 p704 _ = H707
        obtain ⟨e708, h709⟩ := gen_new n705 g706
        have h710 : H707 p704 = some (.lst ((x698 : (List Int)).map V.int)) := h709
        have fr711 := S685.free n705
        have S712 := S685.new n705 e708 h710 fr711
        have w713 : OwAll G687 H707 L692 (vs690) ((acc689 : (List (List Int))).map (oL oI)) := (OwAll.mono (Same.refl _) (keeps_same e708) d691)
        have h714 := (e708 _ _ h686)
        refine ⟨_, h714, (app_len (OwAll.rpA w713 (encO_L encO_I) S712.sG) z702), ?_⟩
        generalize g715 : upd H707 D657 _ = H716
        obtain ⟨x717, h718⟩ := gen_mut g715
        have S719 := S712.mut1 x717 (.tail _ (.head _)) h718
        have hw := cW_ok hw
        have h720 := (x717 _ _ (e708 _ _ h696) (ne_of_none h636 n658))
        have w721 : OwAll G687 H716 L642 (vs640) ((acc639 : (List (List (List Int)))).map (oL (oL oI))) := (OwAll.mono (Same.refl _) (keeps_mut x717 ((there_ne (fun b_ hb_ => (S635.ow b_ (((fun b hb => (.tail _ (List.mem_append_left _ hb))) : ∀ b ∈ L642, b ∈ (D611 :: (L642 ++ []))) b_ hb_)).2.1) n658) : ∀ b ∈ L642, b ≠ D657)) (OwAll.mono (Same.refl _) (keeps_same e708) w697))
        exact ⟨_, (acc689 ++ [x698]), _, (L692 ++ (p704 :: ([] : List Addr))), eG688, (S719.sub (all_cons (.tail _ (.head _)) (all_app (all_app ((fun b hb => (.tail _ (.tail _ (List.mem_append_left _ hb)))) : ∀ b ∈ L692, b ∈ (p704 :: (D657 :: (L692 ++ (D611 :: (L642 ++ [])))))) (all_cons (.head _) all_nil)) (all_cons (.tail _ (.tail _ (List.mem_append_right _ (.head _)))) (all_app ((fun b hb => (.tail _ (.tail _ (List.mem_append_right _ (.tail _ (List.mem_append_left _ hb)))))) : ∀ b ∈ L642, b ∈ (p704 :: (D657 :: (L692 ++ (D611 :: (L642 ++ [])))))) all_nil))))), h720, h718, w721, (OwAll.mono (Same.refl _) (keeps_mut x717 ((all_app nd694 (all_cons (ne_of_none h686 n705).symm all_nil)) : ∀ b ∈ (L692 ++ (p704 :: ([] : List Addr))), b ≠ D657)) (OwAll.snocM w713 (Ow.ints h710) ((fun b hb => (nm_cons ((there_ne (fun b_ hb_ => (S685.ow b_ (((fun b hb => (.tail _ (List.mem_append_left _ hb))) : ∀ b ∈ L692, b ∈ (D657 :: (L692 ++ (D611 :: (L642 ++ []))))) b_ hb_)).2.1) n705) b hb) nm_nil)) : ∀ b ∈ L692, b ∉ (p704 :: ([] : List Addr))))), ((all_app nb693 (all_cons (none_of_same eo695 n705) all_nil)) : ∀ b ∈ (L692 ++ (p704 :: ([] : List Addr))), H634 b = none), ((all_app nd694 (all_cons (ne_of_none h686 n705).symm all_nil)) : ∀ b ∈ (L692 ++ (p704 :: ([] : List Addr))), b ≠ D657), (same_mut (Same.trans eo695 e708) x717 n658), hw⟩
      intro H722 hw
      obtain ⟨G725, acc727, vs728, L730, eG726, S723, h734, h724, w735, d729, nb731, nd732, eo733, hw⟩ := hw
      have hw := hK656 _ (cW_mapA0 (by rw [d651.len, List.length_map]) hw)
      have fr736 := S635.free n658
      refine ⟨_, h734, (app_len (OwAll.rpA w735 (encO_L (encO_L encO_I)) S723.sG) z652), ?_⟩
      generalize g737 : upd H722 D611 _ = H738
      obtain ⟨x739, h740⟩ := gen_mut g737
      have S741 := S723.mut1 x739 (.tail _ (List.mem_append_right _ (.head _))) h740
      have hw := cW_ok hw
      exact ⟨_, (acc639 ++ [acc727]), _, (L642 ++ (D657 :: L730)), (Same.trans eG638 eG726), (S741.sub (all_cons (.tail _ (List.mem_append_right _ (.head _))) (all_app (all_app ((fun b hb => (.tail _ (List.mem_append_right _ (.tail _ (List.mem_append_left _ hb))))) : ∀ b ∈ L642, b ∈ (D657 :: (L730 ++ (D611 :: (L642 ++ []))))) (all_cons (.head _) ((fun b hb => (.tail _ (List.mem_append_left _ hb))) : ∀ b ∈ L730, b ∈ (D657 :: (L730 ++ (D611 :: (L642 ++ []))))))) all_nil))), h740, (OwAll.mono (Same.refl _) (keeps_mut x739 ((all_app nd644 (all_cons (ne_of_none h636 n658).symm (new_ne2 nb731 (S635.ow _ (.head _)).2.1))) : ∀ b ∈ (L642 ++ (D657 :: L730)), b ≠ D611)) (OwAll.snocM w735 (Ow.list h724 d729 (nd732 : ∀ b ∈ L730, b ≠ D657)) ((fun b hb => (nm_cons ((there_ne (fun b_ hb_ => (S635.ow b_ (((fun b hb => (.tail _ (List.mem_append_left _ hb))) : ∀ b ∈ L642, b ∈ (D611 :: (L642 ++ []))) b_ hb_)).2.1) n658) b hb) ((nl_symm (new_nl nb731 (fun b_ hb_ => (S635.ow b_ (((fun b hb => (.tail _ (List.mem_append_left _ hb))) : ∀ b ∈ L642, b ∈ (D611 :: (L642 ++ []))) b_ hb_)).2.1))) b hb))) : ∀ b ∈ L642, b ∉ (D657 :: L730)))), ((all_app nb643 (all_cons (none_of_same eo645 n658) (fun b hb => none_of_same eo645 (nb731 b hb)))) : ∀ b ∈ (L642 ++ (D657 :: L730)), H b = none), ((all_app nd644 (all_cons (ne_of_none h636 n658).symm (new_ne2 nb731 (S635.ow _ (.head _)).2.1))) : ∀ b ∈ (L642 ++ (D657 :: L730)), b ≠ D611), (same_mut (Same.trans eo645 eo733) x739 n612), hw⟩
    intro H742 hw
    obtain ⟨G745, acc747, vs748, L750, eG746, S743, h744, d749, nb751, nd752, eo753, hw⟩ := hw
    have hw := hK610 _ (cW_mapA0 (by rw [d607.len, List.length_map]) hw)
    have fr754 := S0.free n612
    have hw := cW_ok hw
    exact hK0 _ hw _ _ _ _ _ fr754 ((fun b hb => S0.free (nb751 b hb)) : ∀ b ∈ L750, H b = none) (nd752 : ∀ b ∈ L750, b ≠ D611) S743.b0 S743.g0 S743.sG S743.gn (S743.ow _ (.head _)).1 ((fun b hb => (S743.ow b (((fun b hb => (.tail _ (List.mem_append_left _ hb))) : ∀ b ∈ L750, b ∈ (D611 :: (L750 ++ []))) b hb)).1) : ∀ b ∈ L750, G745 b = none) h744 d749

abbrev N_block_side : List Str := ["fmt", "plane"]
theorem sc_block_side : FnScope N_block_side ["fmt", "plane"] (defScope s_block_side) := ⟨rfl, rfl, rfl, by decide +kernel, rfl, by decide +kernel, by decide +kernel⟩
theorem ok_block_side (D : DefX K mg "block_side" s_block_side ["fmt", "plane"] pats_block_side) (T : Txt w K mg AD)  : CalX P w K mg base 1 "block_side" (sp_block_side K AD) pats_block_side := by
  refine D.ok sc_block_side (fun vs H Q E h => ?_) (fun f cdv A_ outer s H vs Q E hr h => ?_)
  · obtain ⟨G, p_fmt, dx_fmt, fmt', plane', rfl, _⟩ := h
    rfl
  · obtain ⟨G, p_fmt, dx_fmt, fmt', plane', rfl, sG, h_p_fmt, hw⟩ := h
    refine ⟨_, (pss_one (ps_ret (pe_ifExp (PW.pt (pw_and (pt_cmp (pc_gt (pv 1) pe_int)) (pw_and1 (pt_cmp (pc_eqI (fldK (K := K) (pv 0)) pe_int))))) (pe_op op_fdivW (C8.pe_gc rfl T.g_BLOCK) pe_int) (C8.pe_gc rfl T.g_BLOCK)))), ?_⟩
    obtain ⟨KK, EE, hK0, hE, hw⟩ := cW_gen hw
    have S0 := Sep.startG sG
    unfold F_block_side at hw
    refine ⟨_, rfl, _, _, rfl, rfl, _, rfl, ?_⟩
    refine iteD (fun c755 => ?_) (fun c755 => ?_)
    · have hw := cW_pos c755 hw
      refine ⟨_, rfl, _, _, _, _, _, rfl, (S0.bM _ _ h_p_fmt), T.cl_Format, T.n_Format_chroma, rfl, _, _, rfl, rfl, _, rfl, ?_⟩
      refine iteD (fun c756 => ?_) (fun c756 => ?_)
      · have hw := cW_pos c756 hw
        refine ⟨_, _, rfl, rfl, (divW_lit (by decide) (by decide)), ?_⟩
        have hw := cW_ok hw
        exact hK0 _ hw _ S0.b0
      · have hw := cW_neg c756 hw
        have hw := cW_ok hw
        exact hK0 _ hw _ S0.b0
    · have hw := cW_neg c755 hw
      refine iteF ?_
      have hw := cW_ok hw
      exact hK0 _ hw _ S0.b0

abbrev N_Settings_slices : List Str := ["self", "_", "rows"]
theorem sc_Settings_slices : FnScope N_Settings_slices ["self"] (defScope s_Settings_slices) := ⟨rfl, rfl, rfl, by decide +kernel, rfl, by decide +kernel, by decide +kernel⟩
theorem ok_Settings_slices (D : MethX K AD.c_Settings "Settings.slices" "slices" s_Settings_slices ["self"] pats_Settings_slices) (T : Txt w K mg AD) (c_Format_blocks : MetX P w K mg base 1 AD.c_Format "blocks" (sp_Format_blocks K AD) pats_Format_blocks) : MetX P w K mg base 2 AD.c_Settings "slices" (sp_Settings_slices K AD) pats_Settings_slices := by
  refine D.ok T.cl_Settings sc_Settings_slices (fun vs H Q E h => ?_) (fun f cdv A_ outer s H vs Q E hr h => ?_)
  · obtain ⟨G, p_self, p_self_fmt, dx_self, dx_self_fmt, self', rfl, _⟩ := h
    rfl
  · obtain ⟨G, p_self, p_self_fmt, dx_self, dx_self_fmt, self', rfl, sG, h_p_self, h_p_self_fmt, hw⟩ := h
    refine ⟨_, (pss_cons (ps_asg (vx_methX0 c_Format_blocks pat_Format_blocks_0 (.head _) hr (by decide) (takes_of rfl rfl rfl rfl) (fldK (K := K) (pv 0))) (pg_tupK (K := K) (n := 2) (pgs_cons (pg_name (i := 1) sc_Settings_slices.nd rfl (Or.inl rfl)) (pgs_cons (pg_name (i := 2) sc_Settings_slices.nd rfl (Or.inl rfl)) pgs_nil))))
      (pss_one (ps_ret (pe_op op_fdivW (pe_op op_sub (pe_op op_add (pv 2) (fldK (K := K) (pv 0))) pe_int) (fldK (K := K) (pv 0)))))), ?_⟩
    obtain ⟨KK, EE, hK0, hE, hw⟩ := cW_gen hw
    have S0 := Sep.startG sG
    unfold F_Settings_slices at hw
    refine ⟨_, rfl, _, _, _, _, _, rfl, (S0.bM _ _ h_p_self), T.cl_Settings, T.n_Settings_fmt, rfl, _, _, _, rfl, (S0.bM _ _ h_p_self_fmt), rfl, rfl, rfl, G, _, _, self'.fmt, rfl, S0.sG, (hide_nil (S0.bM _ _ h_p_self_fmt)), cW_call hw (fun v757 hw v760 H758 G761 e759 eG762 sG763 hn764 r765 => ?_) (fun e he H2 e2 => hE e he H2 (Same.trans S0.b0 e2))⟩
    have S766 := S0.step e759 eG762 sG763 hn764
    obtain ⟨a767, v769, v770, rfl, h768, r771, r772⟩ := rp_tup2 r765
    obtain rfl := rp_int r771
    obtain rfl := rp_int r772
    obtain ⟨g773, hw⟩ := cW_grd hw
    refine ⟨_, _, rfl, (SqT.of (S766.sG _ _ h768)), rfl, _, _, rfl, _, _, rfl, rfl, _, rfl, _, rfl, _, _, _, _, _, rfl, (S766.bM _ _ h_p_self), T.cl_Settings, T.n_Settings_rows, rfl, _, _, rfl, rfl, _, _, rfl, rfl, _, rfl, _, _, _, _, _, rfl, (S766.bM _ _ h_p_self), T.cl_Settings, T.n_Settings_rows, rfl, _, _, rfl, rfl, (divW_small g773.1 g773.2), ?_⟩
    have hw := cW_ok hw
    exact hK0 _ hw _ S766.b0

abbrev N_Settings_slice_rows : List Str := ["self", "index", "_", "rows", "first"]
theorem sc_Settings_slice_rows : FnScope N_Settings_slice_rows ["self", "index"] (defScope s_Settings_slice_rows) := ⟨rfl, rfl, rfl, by decide +kernel, rfl, by decide +kernel, by decide +kernel⟩
theorem ok_Settings_slice_rows (D : MethX K AD.c_Settings "Settings.slice_rows" "slice_rows" s_Settings_slice_rows ["self", "index"] pats_Settings_slice_rows) (T : Txt w K mg AD) (c_Settings_slices : MetX P w K mg base 2 AD.c_Settings "slices" (sp_Settings_slices K AD) pats_Settings_slices) (c_Format_blocks : MetX P w K mg base 1 AD.c_Format "blocks" (sp_Format_blocks K AD) pats_Format_blocks) : MetX P w K mg base 3 AD.c_Settings "slice_rows" (sp_Settings_slice_rows K AD) pats_Settings_slice_rows := by
  refine D.ok T.cl_Settings sc_Settings_slice_rows (fun vs H Q E h => ?_) (fun f cdv A_ outer s H vs Q E hr h => ?_)
  · obtain ⟨G, p_self, p_self_fmt, dx_self, dx_self_fmt, self', index', rfl, _⟩ := h
    rfl
  · obtain ⟨G, p_self, p_self_fmt, dx_self, dx_self_fmt, self', index', rfl, sG, h_p_self, h_p_self_fmt, hw⟩ := h
    refine ⟨_, (pss_cons (ps_if (pt_not (pt_chain op_le op_lt pe_int (pv 1) (vx_methX0 c_Settings_slices pat_Settings_slices_0 (.head _) hr (by decide) (takes_of rfl rfl rfl rfl) (pv 0)))) (pss_one (ps_raise rfl (takes_of rfl rfl rfl rfl) (pmk_own PySem.F.excBase_ValueError T.xx_OutOfRange T.xg_OutOfRange T.xk_OutOfRange (raises_own T.xb_OutOfRange T.xt_OutOfRange) rfl))) pss_nil)
      (pss_cons (ps_asg (vx_methX0 c_Format_blocks pat_Format_blocks_0 (.head _) hr (by decide) (takes_of rfl rfl rfl rfl) (fldK (K := K) (pv 0))) (pg_tupK (K := K) (n := 2) (pgs_cons (pg_name (i := 2) sc_Settings_slice_rows.nd rfl (Or.inl rfl)) (pgs_cons (pg_name (i := 3) sc_Settings_slice_rows.nd rfl (Or.inl rfl)) pgs_nil))))
      (pss_cons (ps_set (i := 4) sc_Settings_slice_rows.nd rfl (Or.inl rfl) (pe_op op_mul (pv 1) (fldK (K := K) (pv 0))))
      (pss_one (ps_ret (pe_tup (pa_cons (pv 4) (pa_cons (pe_callB (call_min2 rfl) (by rfl) T.b_min (by decide +kernel) (pa_cons (fldK (K := K) (pv 0)) (pa_cons (pe_op op_sub (pv 3) (pv 4)) pa_nil))) pa_nil)))))))), ?_⟩
    obtain ⟨KK, EE, hK0, hE, hw⟩ := cW_gen hw
    have S0 := Sep.startG sG
    unfold F_Settings_slice_rows at hw
    refine ⟨_, rfl, _, _, rfl, rfl, _, rfl, ?_⟩
    refine iteD (fun c774 => ?_) (fun c774 => ?_)
    · have hw := cW_pos c774 hw
      refine ⟨_, rfl, _, _, _, rfl, (S0.bM _ _ h_p_self), rfl, rfl, rfl, G, _, _, _, _, self', rfl, S0.sG, (hide_nil (S0.bM _ _ h_p_self)), (hide_nil (S0.bM _ _ h_p_self_fmt)), cW_call hw (fun v775 hw H776 e777 => ?_) (fun e he H2 e2 => hE e he H2 (Same.trans S0.b0 e2))⟩
      have S778 := S0.same e777
      refine ⟨_, _, rfl, rfl, _, rfl, ?_⟩
      refine iteN (fun c779 => ?_) (fun c779 => ?_)
      · have hw := cW_neg c779 hw
        exact hE 2 (cW_er hw) _ S778.b0
      · have hw := cW_pos c779 hw
        refine ⟨_, rfl, _, _, _, _, _, rfl, (S778.bM _ _ h_p_self), T.cl_Settings, T.n_Settings_fmt, rfl, _, _, _, rfl, (S778.bM _ _ h_p_self_fmt), rfl, rfl, rfl, G, _, _, self'.fmt, rfl, S778.sG, (hide_nil (S778.bM _ _ h_p_self_fmt)), cW_call hw (fun v780 hw v783 H781 G784 e782 eG785 sG786 hn787 r788 => ?_) (fun e he H2 e2 => hE e he H2 (Same.trans S778.b0 e2))⟩
        have S789 := S778.step e782 eG785 sG786 hn787
        obtain ⟨a790, v792, v793, rfl, h791, r794, r795⟩ := rp_tup2 r788
        obtain rfl := rp_int r794
        obtain rfl := rp_int r795
        obtain ⟨g796, hw⟩ := cW_grd hw
        refine ⟨_, _, rfl, (SqT.of (S789.sG _ _ h791)), rfl, _, _, rfl, _, _, rfl, rfl, _, rfl, _, rfl, _, _, _, _, _, rfl, (S789.bM _ _ h_p_self), T.cl_Settings, T.n_Settings_rows, rfl, _, _, rfl, rfl, g796, ?_⟩
        have hw := cW_bnd hw
        refine ⟨_, rfl, _, rfl, _, _, _, _, _, rfl, (S789.bM _ _ h_p_self), T.cl_Settings, T.n_Settings_rows, rfl, _, rfl, _, rfl, _, _, rfl, rfl, _, _, rfl, (by show 2 ≤ sizeLine; decide), fun p798 n799 => ?_⟩
        generalize g800 : upd H781 p798 _ = H801
        obtain ⟨e802, h803⟩ := gen_new n799 g800
        have h804 : H801 p798 = some (.tup [V.int ((index' * self'.rows)), V.int ((if (v780.2 - (index' * self'.rows)) < self'.rows then (v780.2 - (index' * self'.rows)) else self'.rows))]) := h803
        have fr805 := S789.free n799
        obtain ⟨G807, eG808, hg809, S806⟩ := S789.grow n799 e802 h804 fr805
        have hw := cW_ok hw
        exact hK0 _ hw _ _ _ S806.b0 S806.g0 S806.sG S806.gn (rp_mk2 hg809 (.int _) (.int _))
    · have hw := cW_neg c774 hw
      refine ⟨_, rfl, ?_⟩
      refine iteT ?_
      exact hE 2 (cW_er hw) _ S0.b0

abbrev N_slice_span : List Str := ["settings", "index", "plane", "first", "count", "side"]
theorem sc_slice_span : FnScope N_slice_span ["settings", "index", "plane"] (defScope s_slice_span) := ⟨rfl, rfl, rfl, by decide +kernel, rfl, by decide +kernel, by decide +kernel⟩
theorem ok_slice_span (D : DefX K mg "slice_span" s_slice_span ["settings", "index", "plane"] pats_slice_span) (T : Txt w K mg AD) (c_Settings_slice_rows : MetX P w K mg base 3 AD.c_Settings "slice_rows" (sp_Settings_slice_rows K AD) pats_Settings_slice_rows) (c_block_side : CalX P w K mg base 1 "block_side" (sp_block_side K AD) pats_block_side) : CalX P w K mg base 4 "slice_span" (sp_slice_span K AD) pats_slice_span := by
  refine D.ok sc_slice_span (fun vs H Q E h => ?_) (fun f cdv A_ outer s H vs Q E hr h => ?_)
  · obtain ⟨G, p_settings, p_settings_fmt, dx_settings, dx_settings_fmt, settings', index', plane', rfl, _⟩ := h
    rfl
  · obtain ⟨G, p_settings, p_settings_fmt, dx_settings, dx_settings_fmt, settings', index', plane', rfl, sG, h_p_settings, h_p_settings_fmt, hw⟩ := h
    refine ⟨_, (pss_cons (ps_asg (vx_methX c_Settings_slice_rows pat_Settings_slice_rows_0 (.head _) hr (by decide) (takes_of rfl rfl rfl rfl) (pv 0) (pa_cons (pv 1) pa_nil) pk_nil) (pg_tupK (K := K) (n := 2) (pgs_cons (pg_name (i := 3) sc_slice_span.nd rfl (Or.inl rfl)) (pgs_cons (pg_name (i := 4) sc_slice_span.nd rfl (Or.inl rfl)) pgs_nil))))
      (pss_cons (ps_set (i := 5) sc_slice_span.nd rfl (Or.inl rfl) (vx_callX c_block_side pat_block_side_0 (.head _) hr (by decide) (takes_of rfl rfl rfl rfl) rfl (pa_cons (fldK (K := K) (pv 0)) (pa_cons (pv 2) pa_nil)) pk_nil))
      (pss_one (ps_ret (pe_tup (pa_cons (pe_op op_mul (pv 3) (pv 5)) (pa_cons (pe_op op_mul (pe_op op_add (pv 3) (pv 4)) (pv 5)) pa_nil))))))), ?_⟩
    obtain ⟨KK, EE, hK0, hE, hw⟩ := cW_gen hw
    have S0 := Sep.startG sG
    unfold F_slice_span at hw
    refine ⟨_, rfl, _, _, _, rfl, (S0.bM _ _ h_p_settings), rfl, _, rfl, rfl, rfl, G, _, _, _, _, settings', _, rfl, S0.sG, (hide_nil (S0.bM _ _ h_p_settings)), (hide_nil (S0.bM _ _ h_p_settings_fmt)), cW_call hw (fun v810 hw v813 H811 G814 e812 eG815 sG816 hn817 r818 => ?_) (fun e he H2 e2 => hE e he H2 (Same.trans S0.b0 e2))⟩
    have S819 := S0.step e812 eG815 sG816 hn817
    obtain ⟨a820, v822, v823, rfl, h821, r824, r825⟩ := rp_tup2 r818
    obtain rfl := rp_int r824
    obtain rfl := rp_int r825
    refine ⟨_, _, rfl, (SqT.of (S819.sG _ _ h821)), rfl, _, _, rfl, _, _, rfl, rfl, _, rfl, _, _, _, _, _, rfl, (S819.bM _ _ h_p_settings), T.cl_Settings, T.n_Settings_fmt, rfl, _, rfl, rfl, rfl, G814, _, _, settings'.fmt, _, rfl, S819.sG, (hide_nil (S819.bM _ _ h_p_settings_fmt)), cW_call hw (fun v826 hw H827 e828 => ?_) (fun e he H2 e2 => hE e he H2 (Same.trans S819.b0 e2))⟩
    have S829 := S819.same e828
    obtain ⟨g830, hw⟩ := cW_grd hw
    obtain ⟨g831, hw⟩ := cW_grd hw
    refine ⟨_, rfl, _, rfl, _, _, rfl, rfl, g830, _, rfl, _, rfl, _, _, rfl, rfl, _, rfl, _, _, rfl, rfl, g831, (by show 2 ≤ sizeLine; decide), fun p832 n833 => ?_⟩
    generalize g834 : upd H827 p832 _ = H835
    obtain ⟨e836, h837⟩ := gen_new n833 g834
    have h838 : H835 p832 = some (.tup [V.int ((v810.1 * v826)), V.int (((v810.1 + v810.2) * v826))]) := h837
    have fr839 := S829.free n833
    obtain ⟨G841, eG842, hg843, S840⟩ := S829.grow n833 e836 h838 fr839
    have hw := cW_ok hw
    exact hK0 _ hw _ _ _ S840.b0 S840.g0 S840.sG S840.gn (rp_mk2 hg843 (.int _) (.int _))

abbrev N_clip : List Str := ["value", "low", "high"]
theorem sc_clip : FnScope N_clip ["value", "low", "high"] (defScope s_clip) := ⟨rfl, rfl, rfl, by decide +kernel, rfl, by decide +kernel, by decide +kernel⟩
theorem ok_clip (D : DefX K mg "clip" s_clip ["value", "low", "high"] pats_clip) (T : Txt w K mg AD)  : CalX P w K mg base 1 "clip" (sp_clip K AD) pats_clip := by
  refine D.ok sc_clip (fun vs H Q E h => ?_) (fun f cdv A_ outer s H vs Q E hr h => ?_)
  · obtain ⟨G, value', low', high', rfl, _⟩ := h
    rfl
  · obtain ⟨G, value', low', high', rfl, sG, hw⟩ := h
    refine ⟨_, (pss_one (ps_ret (pe_callB (call_min2 rfl) (by rfl) T.b_min (by decide +kernel) (pa_cons (pe_callB (call_max2 rfl) (by rfl) T.b_max (by decide +kernel) (pa_cons (pv 0) (pa_cons (pv 1) pa_nil))) (pa_cons (pv 2) pa_nil))))), ?_⟩
    obtain ⟨KK, EE, hK0, hE, hw⟩ := cW_gen hw
    have S0 := Sep.startG sG
    unfold F_clip at hw
    refine ⟨_, rfl, _, rfl, _, _, rfl, _, rfl, _, _, rfl, ?_⟩
    have hw := cW_ok hw
    exact hK0 _ hw

abbrev N__sign : List Str := ["number"]
theorem sc__sign : FnScope N__sign ["number"] (defScope s__sign) := ⟨rfl, rfl, rfl, by decide +kernel, rfl, by decide +kernel, by decide +kernel⟩
theorem ok__sign (D : DefX K mg "_sign" s__sign ["number"] pats__sign) (T : Txt w K mg AD)  : CalX P w K mg base 1 "_sign" (sp__sign K AD) pats__sign := by
  refine D.ok sc__sign (fun vs H Q E h => ?_) (fun f cdv A_ outer s H vs Q E hr h => ?_)
  · obtain ⟨G, number', rfl, _⟩ := h
    rfl
  · obtain ⟨G, number', rfl, sG, hw⟩ := h
    refine ⟨_, (pss_cons (ps_if (pt_cmp (pc_eqI (pv 0) pe_int)) (pss_one (ps_ret pe_int)) pss_nil)
      (pss_one (ps_ret (pe_ifExp (pt_cmp (pc_gt (pv 0) pe_int)) pe_int (pe_un un_neg pe_int))))), ?_⟩
    obtain ⟨KK, EE, hK0, hE, hw⟩ := cW_gen hw
    have S0 := Sep.startG sG
    unfold F__sign at hw
    refine ⟨_, rfl, _, _, rfl, rfl, _, rfl, ?_⟩
    refine iteD (fun c844 => ?_) (fun c844 => ?_)
    · have hw := cW_pos c844 hw
      have hw := cW_ok hw
      exact hK0 _ hw
    · have hw := cW_neg c844 hw
      refine vv_if (vt_cmp (vv_cmp (val_var rfl) val_c (fun Q q => ⟨_, _, rfl, rfl, q⟩))) val_c (vv_un val_c (fun Q q => ⟨_, rfl, q⟩)) _ ?_
      have hw := cW_ok hw
      exact hK0 _ hw

abbrev N_Format_top : List Str := ["self"]
theorem sc_Format_top : FnScope N_Format_top ["self"] (defScope s_Format_top) := ⟨rfl, rfl, rfl, by decide +kernel, rfl, by decide +kernel, by decide +kernel⟩
theorem ok_Format_top (D : PropX K AD.c_Format "Format.top" "top" s_Format_top ["self"] pats_Format_top) (T : Txt w K mg AD)  : PropY P w K mg base 1 AD.c_Format "top" (sp_Format_top K AD) pats_Format_top := by
  refine D.ok T.cl_Format sc_Format_top (fun vs H Q E h => ?_) (fun f cdv A_ outer s H vs Q E hr h => ?_)
  · obtain ⟨G, p_self, dx_self, self', rfl, _⟩ := h
    rfl
  · obtain ⟨G, p_self, dx_self, self', rfl, sG, h_p_self, hw⟩ := h
    refine ⟨_, (pss_one (ps_ret (pe_op op_sub (pe_op op_shlW pe_int (fldK (K := K) (pv 0))) pe_int))), ?_⟩
    obtain ⟨KK, EE, hK0, hE, hw⟩ := cW_gen hw
    have S0 := Sep.startG sG
    unfold F_Format_top at hw
    obtain ⟨g848, hw⟩ := cW_grd hw
    refine ⟨_, rfl, _, _, _, _, _, rfl, (S0.bM _ _ h_p_self), T.cl_Format, T.n_Format_depth, rfl, _, _, rfl, rfl, (shl_side g848.1 g848.2.1 g848.2.2.1 g848.2.2.2), _, _, rfl, rfl, ?_⟩
    have hw := cW_ok hw
    exact hK0 _ hw _ S0.b0

abbrev N__filtered_row : List Str := ["fmt", "plane", "y", "item", "direction", "values", "right", "down", "row", "one", "other", "scale", "changes", "x", "turn"]
theorem sc__filtered_row : FnScope N__filtered_row ["fmt", "plane", "y", "item"] (defScope s__filtered_row) := ⟨rfl, rfl, rfl, by decide +kernel, rfl, by decide +kernel, by decide +kernel⟩
theorem ok__filtered_row (D : DefX K mg "_filtered_row" s__filtered_row ["fmt", "plane", "y", "item"] pats__filtered_row) (T : Txt w K mg AD) (c__sign : CalX P w K mg base 1 "_sign" (sp__sign K AD) pats__sign) (c_clip : CalX P w K mg base 1 "clip" (sp_clip K AD) pats_clip) (c_Format_top : PropY P w K mg base 1 AD.c_Format "top" (sp_Format_top K AD) pats_Format_top) : CalX P w K mg base 3 "_filtered_row" (sp__filtered_row K AD) pats__filtered_row := by
  refine D.ok sc__filtered_row (fun vs H Q E h => ?_) (fun f cdv A_ outer s H vs Q E hr h => ?_)
  · obtain ⟨G, p_fmt, dx_fmt, fmt', v_plane, plane', y', v_item, item', rfl, _⟩ := h
    rfl
  · obtain ⟨G, p_fmt, dx_fmt, fmt', v_plane, plane', y', v_item, item', rfl, sG, h_p_fmt, r_plane, r_item, hw⟩ := h
    refine ⟨_, (pss_cons (ps_asg (pv 3) (pg_tupK (K := K) (n := 2) (pgs_cons (pg_name (i := 4) sc__filtered_row.nd rfl (Or.inl rfl)) (pgs_cons (pg_name (i := 5) sc__filtered_row.nd rfl (Or.inl rfl)) pgs_nil))))
      (pss_cons (ps_asg (pe_ix (ix_tupK (K := K)) (C8.pe_gc (v := V.ref AD.t_STEPS) rfl T.g_STEPS) (pv 4) (fun _ _ => rfl)) (pg_tupK (K := K) (n := 2) (pgs_cons (pg_name (i := 6) sc__filtered_row.nd rfl (Or.inl rfl)) (pgs_cons (pg_name (i := 7) sc__filtered_row.nd rfl (Or.inl rfl)) pgs_nil))))
      (pss_cons (ps_set (i := 8) sc__filtered_row.nd rfl (Or.inl rfl) (pe_callTy (call_listLK (K := K)) (by rfl) T.b_list (by decide +kernel) (pa_cons (pe_ix (ix_listK (K := K)) (pv 1) (pv 2) (fun _ _ => rfl)) pa_nil)))
      (pss_cons (ps_if (pt_not (pt_chain op_le op_lt (pe_callB call_abs (by rfl) T.b_abs (by decide +kernel) (pa_cons (pv 7) pa_nil)) (pv 2) (pe_op op_sub (pe_callB (call_lenLK (K := K)) (by rfl) T.b_len (by decide +kernel) (pa_cons (pv 1) pa_nil)) (pe_callB call_abs (by rfl) T.b_abs (by decide +kernel) (pa_cons (pv 7) pa_nil))))) (pss_one (ps_ret (pv 8))) pss_nil)
      (pss_cons (ps_set (i := 9) sc__filtered_row.nd rfl (Or.inl rfl) (pe_ix (ix_listK (K := K)) (pv 1) (pe_op op_add (pv 2) (pv 7)) (fun _ _ => rfl)))
      (pss_cons (ps_set (i := 10) sc__filtered_row.nd rfl (Or.inl rfl) (pe_ix (ix_listK (K := K)) (pv 1) (pe_op op_sub (pv 2) (pv 7)) (fun _ _ => rfl)))
      (pss_cons (ps_set (i := 11) sc__filtered_row.nd rfl (Or.inl rfl) (pe_op op_shlW pe_int (pe_op op_sub (fldK (K := K) (pv 0)) (C8.pe_gc rfl T.g_LEAST_DEPTH))))
      (pss_cons (ps_set (i := 12) sc__filtered_row.nd rfl (Or.inl rfl) (pe_lst (pa_cons (pe_ix (ix_listK (K := K)) (pv 5) pe_int (fun _ _ => rfl)) (pa_cons (pe_ix (ix_listK (K := K)) (pv 5) pe_int (fun _ _ => rfl)) (pa_cons pe_int (pa_cons (pe_ix (ix_listK (K := K)) (pv 5) pe_int (fun _ _ => rfl)) (pa_cons (pe_ix (ix_listK (K := K)) (pv 5) pe_int (fun _ _ => rfl)) pa_nil)))))))
      (pss_cons (ps_for (passes_of rfl) rfl (pi_range2 rfl T.b_range (pa_cons (pe_callB call_abs (by rfl) T.b_abs (by decide +kernel) (pa_cons (pv 6) pa_nil)) (pa_cons (pe_op op_sub (pe_callB (call_lenLiK (K := K)) (by rfl) T.b_len (by decide +kernel) (pa_cons (pv 8) pa_nil)) (pe_callB call_abs (by rfl) T.b_abs (by decide +kernel) (pa_cons (pv 6) pa_nil))) pa_nil))) (pg_name (i := 13) sc__filtered_row.nd rfl (Or.inl rfl)) (pss_cons (ps_set (i := 14) sc__filtered_row.nd rfl (Or.inl rfl) (pe_op op_add (vx_callX c__sign pat__sign_0 (.head _) hr (by decide) (takes_of rfl rfl rfl rfl) rfl (pa_cons (pe_op op_sub (pe_ix (ix_listK (K := K)) (pv 8) (pv 13) (fun _ _ => rfl)) (pe_ix (ix_listK (K := K)) (pv 9) (pe_op op_add (pv 13) (pv 6)) (fun _ _ => rfl))) pa_nil) pk_nil) (vx_callX c__sign pat__sign_0 (.head _) hr (by decide) (takes_of rfl rfl rfl rfl) rfl (pa_cons (pe_op op_sub (pe_ix (ix_listK (K := K)) (pv 8) (pv 13) (fun _ _ => rfl)) (pe_ix (ix_listK (K := K)) (pv 10) (pe_op op_sub (pv 13) (pv 6)) (fun _ _ => rfl))) pa_nil) pk_nil)))
      (pss_one (ps_asg (vx_callX c_clip pat_clip_0 (.head _) hr (by decide) (takes_of rfl rfl rfl rfl) rfl (pa_cons (pe_op op_add (pe_ix (ix_listK (K := K)) (pv 8) (pv 13) (fun _ _ => rfl)) (pe_op op_mul (pe_ix (ix_listK (K := K)) (pv 12) (pe_op op_add (pv 14) pe_int) (fun _ _ => rfl)) (pv 11))) (pa_cons pe_int (pa_cons (vx_propX c_Format_top hr (by decide) (pv 0)) pa_nil))) pk_nil) (pg_sub (pv 8) (pv 13) set_list)))))
      (pss_one (ps_ret (pv 8)))))))))))), ?_⟩
    obtain ⟨KK, EE, hK0, hE, hw⟩ := cW_gen hw
    have S0 := Sep.startG sG
    unfold F__filtered_row at hw
    obtain ⟨a849, vs850, rfl, h851, d852⟩ := rp_list r_plane
    obtain ⟨a853, v855, v856, rfl, h854, r857, r858⟩ := rp_tup2 r_item
    obtain rfl := rp_int r857
    obtain ⟨a859, rfl, h860⟩ := rp_ints r858
    obtain ⟨g861, hw⟩ := cW_grd hw
    obtain ⟨g862, hw⟩ := cW_grd hw
    refine ⟨_, rfl, _, _, rfl, (SqT.of (S0.bM _ _ h854)), rfl, _, _, rfl, _, _, rfl, rfl, _, rfl, _, _, _, _, rfl, rfl, (T.ts_STEPS _), (atI_map (xs := ([AD.t_STEPS_0, AD.t_STEPS_1, AD.t_STEPS_2, AD.t_STEPS_3] : List Addr)) (by show -(4 : Int) ≤ _ ∧ _ < (4 : Int); exact ⟨by have := g861.1; omega, g861.2⟩)), _, [V.int ((itD ((itD ([[-1, 0], [0, -1], [-1, -1], [-1, 1]] : List (List Int)) (item'.1))) 0)), V.int ((itD ((itD ([[-1, 0], [0, -1], [-1, -1], [-1, 1]] : List (List Int)) (item'.1))) 1))], rfl, (SqT.cast ((T.tt_STEPS _ g861.1 g861.2) _) (unp2 g862)), rfl, _, _, rfl, _, _, rfl, rfl, ?_⟩
    have hw := cW_bnd hw
    have hw := cW_bnd hw
    obtain ⟨g865, hw⟩ := cW_grd hw
    obtain ⟨v866, a867, r868⟩ := RpAll.ixD (k := y') d852 g865
    obtain ⟨a869, rfl, h870⟩ := rp_ints r868
    refine ⟨_, rfl, _, rfl, _, _, _, _, rfl, rfl, (SqL.of (S0.bM _ _ h851)), a867, _, _, rfl, (SqL.of (S0.bM _ _ h870)), fun p871 n872 => ?_⟩
    generalize g873 : upd H p871 _ = H874
    obtain ⟨e875, h876⟩ := gen_new n872 g873
    have h877 : H874 p871 = some (.lst (((itD (plane') (y')) : (List Int)).map V.int)) := h876
    have fr878 := S0.free n872
    have S879 := S0.new n872 e875 h877 fr878
    refine ⟨_, rfl, _, rfl, _, rfl, _, _, rfl, rfl, _, rfl, ?_⟩
    refine iteD (fun c880 => ?_) (fun c880 => ?_)
    · have hw := cW_pos c880 hw
      refine ⟨_, rfl, _, _, _, rfl, (SqL.of (S879.bM _ _ h851)), (by rw [d852.len, List.length_map]), _, rfl, _, rfl, _, _, rfl, rfl, _, _, rfl, rfl, _, rfl, ?_⟩
      refine iteN (fun c881 => ?_) (fun c881 => ?_)
      · have hw := cW_neg c881 hw
        refine ⟨_, rfl, ?_⟩
        have hw := cW_ok hw
        exact hK0 _ hw _ _ fr878 S879.b0 h877
      · have hw := cW_pos c881 hw
        obtain ⟨g882, hw⟩ := cW_grd hw
        obtain ⟨v883, a884, r885⟩ := RpAll.ixD (k := (y' + (itD ((itD ([[-1, 0], [0, -1], [-1, -1], [-1, 1]] : List (List Int)) (item'.1))) 1))) d852 g882
        obtain ⟨a886, rfl, h887⟩ := rp_ints r885
        obtain ⟨g888, hw⟩ := cW_grd hw
        obtain ⟨v889, a890, r891⟩ := RpAll.ixD (k := (y' - (itD ((itD ([[-1, 0], [0, -1], [-1, -1], [-1, 1]] : List (List Int)) (item'.1))) 1))) d852 g888
        obtain ⟨a892, rfl, h893⟩ := rp_ints r891
        obtain ⟨g894, hw⟩ := cW_grd hw
        refine ⟨_, rfl, _, rfl, _, rfl, _, _, rfl, rfl, _, _, _, _, rfl, rfl, (SqL.of (S879.bM _ _ h851)), a884, _, rfl, _, rfl, _, rfl, _, _, rfl, rfl, _, _, _, _, rfl, rfl, (SqL.of (S879.bM _ _ h851)), a890, _, rfl, _, _, _, _, _, rfl, (S879.bM _ _ h_p_fmt), T.cl_Format, T.n_Format_depth, rfl, _, _, rfl, rfl, _, _, rfl, rfl, (shl_side g894.1 g894.2.1 g894.2.2.1 g894.2.2.2), ?_⟩
        have hw := cW_bnd hw
        obtain ⟨g896, hw⟩ := cW_grd hw
        obtain ⟨g897, hw⟩ := cW_grd hw
        obtain ⟨g898, hw⟩ := cW_grd hw
        obtain ⟨g899, hw⟩ := cW_grd hw
        refine ⟨_, rfl, _, _, _, _, rfl, rfl, (SqL.of (S879.bM _ _ h860)), (atI_map g896), _, rfl, _, _, _, _, rfl, rfl, (SqL.of (S879.bM _ _ h860)), (atI_map g897), _, rfl, _, _, _, _, rfl, rfl, (SqL.of (S879.bM _ _ h860)), (atI_map g898), _, rfl, _, _, _, _, rfl, rfl, (SqL.of (S879.bM _ _ h860)), (atI_map g899), (by show 5 ≤ sizeLine; decide), fun p900 n901 => ?_⟩
        generalize g902 : upd H874 p900 _ = H903
        obtain ⟨e904, h905⟩ := gen_new n901 g902
        have h906 : H903 p900 = some (.lst (([(itD (item'.2) (0)), (itD (item'.2) (1)), 0, (itD (item'.2) (2)), (itD (item'.2) (3))] : (List Int)).map V.int)) := h905
        have fr907 := S879.free n901
        have S908 := S879.new n901 e904 h906 fr907
        have h909 := (e904 _ _ h877)
        obtain ⟨g910, hw⟩ := cW_grd hw
        obtain ⟨K917, hK918, hw⟩ := cW_push hw
        refine ⟨_, rfl, _, rfl, _, rfl, _, _, rfl, (SqL.of h909), _, rfl, _, rfl, _, _, rfl, rfl, _, _, rfl, g910, for_range (lo := (if (itD ((itD ([[-1, 0], [0, -1], [-1, -1], [-1, 1]] : List (List Int)) (item'.1))) 0) < 0 then -(itD ((itD ([[-1, 0], [0, -1], [-1, -1], [-1, 1]] : List (List Int)) (item'.1))) 0) else (itD ((itD ([[-1, 0], [0, -1], [-1, -1], [-1, 1]] : List (List Int)) (item'.1))) 0))) (n := Int.toNat ((((((itD (plane') (y'))) : (List Int)).length : Int) - (if (itD ((itD ([[-1, 0], [0, -1], [-1, -1], [-1, 1]] : List (List Int)) (item'.1))) 0) < 0 then -(itD ((itD ([[-1, 0], [0, -1], [-1, -1], [-1, 1]] : List (List Int)) (item'.1))) 0) else (itD ((itD ([[-1, 0], [0, -1], [-1, -1], [-1, 1]] : List (List Int)) (item'.1))) 0))) - (if (itD ((itD ([[-1, 0], [0, -1], [-1, -1], [-1, 1]] : List (List Int)) (item'.1))) 0) < 0 then -(itD ((itD ([[-1, 0], [0, -1], [-1, -1], [-1, 1]] : List (List Int)) (item'.1))) 0) else (itD ((itD ([[-1, 0], [0, -1], [-1, -1], [-1, 1]] : List (List Int)) (item'.1))) 0)))) (fun i σ H' => ∃ (row_919 : (List Int)) (u920 : Option V) (u921 : Option V) (G' : Hp), σ = [some (V.ref p_fmt), some (V.ref a849), some (V.int (y')), some (V.ref a853), some (V.int (item'.1)), some (V.ref a859), some (V.int ((itD ((itD ([[-1, 0], [0, -1], [-1, -1], [-1, 1]] : List (List Int)) (item'.1))) 0))), some (V.int ((itD ((itD ([[-1, 0], [0, -1], [-1, -1], [-1, 1]] : List (List Int)) (item'.1))) 1))), some (V.ref p871), some (V.ref a886), some (V.ref a892), some (V.int ((1 * 2 ^ Int.toNat ((fmt'.depth - 8))))), some (V.ref p900), u920, u921] ∧ Same G G' ∧ Sep [] H G G' H' [p871, p900] ∧ H' p871 = some (.lst ((row_919 : (List Int)).map V.int)) ∧ H' p900 = some (.lst (([(itD (item'.2) (0)), (itD (item'.2) (1)), 0, (itD (item'.2) (2)), (itD (item'.2) (3))] : (List Int)).map V.int)) ∧ cW (forS (List.drop i (rng ((if (itD ((itD ([[-1, 0], [0, -1], [-1, -1], [-1, 1]] : List (List Int)) (item'.1))) 0) < 0 then -(itD ((itD ([[-1, 0], [0, -1], [-1, -1], [-1, 1]] : List (List Int)) (item'.1))) 0) else (itD ((itD ([[-1, 0], [0, -1], [-1, -1], [-1, 1]] : List (List Int)) (item'.1))) 0))) (Int.toNat ((((((itD (plane') (y'))) : (List Int)).length : Int) - (if (itD ((itD ([[-1, 0], [0, -1], [-1, -1], [-1, 1]] : List (List Int)) (item'.1))) 0) < 0 then -(itD ((itD ([[-1, 0], [0, -1], [-1, -1], [-1, 1]] : List (List Int)) (item'.1))) 0) else (itD ((itD ([[-1, 0], [0, -1], [-1, -1], [-1, 1]] : List (List Int)) (item'.1))) 0))) - (if (itD ((itD ([[-1, 0], [0, -1], [-1, -1], [-1, 1]] : List (List Int)) (item'.1))) 0) < 0 then -(itD ((itD ([[-1, 0], [0, -1], [-1, -1], [-1, 1]] : List (List Int)) (item'.1))) 0) else (itD ((itD ([[-1, 0], [0, -1], [-1, -1], [-1, 1]] : List (List Int)) (item'.1))) 0)))))) row_919 (fun s x => F__filtered_row_b1 (fmt') ((itD ((itD ([[-1, 0], [0, -1], [-1, -1], [-1, 1]] : List (List Int)) (item'.1))) 0)) ((itD (plane') ((y' + (itD ((itD ([[-1, 0], [0, -1], [-1, -1], [-1, 1]] : List (List Int)) (item'.1))) 1))))) ((itD (plane') ((y' - (itD ((itD ([[-1, 0], [0, -1], [-1, -1], [-1, 1]] : List (List Int)) (item'.1))) 1))))) ((1 * 2 ^ Int.toNat ((fmt'.depth - 8)))) ([(itD (item'.2) (0)), (itD (item'.2) (1)), 0, (itD (item'.2) (2)), (itD (item'.2) (3))]) s x)) K917 EE) ?_ ?_ ?_⟩
        · exact ⟨((itD (plane') (y'))), _, _, _, rfl, (Same.refl _), (S908.sub (all_cons (.tail _ (.head _)) (all_cons (.head _) all_nil))), h909, h906, hw⟩
        · intro i σ H922 hi hw
          obtain ⟨row_919, u920, u921, G926, rfl, eG927, S923, h924, h925, hw⟩ := hw
          have hw := cW_forS (rng_get hi) hw
          generalize ((if (itD ((itD ([[-1, 0], [0, -1], [-1, -1], [-1, 1]] : List (List Int)) (item'.1))) 0) < 0 then -(itD ((itD ([[-1, 0], [0, -1], [-1, -1], [-1, 1]] : List (List Int)) (item'.1))) 0) else (itD ((itD ([[-1, 0], [0, -1], [-1, -1], [-1, 1]] : List (List Int)) (item'.1))) 0)) + (i : Int)) = x928 at hw ⊢
          have hw : cW (F__filtered_row_b1 (fmt') ((itD ((itD ([[-1, 0], [0, -1], [-1, -1], [-1, 1]] : List (List Int)) (item'.1))) 0)) ((itD (plane') ((y' + (itD ((itD ([[-1, 0], [0, -1], [-1, -1], [-1, 1]] : List (List Int)) (item'.1))) 1))))) ((itD (plane') ((y' - (itD ((itD ([[-1, 0], [0, -1], [-1, -1], [-1, 1]] : List (List Int)) (item'.1))) 1))))) ((1 * 2 ^ Int.toNat ((fmt'.depth - 8)))) ([(itD (item'.2) (0)), (itD (item'.2) (1)), 0, (itD (item'.2) (2)), (itD (item'.2) (3))]) (row_919) (x928)) _ EE := hw
          unfold F__filtered_row_b1 at hw
          obtain ⟨K930, hK931, hw⟩ := cW_name hw
          obtain ⟨g933, hw⟩ := cW_grd hw
          obtain ⟨g934, hw⟩ := cW_grd hw
          refine ⟨_, rfl, _, rfl, _, _, _, _, rfl, rfl, (SqL.of h924), (atI_map g933), _, rfl, _, rfl, _, rfl, _, _, rfl, rfl, _, _, _, _, rfl, rfl, (SqL.of (S923.bM _ _ h887)), (atI_map g934), _, _, rfl, rfl, rfl, rfl, G926, _, rfl, S923.sG, cW_call hw (fun v935 hw => ?_) (fun e he => hE e he _ S923.b0)⟩
          obtain ⟨g936, hw⟩ := cW_grd hw
          obtain ⟨g937, hw⟩ := cW_grd hw
          refine ⟨_, rfl, _, rfl, _, _, _, _, rfl, rfl, (SqL.of h924), (atI_map g936), _, rfl, _, rfl, _, rfl, _, _, rfl, rfl, _, _, _, _, rfl, rfl, (SqL.of (S923.bM _ _ h893)), (atI_map g937), _, _, rfl, rfl, rfl, rfl, G926, _, rfl, S923.sG, cW_call hw (fun v938 hw => ?_) (fun e he => hE e he _ S923.b0)⟩
          refine ⟨_, _, rfl, rfl, ?_⟩
          have hw := cW_bnd hw
          obtain ⟨g940, hw⟩ := cW_grd hw
          obtain ⟨g941, hw⟩ := cW_grd hw
          obtain ⟨g942, hw⟩ := cW_grd hw
          refine ⟨_, rfl, _, rfl, _, _, _, _, rfl, rfl, (SqL.of h924), (atI_map g940), _, rfl, _, rfl, _, _, rfl, rfl, _, _, _, _, rfl, rfl, (SqL.of h925), (atI_map g941), _, rfl, _, _, rfl, rfl, g942, _, _, rfl, rfl, _, rfl, _, _, _, rfl, (S923.bM _ _ h_p_fmt), G926, _, _, fmt', rfl, S923.sG, (hide_nil (S923.bM _ _ h_p_fmt)), cW_callN hw (fun v943 hw H944 e945 => ?_) trivial⟩
          have S946 := S923.same e945
          refine ⟨rfl, rfl, G926, _, _, _, rfl, S946.sG, cW_call hw (fun v947 hw => ?_) (fun e he => hE e he _ S946.b0)⟩
          obtain ⟨g948, hw⟩ := cW_grd hw
          have h949 := (e945 _ _ h924)
          refine ⟨_, rfl, _, rfl, _, _, _, _, rfl, rfl, h949, (ixN_map g948), ?_⟩
          generalize g950 : upd H944 p871 _ = H951
          obtain ⟨x952, h953⟩ := gen_mut g950
          have h954 : H951 p871 = some (.lst ((setL (row_919) (x928) (v947) : (List Int)).map V.int)) := set_map h953
          have S955 := S946.mut1 x952 (.head _) h954
          have hw := cW_bnd hw
          have hw := cW_ok hw
          have hw := hK931 _ hw
          have h957 := (x952 _ _ (e945 _ _ h925) (ne_of_none h877 n901).symm)
          exact ⟨(setL (row_919) (x928) (v947)), _, _, _, rfl, eG927, S955, h954, h957, hw⟩
        · intro σ H958 hw
          obtain ⟨row_919, u920, u921, G962, rfl, eG963, S959, h960, h961, hw⟩ := hw
          have hw := hK918 _ (cW_forS0 (rng_len _ _).symm hw)
          have hw : cW (F__filtered_row_r1  (row_919)) _ EE := hw
          unfold F__filtered_row_r1 at hw
          refine ⟨_, rfl, ?_⟩
          have hw := cW_ok hw
          exact hK0 _ hw _ _ fr878 S959.b0 h960
    · have hw := cW_neg c880 hw
      refine ⟨_, rfl, ?_⟩
      refine iteT ?_
      refine ⟨_, rfl, ?_⟩
      have hw := cW_ok hw
      exact hK0 _ hw _ _ fr878 S879.b0 h877

abbrev N__filter_slice : List Str := ["settings", "index", "items", "planes", "filtered", "plane", "item", "first", "end", "rows", "y"]
theorem sc__filter_slice : FnScope N__filter_slice ["settings", "index", "items", "planes", "filtered"] (defScope s__filter_slice) := ⟨rfl, rfl, rfl, by decide +kernel, rfl, by decide +kernel, by decide +kernel⟩
theorem ok__filter_slice (D : DefX K mg "_filter_slice" s__filter_slice ["settings", "index", "items", "planes", "filtered"] pats__filter_slice) (T : Txt w K mg AD) (c_slice_span : CalX P w K mg base 4 "slice_span" (sp_slice_span K AD) pats_slice_span) (c__filtered_row : CalX P w K mg base 3 "_filtered_row" (sp__filtered_row K AD) pats__filtered_row) : CalX P w K mg base 5 "_filter_slice" (sp__filter_slice K AD) pats__filter_slice := by
  refine D.ok sc__filter_slice (fun vs H Q E h => ?_) (fun f cdv A_ outer s H vs Q E hr h => ?_)
  · obtain ⟨G, p_settings, p_settings_fmt, dx_settings, dx_settings_fmt, settings', index', v_items, items', v_planes, planes', a_filtered, vs_filtered, L_filtered, filtered', rfl, _⟩ := h
    rfl
  · obtain ⟨G, p_settings, p_settings_fmt, dx_settings, dx_settings_fmt, settings', index', v_items, items', v_planes, planes', a_filtered, vs_filtered, L_filtered, filtered', rfl, sG, gM, h_p_settings, h_p_settings_fmt, r_items, r_planes, h_a_filtered, w_filtered, nw_filtered_0, hw⟩ := h
    refine ⟨_, (pss_one (ps_for (passes_of rfl) rfl (pi_enumK (K := K) rfl T.b_enumerate (pa_cons (pv 2) pa_nil)) (pg_tupK (K := K) (n := 2) (pgs_cons (pg_name (i := 5) sc__filter_slice.nd rfl (Or.inr rfl)) (pgs_cons (pg_name (i := 6) sc__filter_slice.nd rfl (Or.inr rfl)) pgs_nil))) (pss_one (ps_if (pt_cmpR op_notND (pv 6) pe_non (nomark _)) (pss_cons (ps_asg (vx_callX c_slice_span pat_slice_span_0 (.head _) hr (by decide) (takes_of rfl rfl rfl rfl) rfl (pa_cons (pv 0) (pa_cons (pv 1) (pa_cons (pv 5) pa_nil))) pk_nil) (pg_tupK (K := K) (n := 2) (pgs_cons (pg_name (i := 7) sc__filter_slice.nd rfl (Or.inl rfl)) (pgs_cons (pg_name (i := 8) sc__filter_slice.nd rfl (Or.inl rfl)) pgs_nil))))
      (pss_cons (ps_setLc (i := 9) (y := "rows") rfl sc__filter_slice.nd rfl rfl (sw_true rfl rfl rfl (by decide +kernel)) (own := [("y", 10)]) (g := gName 10) (pi_range2 rfl T.b_range (pa_cons (pv 7) (pa_cons (pv 8) pa_nil))) (blkOk_by (own := [("y", 10)]) (N := N__filter_slice) (sc := defScope s__filter_slice) (by decide +kernel)) (fun _ _ _ _ _ => (pg_name (i := 10) sc__filter_slice.nd rfl (Or.inl rfl))) (fun _ _ _ _ _ => pts_nil) (fun _ _ _ _ _ => (vx_callX c__filtered_row pat__filtered_row_0 (.head _) hr (by decide) takes0 rfl (pa_cons (fldK (K := K) (pv 0)) (pa_cons (pe_ix (ix_listK (K := K)) (pv 3) (pv 5) (fun _ _ => rfl)) (pa_cons (pv 10) (pa_cons (pv 6) pa_nil)))) pk_nil)))
      (pss_one (ps_sset (pe_ix (ix_listK (K := K)) (pv 4) (pv 5) (fun _ _ => rfl)) (po_some (pv 7)) (po_some (pv 8)) (pv 9) rfl)))) pss_nil)))), ?_⟩
    obtain ⟨KK, EE, hK0, hE, hw⟩ := cW_gen hw
    have S0 := Sep.startM (M := (a_filtered :: (L_filtered ++ []))) sG (all_cons (some_ne h_a_filtered) (all_app (OwAll.there w_filtered) all_nil)) gM
    unfold F__filter_slice at hw
    obtain ⟨a965, vs966, rfl, h967, d968⟩ := rp_list r_items
    obtain ⟨a969, vs970, rfl, h971, d972⟩ := rp_list r_planes
    obtain ⟨K976, hK977, hw⟩ := cW_push hw
    refine ⟨_, rfl, _, _, rfl, (SqL.of (S0.bM _ _ h967)), for_enum (K := K) (a := a965) (xs := vs966) (fun i σ H' => ∃ (filtered_978 : (List (List (List Int)))) (vs979 : List V) (L980 : List Addr) (u981 : Option V) (u982 : Option V) (u983 : Option V) (u984 : Option V) (u985 : Option V) (G' : Hp), σ = [some (V.ref p_settings), some (V.int (index')), some (V.ref a965), some (V.ref a969), some (V.ref a_filtered), u981, u982, u983, u984, u985, none] ∧ Same G G' ∧ Sep (a_filtered :: (L_filtered ++ [])) H G G' H' (a_filtered :: (L980 ++ [])) ∧ H' a_filtered = some (.lst (vs979)) ∧ (∀ b ∈ L980, b ≠ a_filtered) ∧ OwAll G' H' L980 (vs979) ((filtered_978 : (List (List (List Int)))).map (oL (oL oI))) ∧ (∀ b ∈ L980, b ∈ L_filtered ∨ H b = none) ∧ cW (forS (List.drop i (enumL (items'))) filtered_978 (fun s x => F__filter_slice_b1 (settings') (index') (planes') s x)) K976 EE) ?_ ?_ ?_ ?_⟩
    · exact ⟨(filtered'), (vs_filtered), L_filtered, _, _, _, _, _, _, rfl, (Same.refl _), (S0.sub (all_cons (.head _) (all_app ((fun b hb => (.tail _ (List.mem_append_left _ hb))) : ∀ b ∈ L_filtered, b ∈ (a_filtered :: (L_filtered ++ []))) all_nil))), h_a_filtered, nw_filtered_0, w_filtered, ((fun b hb => .inl hb) : ∀ b ∈ L_filtered, b ∈ L_filtered ∨ H b = none), hw⟩
    · intro i σ H986 hw
      obtain ⟨filtered_978, vs979, L980, u981, u982, u983, u984, u985, G992, rfl, eG993, S987, h988, ne989, w990, hs991, hw⟩ := hw
      exact (SqL.of (S987.bM _ _ h967))
    · intro i x T995 σ H994 hj n996 hw
      obtain ⟨filtered_978, vs979, L980, u981, u982, u983, u984, u985, G1002, rfl, eG1003, S997, h998, ne999, w1000, hs1001, hw⟩ := hw
      obtain ⟨x1004, hx1005, r1006⟩ := RpAll.get d968 hj
      generalize g1007 : upd H994 T995 _ = H1008
      obtain ⟨e1009, h1010⟩ := gen_new n996 g1007
      have h1011 : H1008 T995 = some (.tup [V.int (((i : Nat) : Int)), x]) := h1010
      have fr1012 := S997.free n996
      obtain ⟨G1014, eG1015, hg1016, S1013⟩ := S997.grow n996 e1009 h1011 fr1012
      have hw := cW_forS (enumL_get hx1005) hw
      have hw : cW (F__filter_slice_b1 (settings') (index') (planes') (filtered_978) ((((i : Nat) : Int), x1004))) _ EE := hw
      unfold F__filter_slice_b1 at hw
      obtain ⟨K1018, hK1019, hw⟩ := cW_name hw
      refine ⟨_, _, rfl, (SqT.of (S1013.sG _ _ hg1016)), rfl, _, _, rfl, _, _, rfl, rfl, _, rfl, x1004, rfl, (Rp.mono S1013.bM r1006), _, rfl, ?_⟩
      refine iteB (fun c1021 => ?_) (fun c1021 => ?_)
      · have hw := cW_pos c1021 hw
        refine ⟨_, rfl, _, rfl, _, rfl, rfl, rfl, G1014, _, _, _, _, settings', _, _, rfl, S1013.sG, (hide_nil (S1013.bM _ _ h_p_settings)), (hide_nil (S1013.bM _ _ h_p_settings_fmt)), cW_callN hw (fun v1022 hw v1025 H1023 G1026 e1024 eG1027 sG1028 hn1029 r1030 => ?_) trivial⟩
        have S1031 := S1013.step e1024 eG1027 sG1028 hn1029
        obtain ⟨a1032, v1034, v1035, rfl, h1033, r1036, r1037⟩ := rp_tup2 r1030
        obtain rfl := rp_int r1036
        obtain rfl := rp_int r1037
        obtain ⟨g1038, hw⟩ := cW_grd hw
        obtain ⟨K1044, hK1045, hw⟩ := cW_push hw
        refine ⟨_, _, rfl, (SqT.of (S1031.sG _ _ h1033)), rfl, _, _, rfl, _, _, rfl, rfl, _, rfl, _, rfl, _, _, rfl, g1038, fun D1046 n1047 => lc_range (lo := v1022.1) (n := Int.toNat (v1022.2 - v1022.1)) (fun i1 H' => ∃ (G' : Hp) (acc1049 : (List (List Int))) (vs1050 : List V) (L1048 : List Addr), Same G1026 G' ∧ Sep (a_filtered :: (L_filtered ++ [])) H G G' H' (D1046 :: (L1048 ++ (a_filtered :: (L980 ++ [])))) ∧ H' a_filtered = some (.lst (vs979)) ∧ H' D1046 = some (.lst vs1050) ∧ OwAll G' H' L980 (vs979) ((filtered_978 : (List (List (List Int)))).map (oL (oL oI))) ∧ OwAll G' H' L1048 vs1050 ((acc1049 : (List (List Int))).map (oL oI)) ∧ (∀ b ∈ L1048, H1023 b = none) ∧ (∀ b ∈ L1048, b ≠ D1046) ∧ Same H1023 H' ∧ cW (mapA (List.drop i1 (rng (v1022.1) (Int.toNat (v1022.2 - v1022.1)))) acc1049 (fun x => noEr (F__filter_slice_c2 (settings') (planes') (((i : Nat) : Int)) (x1004) x))) K1044 EE) ?_ ?_ ?_⟩
        · generalize g1051 : upd H1023 D1046 _ = H1052
          obtain ⟨e1053, h1054⟩ := gen_new n1047 g1051
          have fr1055 := S1031.free n1047
          have S1056 := S1031.new n1047 e1053 h1054 fr1055
          have h1057 := (e1053 _ _ (e1024 _ _ (e1009 _ _ h998)))
          have w1058 : OwAll G1026 H1052 L980 (vs979) ((filtered_978 : (List (List (List Int)))).map (oL (oL oI))) := (OwAll.mono (Same.trans eG1015 eG1027) keeps_refl (OwAll.mono (Same.refl _) (keeps_same e1053) (OwAll.mono (Same.refl _) (keeps_same e1024) (OwAll.mono (Same.refl _) (keeps_same e1009) w1000))))
          exact ⟨_, [], [], [], Same.refl _, (S1056.sub (all_cons (.head _) (all_app (L := []) all_nil (all_cons (.tail _ (.head _)) (all_app ((fun b hb => (.tail _ (.tail _ (List.mem_append_left _ hb)))) : ∀ b ∈ L980, b ∈ (D1046 :: (a_filtered :: (L980 ++ [])))) all_nil))))), h1057, h1054, w1058, OwAll.nil, all_nil, all_nil, e1053, hw⟩
        · intro i1 H1059 hi hw
          obtain ⟨G1062, acc1064, vs1065, L1067, eG1063, S1060, h1071, h1061, w1072, d1066, nb1068, nd1069, eo1070, hw⟩ := hw
          obtain ⟨z1073, hw⟩ := cW_mapA (rng_get hi) hw
          generalize (v1022.1 + (i1 : Int)) = x1074 at hw ⊢
          have hw := cW_noEr hw
          have hw : cW (F__filter_slice_c2 (settings') (planes') (((i : Nat) : Int)) (x1004) (x1074)) _ (fun _ => False) := hw
          unfold F__filter_slice_c2 at hw
          refine ⟨rfl, ?_⟩
          refine tyes_go ?_
          obtain ⟨g1076, hw⟩ := cW_grd hw
          obtain ⟨v1077, a1078, r1079⟩ := RpAll.ixD (k := ((i : Nat) : Int)) d972 g1076
          obtain ⟨a1080, vs1081, rfl, h1082, d1083⟩ := rp_list r1079
          obtain ⟨g1084, hw⟩ := cW_grd hw
          have r1085 : Rp (hideL (a_filtered :: (L_filtered ++ [])) H) x ((encT2 PyData.int (encL PyData.int)) (((cT2 cI (cL cI))).dec (x1004))) := rp_dcast (cT2 cI (cL cI)) g1084 r1006
          obtain ⟨a1086, v1088, v1089, rfl, h1087, r1090, r1091⟩ := rp_tup2 r1085
          obtain rfl := rp_int r1090
          obtain ⟨a1092, rfl, h1093⟩ := rp_ints r1091
          refine ⟨_, rfl, _, _, _, _, _, rfl, (S1060.bM _ _ h_p_settings), T.cl_Settings, T.n_Settings_fmt, rfl, _, rfl, _, rfl, _, _, _, _, rfl, rfl, (SqL.of (S1060.bM _ _ h971)), a1078, _, rfl, _, rfl, rfl, rfl, G1062, _, _, settings'.fmt, _, _, _, _, _, rfl, S1060.sG, (hide_nil (S1060.bM _ _ h_p_settings_fmt)), (Rp.hide_nil (rp_mk_list (S1060.bM _ _ h1082) (RpAll.mono S1060.bM d1083))), (Rp.hide_nil (rp_mk2 (S1060.bM _ _ h1087) (.int _) (rp_mk_ints (S1060.bM _ _ h1093)))), cW_call hw (fun v1094 hw p1097 H1095 n1098 e1096 h1099 => ?_) (fun e he => he.elim)⟩
          have h1100 : H1095 p1097 = some (.lst ((v1094 : (List Int)).map V.int)) := h1099
          have fr1101 := S1060.free n1098
          have S1102 := S1060.new n1098 e1096 h1100 fr1101
          have w1103 : OwAll G1062 H1095 L1067 (vs1065) ((acc1064 : (List (List Int))).map (oL oI)) := (OwAll.mono (Same.refl _) (keeps_same e1096) d1066)
          have h1104 := (e1096 _ _ h1061)
          refine ⟨_, h1104, (app_len (OwAll.rpA w1103 (encO_L encO_I) S1102.sG) z1073), ?_⟩
          generalize g1105 : upd H1095 D1046 _ = H1106
          obtain ⟨x1107, h1108⟩ := gen_mut g1105
          have S1109 := S1102.mut1 x1107 (.tail _ (.head _)) h1108
          have hw := cW_ok hw
          have h1110 := (x1107 _ _ (e1096 _ _ h1071) (ne_of_none (e1024 _ _ (e1009 _ _ h998)) n1047))
          have w1111 : OwAll G1062 H1106 L980 (vs979) ((filtered_978 : (List (List (List Int)))).map (oL (oL oI))) := (OwAll.mono (Same.refl _) (keeps_mut x1107 ((there_ne (fun b_ hb_ => (S1031.ow b_ (((fun b hb => (.tail _ (List.mem_append_left _ hb))) : ∀ b ∈ L980, b ∈ (a_filtered :: (L980 ++ []))) b_ hb_)).2.1) n1047) : ∀ b ∈ L980, b ≠ D1046)) (OwAll.mono (Same.refl _) (keeps_same e1096) w1072))
          exact ⟨_, (acc1064 ++ [v1094]), _, (L1067 ++ (p1097 :: ([] : List Addr))), eG1063, (S1109.sub (all_cons (.tail _ (.head _)) (all_app (all_app ((fun b hb => (.tail _ (.tail _ (List.mem_append_left _ hb)))) : ∀ b ∈ L1067, b ∈ (p1097 :: (D1046 :: (L1067 ++ (a_filtered :: (L980 ++ [])))))) (all_cons (.head _) all_nil)) (all_cons (.tail _ (.tail _ (List.mem_append_right _ (.head _)))) (all_app ((fun b hb => (.tail _ (.tail _ (List.mem_append_right _ (.tail _ (List.mem_append_left _ hb)))))) : ∀ b ∈ L980, b ∈ (p1097 :: (D1046 :: (L1067 ++ (a_filtered :: (L980 ++ [])))))) all_nil))))), h1110, h1108, w1111, (OwAll.mono (Same.refl _) (keeps_mut x1107 ((all_app nd1069 (all_cons (ne_of_none h1061 n1098).symm all_nil)) : ∀ b ∈ (L1067 ++ (p1097 :: ([] : List Addr))), b ≠ D1046)) (OwAll.snocM w1103 (Ow.ints h1100) ((fun b hb => (nm_cons ((there_ne (fun b_ hb_ => (S1060.ow b_ (((fun b hb => (.tail _ (List.mem_append_left _ hb))) : ∀ b ∈ L1067, b ∈ (D1046 :: (L1067 ++ (a_filtered :: (L980 ++ []))))) b_ hb_)).2.1) n1098) b hb) nm_nil)) : ∀ b ∈ L1067, b ∉ (p1097 :: ([] : List Addr))))), ((all_app nb1068 (all_cons (none_of_same eo1070 n1098) all_nil)) : ∀ b ∈ (L1067 ++ (p1097 :: ([] : List Addr))), H1023 b = none), ((all_app nd1069 (all_cons (ne_of_none h1061 n1098).symm all_nil)) : ∀ b ∈ (L1067 ++ (p1097 :: ([] : List Addr))), b ≠ D1046), (same_mut (Same.trans eo1070 e1096) x1107 n1047), hw⟩
        intro H1112 hw
        obtain ⟨G1115, acc1117, vs1118, L1120, eG1116, S1113, h1124, h1114, w1125, d1119, nb1121, nd1122, eo1123, hw⟩ := hw
        have hw := hK1045 _ (cW_mapA0 (rng_len _ _).symm hw)
        have fr1126 := S1031.free n1047
        obtain ⟨g1127, hw⟩ := cW_grd hw
        obtain ⟨v1128, L1129, a1130, w1131, hs1132, up1133, gr1134⟩ := OwAll.partM (k := ((i : Nat) : Int)) w1125 g1127
        obtain ⟨b1135, vs1136, L1137, rfl, rfl, h1138, w1139, nb1140⟩ := Ow.toList w1131
        obtain ⟨g1141, hw⟩ := cW_grd hw
        refine ⟨_, rfl, _, rfl, _, rfl, _, _, _, _, rfl, rfl, (SqL.of h1124), a1130, _, rfl, _, rfl, _, rfl, _, rfl, _, _, _, _, _, _, rfl, rfl, rfl, rfl, h1138, h1114, ((there_ne (fun b_ hb_ => (S1031.ow b_ (((fun b hb => (.tail _ (List.mem_append_left _ hb))) : ∀ b ∈ L980, b ∈ (a_filtered :: (L980 ++ []))) b_ hb_)).2.1) n1047) _ (hs1132 _ List.mem_cons_self)), g1141.1, g1141.2.1, (slc_hi w1139 g1141.2.2.1), (cat_lenW w1139 d1119 g1141.2.2.2), ?_⟩
        obtain ⟨L1142, hL1143, w1144⟩ := OwAll.spliceM w1139 d1119 g1141 ((fun b hb => ((nl_symm (fun c hc => ((nl_symm (new_nl nb1121 (fun b_ hb_ => (S1031.ow b_ (((fun b hb => (.tail _ (List.mem_append_left _ hb))) : ∀ b ∈ L980, b ∈ (a_filtered :: (L980 ++ []))) b_ hb_)).2.1))) : ∀ c ∈ L980, c ∉ L1120) c ((fun c hc => hs1132 c (List.mem_cons_of_mem _ hc)) c hc))) b hb)) : ∀ b ∈ L1120, b ∉ L1137)
        generalize g1146 : upd H1112 b1135 _ = H1147
        obtain ⟨x1148, h1149⟩ := gen_mut g1146
        have h1150 : H1147 b1135 = some (.lst ((vs1136).take (Int.toNat (v1022.1)) ++ (vs1118) ++ (vs1136).drop (Int.toNat (v1022.2)))) := h1149
        have S1151 := S1113.mut1 x1148 ((((fun b hb => (.tail _ (List.mem_append_right _ (.tail _ (List.mem_append_left _ hb))))) : ∀ b ∈ L980, b ∈ (D1046 :: (L1120 ++ (a_filtered :: (L980 ++ []))))) : ∀ b ∈ L980, b ∈ (D1046 :: (L1120 ++ (a_filtered :: (L980 ++ []))))) _ (hs1132 _ List.mem_cons_self)) h1150
        have w1145 : OwAll G1115 H1147 L1142 ((vs1136).take (Int.toNat (v1022.1)) ++ (vs1118) ++ (vs1136).drop (Int.toNat (v1022.2))) ((spliceL ((itD (filtered_978) (((i : Nat) : Int)))) (v1022.1) (v1022.2) (acc1117) : (List (List Int))).map (oL oI)) := OwAll.mono (Same.refl _) (keeps_mut x1148 ((fun b hb => ((all_app nb1140 (fun b hb z => (fun b hb => ((new_nl nb1121 (fun b_ hb_ => (S1031.ow b_ (((fun b hb => (.tail _ (List.mem_append_left _ hb))) : ∀ b ∈ L980, b ∈ (a_filtered :: (L980 ++ []))) b_ hb_)).2.1)) b hb)) b hb (z ▸ (hs1132 _ List.mem_cons_self)))) : ∀ b ∈ (L1137 ++ L1120), b ≠ b1135) b (hL1143 b hb)) : ∀ b ∈ L1142, b ≠ b1135)) w1144
        obtain ⟨L1152, hL1153, w1154⟩ := gr1134 H1147 _ L1120 (b1135 :: L1142) (grow_keeps (Same.refl _) x1148 List.mem_cons_self) (grow_sub hL1143) ((fun b hb => ((new_nl nb1121 (fun b_ hb_ => (S1031.ow b_ (((fun b hb => (.tail _ (List.mem_append_left _ hb))) : ∀ b ∈ L980, b ∈ (a_filtered :: (L980 ++ []))) b_ hb_)).2.1)) b hb)) : ∀ b ∈ L1120, b ∉ L980) (Ow.list h1150 w1145 ((fun b hb => ((all_app nb1140 (fun b hb z => (fun b hb => ((new_nl nb1121 (fun b_ hb_ => (S1031.ow b_ (((fun b hb => (.tail _ (List.mem_append_left _ hb))) : ∀ b ∈ L980, b ∈ (a_filtered :: (L980 ++ []))) b_ hb_)).2.1)) b hb)) b hb (z ▸ (hs1132 _ List.mem_cons_self)))) : ∀ b ∈ (L1137 ++ L1120), b ≠ b1135) b (hL1143 b hb)) : ∀ b ∈ L1142, b ≠ b1135))
        have w1155 : OwAll G1115 H1147 L1152 (vs979) ((setL (filtered_978) (((i : Nat) : Int)) (spliceL ((itD (filtered_978) (((i : Nat) : Int)))) (v1022.1) (v1022.2) (acc1117)) : (List (List (List Int)))).map (oL (oL oI))) := w1154
        have hw := cW_bnd hw
        have hw := cW_ok hw
        have hw := hK1019 _ hw
        have h1157 := (x1148 _ _ h1124 (ne999 _ (hs1132 _ List.mem_cons_self)).symm)
        exact ⟨(setL (filtered_978) (((i : Nat) : Int)) (spliceL ((itD (filtered_978) (((i : Nat) : Int)))) (v1022.1) (v1022.2) (acc1117))), (vs979), L1152, _, _, _, _, _, _, rfl, (Same.trans (Same.trans (Same.trans eG1003 eG1015) eG1027) eG1116), (S1151.sub (all_cons (.tail _ (List.mem_append_right _ (.head _))) (all_app (fun b hb => ((all_app ((fun b hb => (.tail _ (List.mem_append_right _ (.tail _ (List.mem_append_left _ hb))))) : ∀ b ∈ L980, b ∈ (D1046 :: (L1120 ++ (a_filtered :: (L980 ++ []))))) ((fun b hb => (.tail _ (List.mem_append_left _ hb))) : ∀ b ∈ L1120, b ∈ (D1046 :: (L1120 ++ (a_filtered :: (L980 ++ [])))))) : ∀ b ∈ (L980 ++ L1120), b ∈ (D1046 :: (L1120 ++ (a_filtered :: (L980 ++ []))))) b (hL1153 b hb)) all_nil))), h1157, (fun b hb => ((all_app ne999 (new_ne2 nb1121 (S1031.ow _ (.head _)).2.1)) : ∀ b ∈ (L980 ++ L1120), b ≠ a_filtered) b (hL1153 b hb)), w1155, ((fun b hb => ((all_app (fun b hb => (hs1001 b hb).elim (((fun b hb => .inl hb) : ∀ b ∈ L_filtered, b ∈ L_filtered ∨ H b = none) b) (fun z => .inr (S0.free z))) (fun b hb => .inr ((fun b hb => S1031.free (nb1121 b hb)) b hb))) : ∀ b ∈ (L980 ++ L1120), b ∈ L_filtered ∨ H b = none) b (hL1153 b hb)) : ∀ b ∈ L1152, b ∈ L_filtered ∨ H b = none), hw⟩
      · have hw := cW_negB c1021 hw
        have hw := cW_ok hw
        have hw := hK1019 _ hw
        have h1158 := (e1009 _ _ h998)
        have w1159 : OwAll G1014 H1008 L980 (vs979) ((filtered_978 : (List (List (List Int)))).map (oL (oL oI))) := (OwAll.mono eG1015 keeps_refl (OwAll.mono (Same.refl _) (keeps_same e1009) w1000))
        exact ⟨(filtered_978), (vs979), L980, _, _, _, _, _, _, rfl, (Same.trans eG1003 eG1015), (S1013.sub (all_cons (.head _) (all_app ((fun b hb => (.tail _ (List.mem_append_left _ hb))) : ∀ b ∈ L980, b ∈ (a_filtered :: (L980 ++ []))) all_nil))), h1158, ne999, w1159, ((fun b hb => (hs1001 b hb).elim (((fun b hb => .inl hb) : ∀ b ∈ L_filtered, b ∈ L_filtered ∨ H b = none) b) (fun z => .inr (S0.free z))) : ∀ b ∈ L980, b ∈ L_filtered ∨ H b = none), hw⟩
    · intro σ H1160 hw
      obtain ⟨filtered_978, vs979, L980, u981, u982, u983, u984, u985, G1166, rfl, eG1167, S1161, h1162, ne1163, w1164, hs1165, hw⟩ := hw
      have hw := hK977 _ (cW_forS0 (by rw [enumL_len]; exact (by rw [d968.len, List.length_map])) hw)
      have hw : cW (F__filter_slice_r1  (filtered_978)) _ EE := hw
      unfold F__filter_slice_r1 at hw
      have hw := cW_ok hw
      exact hK0 _ hw _ _ _ L980 S1161.base S1161.g0 S1161.sG S1161.gn S1161.pm h1162 ((fun b hb => (hs1165 b hb).elim (((fun b hb => .inl hb) : ∀ b ∈ L_filtered, b ∈ L_filtered ∨ H b = none) b) (fun z => .inr (S0.free z))) : ∀ b ∈ L980, b ∈ L_filtered ∨ H b = none) ((fun b hb => (S1161.ow b (((fun b hb => (.tail _ (List.mem_append_left _ hb))) : ∀ b ∈ L980, b ∈ (a_filtered :: (L980 ++ []))) b hb)).1) : ∀ b ∈ L980, G1166 b = none) (ne1163 : ∀ b ∈ L980, b ≠ a_filtered) w1164

abbrev N_apply_offsets : List Str := ["settings", "planes", "offsets", "filtered", "index", "items"]
theorem sc_apply_offsets : FnScope N_apply_offsets ["settings", "planes", "offsets"] (defScope s_apply_offsets) := ⟨rfl, rfl, rfl, by decide +kernel, rfl, by decide +kernel, by decide +kernel⟩
theorem ok_apply_offsets (D : DefX K mg "apply_offsets" s_apply_offsets ["settings", "planes", "offsets"] pats_apply_offsets) (T : Txt w K mg AD) (c_copy_planes : CalX P w K mg base 1 "copy_planes" (sp_copy_planes K AD) pats_copy_planes) (c__filter_slice : CalX P w K mg base 5 "_filter_slice" (sp__filter_slice K AD) pats__filter_slice) : CalX P w K mg base 6 "apply_offsets" (sp_apply_offsets K AD) pats_apply_offsets := by
  refine D.ok sc_apply_offsets (fun vs H Q E h => ?_) (fun f cdv A_ outer s H vs Q E hr h => ?_)
  · obtain ⟨G, p_settings, p_settings_fmt, dx_settings, dx_settings_fmt, settings', v_planes, planes', v_offsets, offsets', rfl, _⟩ := h
    rfl
  · obtain ⟨G, p_settings, p_settings_fmt, dx_settings, dx_settings_fmt, settings', v_planes, planes', v_offsets, offsets', rfl, sG, h_p_settings, h_p_settings_fmt, r_planes, r_offsets, hw⟩ := h
    refine ⟨_, (pss_cons (ps_set (i := 3) sc_apply_offsets.nd rfl (Or.inl rfl) (vx_callX c_copy_planes pat_copy_planes_0 (.head _) hr (by decide) (takes_of rfl rfl rfl rfl) rfl (pa_cons (pv 1) pa_nil) pk_nil))
      (pss_cons (ps_for (passes_of rfl) rfl (pi_enumK (K := K) rfl T.b_enumerate (pa_cons (pv 2) pa_nil)) (pg_tupK (K := K) (n := 2) (pgs_cons (pg_name (i := 4) sc_apply_offsets.nd rfl (Or.inl rfl)) (pgs_cons (pg_name (i := 5) sc_apply_offsets.nd rfl (Or.inl rfl)) pgs_nil))) (pss_one (ps_if (pt_cmpR op_notND (pv 5) pe_non (nomark _)) (pss_one (ps_expr (vx_callX c__filter_slice pat__filter_slice_0 (.head _) hr (by decide) (takes_of rfl rfl rfl rfl) rfl (pa_cons (pv 0) (pa_cons (pv 4) (pa_cons (pv 5) (pa_cons (pv 1) (pa_cons (pv 3) pa_nil))))) pk_nil))) pss_nil)))
      (pss_one (ps_ret (pv 3))))), ?_⟩
    obtain ⟨KK, EE, hK0, hE, hw⟩ := cW_gen hw
    have S0 := Sep.startG sG
    unfold F_apply_offsets at hw
    obtain ⟨a1169, vs1170, rfl, h1171, d1172⟩ := rp_list r_planes
    obtain ⟨a1173, vs1174, rfl, h1175, d1176⟩ := rp_list r_offsets
    refine ⟨_, rfl, rfl, rfl, G, _, _, rfl, S0.sG, (Rp.hide_nil (rp_mk_list (S0.bM _ _ h1171) (RpAll.mono S0.bM d1172))), cW_call hw (fun v1177 hw H1178 a1180 vs1181 L1182 G1183 n1184 nb1185 nd1186 e1179 eG1187 sG1188 hn1189 ga1190 gL1191 h1192 w1193 => ?_) (fun e he H2 e2 => hE e he H2 (Same.trans S0.b0 e2))⟩
    have fr1194 := S0.free n1184
    have S1195 : Sep _ _ _ _ H1178 (a1180 :: (L1182 ++ [])) := Sep.steptree S0 e1179 eG1187 sG1188 hn1189 (a1180 :: L1182) (all_cons ⟨n1184, ga1190, some_ne h1192⟩ (fun b hb => ⟨nb1185 b hb, gL1191 b hb, OwAll.there w1193 b hb⟩))
    obtain ⟨K1198, hK1199, hw⟩ := cW_push hw
    refine ⟨_, rfl, _, _, rfl, (SqL.of (S1195.bM _ _ h1175)), for_enum (K := K) (a := a1173) (xs := vs1174) (fun i σ H' => ∃ (filtered_1200 : (List (List (List Int)))) (vs1201 : List V) (L1202 : List Addr) (u1203 : Option V) (u1204 : Option V) (G' : Hp), σ = [some (V.ref p_settings), some (V.ref a1169), some (V.ref a1173), some (V.ref a1180), u1203, u1204] ∧ Same G1183 G' ∧ Sep [] H G G' H' (a1180 :: (L1202 ++ [])) ∧ H' a1180 = some (.lst (vs1201)) ∧ (∀ b ∈ L1202, b ≠ a1180) ∧ OwAll G' H' L1202 (vs1201) ((filtered_1200 : (List (List (List Int)))).map (oL (oL oI))) ∧ cW (forS (List.drop i (enumL (offsets'))) filtered_1200 (fun s x => F_apply_offsets_b1 (settings') (planes') s x)) K1198 EE) ?_ ?_ ?_ ?_⟩
    · exact ⟨(v1177), (vs1181), L1182, _, _, _, rfl, (Same.refl _), (S1195.sub (all_cons (.head _) (all_app ((fun b hb => (.tail _ (List.mem_append_left _ hb))) : ∀ b ∈ L1182, b ∈ (a1180 :: (L1182 ++ []))) all_nil))), h1192, nd1186, w1193, hw⟩
    · intro i σ H1205 hw
      obtain ⟨filtered_1200, vs1201, L1202, u1203, u1204, G1210, rfl, eG1211, S1206, h1207, ne1208, w1209, hw⟩ := hw
      exact (SqL.of (S1206.bM _ _ h1175))
    · intro i x T1213 σ H1212 hj n1214 hw
      obtain ⟨filtered_1200, vs1201, L1202, u1203, u1204, G1219, rfl, eG1220, S1215, h1216, ne1217, w1218, hw⟩ := hw
      obtain ⟨x1221, hx1222, r1223⟩ := RpAll.get d1176 hj
      generalize g1224 : upd H1212 T1213 _ = H1225
      obtain ⟨e1226, h1227⟩ := gen_new n1214 g1224
      have h1228 : H1225 T1213 = some (.tup [V.int (((i : Nat) : Int)), x]) := h1227
      have fr1229 := S1215.free n1214
      obtain ⟨G1231, eG1232, hg1233, S1230⟩ := S1215.grow n1214 e1226 h1228 fr1229
      have hw := cW_forS (enumL_get hx1222) hw
      have hw : cW (F_apply_offsets_b1 (settings') (planes') (filtered_1200) ((((i : Nat) : Int), x1221))) _ EE := hw
      unfold F_apply_offsets_b1 at hw
      obtain ⟨K1235, hK1236, hw⟩ := cW_name hw
      refine ⟨_, _, rfl, (SqT.of (S1230.sG _ _ hg1233)), rfl, _, _, rfl, _, _, rfl, rfl, _, rfl, x1221, rfl, (Rp.mono S1230.bM r1223), _, rfl, ?_⟩
      refine iteB (fun c1238 => ?_) (fun c1238 => ?_)
      · have hw := cW_pos c1238 hw
        obtain ⟨g1239, hw⟩ := cW_grd hw
        have r1240 : Rp (hideL [] H) x ((encL encD) (((cL cD)).dec (x1221))) := rp_dcast (cL cD) g1239 r1223
        obtain ⟨a1241, vs1242, rfl, h1243, d1244⟩ := rp_list r1240
        have h1245 := (e1226 _ _ h1216)
        have w1246 : OwAll G1231 H1225 L1202 (vs1201) ((filtered_1200 : (List (List (List Int)))).map (oL (oL oI))) := (OwAll.mono eG1232 keeps_refl (OwAll.mono (Same.refl _) (keeps_same e1226) w1218))
        refine ⟨_, rfl, _, rfl, _, rfl, _, rfl, _, rfl, rfl, rfl, G1231, _, _, _, _, settings', _, _, _, _, _, _, _, L1202, filtered_1200, rfl, S1230.sG, (S1230.gno (all_cons (.head _) (all_app ((fun b hb => (.tail _ (List.mem_append_left _ hb))) : ∀ b ∈ L1202, b ∈ (a1180 :: (L1202 ++ []))) all_nil))), ((hideL_out (nm_cons (b_ne h_p_settings S1230 (.head _)) (nm_app (fun z => (b_nl h_p_settings S1230 ((fun b hb => (.tail _ (List.mem_append_left _ hb))) : ∀ b ∈ L1202, b ∈ (a1180 :: (L1202 ++ [])))) _ z rfl) nm_nil))).trans (S1230.bM _ _ h_p_settings)), ((hideL_out (nm_cons (b_ne h_p_settings_fmt S1230 (.head _)) (nm_app (fun z => (b_nl h_p_settings_fmt S1230 ((fun b hb => (.tail _ (List.mem_append_left _ hb))) : ∀ b ∈ L1202, b ∈ (a1180 :: (L1202 ++ [])))) _ z rfl) nm_nil))).trans (S1230.bM _ _ h_p_settings_fmt)), (Rp.mono (Sep.bhide S1230 (all_cons (.head _) (all_app ((fun b hb => (.tail _ (List.mem_append_left _ hb))) : ∀ b ∈ L1202, b ∈ (a1180 :: (L1202 ++ []))) all_nil))) (rp_mk_list h1243 d1244)), (Rp.mono (Sep.bhide S1230 (all_cons (.head _) (all_app ((fun b hb => (.tail _ (List.mem_append_left _ hb))) : ∀ b ∈ L1202, b ∈ (a1180 :: (L1202 ++ []))) all_nil))) (rp_mk_list h1171 d1172)), h1245, w1246, (ne1217 : ∀ b ∈ L1202, b ≠ a1180), cW_call hw (fun v1247 hw H1251 G1254 vs1260 L1261 x1252 eG1255 sG1256 hn1257 pm1258 h1259 hs1262 gl1263 ne1265 w1264 => ?_) (fun e he H2 e2 => hE e he H2 (Same.trans S1230.b0 e2))⟩
        have S1253 : Sep _ _ _ G1254 H1251 (L1261 ++ (a1180 :: [])) := Sep.mutgrow S1230 x1252 (all_cons (.head _) (all_app ((fun b hb => (.tail _ (List.mem_append_left _ hb))) : ∀ b ∈ L1202, b ∈ (a1180 :: (L1202 ++ []))) all_nil)) pm1258 eG1255 sG1256 hn1257 (all_app (fun b hb => (hs1262 b hb).elim (fun z => .inl ((((fun b hb => (.tail _ (List.mem_append_left _ hb))) : ∀ b ∈ L1202, b ∈ (a1180 :: (L1202 ++ []))) : ∀ b ∈ L1202, b ∈ (a1180 :: (L1202 ++ []))) b z)) (fun z => .inr ⟨z, gl1263 b hb, OwAll.there w1264 b hb⟩)) (all_cons (.inl (.head _)) all_nil))
        have hw := cW_ok hw
        have hw := hK1236 _ hw
        exact ⟨(v1247), (vs1260), L1261, _, _, _, rfl, (Same.trans (Same.trans eG1220 eG1232) eG1255), (S1253.sub (all_cons (List.mem_append_right _ (.head _)) (all_app ((fun b hb => (List.mem_append_left _ hb)) : ∀ b ∈ L1261, b ∈ (L1261 ++ (a1180 :: []))) all_nil))), h1259, ne1265, w1264, hw⟩
      · have hw := cW_negB c1238 hw
        have hw := cW_ok hw
        have hw := hK1236 _ hw
        have h1268 := (e1226 _ _ h1216)
        have w1269 : OwAll G1231 H1225 L1202 (vs1201) ((filtered_1200 : (List (List (List Int)))).map (oL (oL oI))) := (OwAll.mono eG1232 keeps_refl (OwAll.mono (Same.refl _) (keeps_same e1226) w1218))
        exact ⟨(filtered_1200), (vs1201), L1202, _, _, _, rfl, (Same.trans eG1220 eG1232), (S1230.sub (all_cons (.head _) (all_app ((fun b hb => (.tail _ (List.mem_append_left _ hb))) : ∀ b ∈ L1202, b ∈ (a1180 :: (L1202 ++ []))) all_nil))), h1268, ne1217, w1269, hw⟩
    · intro σ H1270 hw
      obtain ⟨filtered_1200, vs1201, L1202, u1203, u1204, G1275, rfl, eG1276, S1271, h1272, ne1273, w1274, hw⟩ := hw
      have hw := hK1199 _ (cW_forS0 (by rw [enumL_len]; exact (by rw [d1176.len, List.length_map])) hw)
      have hw : cW (F_apply_offsets_r1  (filtered_1200)) _ EE := hw
      unfold F_apply_offsets_r1 at hw
      refine ⟨_, rfl, ?_⟩
      have hw := cW_ok hw
      exact hK0 _ hw _ _ _ _ _ fr1194 ((fun b hb => Sep.h0 S1271 (((fun b hb => (.tail _ (List.mem_append_left _ hb))) : ∀ b ∈ L1202, b ∈ (a1180 :: (L1202 ++ []))) b hb) nm_nil) : ∀ b ∈ L1202, H b = none) (ne1273 : ∀ b ∈ L1202, b ≠ a1180) S1271.b0 S1271.g0 S1271.sG S1271.gn (S1271.ow _ (.head _)).1 ((fun b hb => (S1271.ow b (((fun b hb => (.tail _ (List.mem_append_left _ hb))) : ∀ b ∈ L1202, b ∈ (a1180 :: (L1202 ++ []))) b hb)).1) : ∀ b ∈ L1202, G1275 b = none) h1272 w1274

abbrev N__law_cell : List Str := ["script", "k"]
theorem sc__law_cell : FnScope N__law_cell ["script", "k"] (defScope s__law_cell) := ⟨rfl, rfl, rfl, by decide +kernel, rfl, by decide +kernel, by decide +kernel⟩
theorem ok__law_cell (D : DefX K mg "_law_cell" s__law_cell ["script", "k"] pats__law_cell) (T : Txt w K mg AD)  : CalX P w K mg base 1 "_law_cell" (sp__law_cell K AD) pats__law_cell := by
  refine D.ok sc__law_cell (fun vs H Q E h => ?_) (fun f cdv A_ outer s H vs Q E hr h => ?_)
  · obtain ⟨G, a_script, script', k', rfl, _⟩ := h
    rfl
  · obtain ⟨G, a_script, script', k', rfl, sG, q_script, hw⟩ := h
    refine ⟨_, (pss_cons (ps_if (pt_cmp (pc_lt (pv 1) (pe_callB (call_lenLiK (K := K)) (by rfl) T.b_len (by decide +kernel) (pa_cons (pv 0) pa_nil)))) (pss_one (ps_ret (pe_callB call_abs (by rfl) T.b_abs (by decide +kernel) (pa_cons (pe_callTy call_int1 (by rfl) T.b_int (by decide +kernel) (pa_cons (pe_ix (ix_listK (K := K)) (pv 0) (pv 1) (fun _ _ => rfl)) pa_nil)) pa_nil)))) pss_nil)
      (pss_one (ps_ret pe_int))), ?_⟩
    obtain ⟨KK, EE, hK0, hE, hw⟩ := cW_gen hw
    have S0 := Sep.startG sG
    unfold F__law_cell at hw
    refine ⟨_, rfl, _, rfl, _, _, rfl, (S0.b0.seq q_script), _, _, rfl, rfl, _, rfl, ?_⟩
    refine iteD (fun c1278 => ?_) (fun c1278 => ?_)
    · have hw := cW_pos c1278 hw
      obtain ⟨g1279, hw⟩ := cW_grd hw
      refine ⟨_, rfl, _, rfl, _, _, _, _, rfl, rfl, (S0.b0.seq q_script), (atI_map g1279), .inl ⟨_, rfl, ?_⟩⟩
      refine ⟨_, rfl, ?_⟩
      have hw := cW_ok hw
      exact hK0 _ hw
    · have hw := cW_neg c1278 hw
      have hw := cW_ok hw
      exact hK0 _ hw

abbrev N__law_items : List Str := ["cell", "planes", "draws", "items", "plane", "draw", "item"]
theorem sc__law_items : FnScope N__law_items ["cell", "planes"] (defScope s__law_items) := ⟨rfl, rfl, rfl, by decide +kernel, rfl, by decide +kernel, by decide +kernel⟩
theorem ok__law_items (D : DefX K mg "_law_items" s__law_items ["cell", "planes"] pats__law_items) (T : Txt w K mg AD) (c__law_digits : CalX P w K mg base 1 "_law_digits" (sp__law_digits K AD) pats__law_digits) : CalX P w K mg base 2 "_law_items" (sp__law_items K AD) pats__law_items := by
  refine D.ok sc__law_items (fun vs H Q E h => ?_) (fun f cdv A_ outer s H vs Q E hr h => ?_)
  · obtain ⟨G, cell', planes', rfl, _⟩ := h
    rfl
  · obtain ⟨G, cell', planes', rfl, sG, hw⟩ := h
    refine ⟨_, (pss_cons (ps_set (i := 2) sc__law_items.nd rfl (Or.inl rfl) (vx_callX c__law_digits pat__law_digits_0 (.head _) hr (by decide) (takes_of rfl rfl rfl rfl) rfl (pa_cons (pv 0) (pa_cons pe_int (pa_cons (pe_op op_add (pv 1) pe_int) pa_nil))) pk_nil))
      (pss_cons (ps_if (pt_cmp (pc_eqI (pe_op op_mod (pe_ix (ix_listK (K := K)) (pv 2) (pv 1) (fun _ _ => rfl)) pe_int) pe_int)) (pss_one (ps_ret pe_non)) pss_nil)
      (pss_cons (ps_set (i := 3) sc__law_items.nd rfl (Or.inl rfl) (pe_lst pa_nil))
      (pss_cons (ps_for (passes_of rfl) rfl (pi_range1 rfl T.b_range (pa_cons (pv 1) pa_nil)) (pg_name (i := 4) sc__law_items.nd rfl (Or.inl rfl)) (pss_cons (ps_set (i := 5) sc__law_items.nd rfl (Or.inl rfl) (pe_ix (ix_listK (K := K)) (pv 2) (pv 4) (fun _ _ => rfl)))
      (pss_cons (ps_set (i := 6) sc__law_items.nd rfl (Or.inl rfl) pe_non)
      (C8.pss_cut (ps_if (pt_cmp (pc_gt (pe_op op_mod (pv 5) pe_int) pe_int)) (pss_one (ps_set (i := 6) sc__law_items.nd rfl (Or.inl rfl) (pe_tup (pa_cons (pe_op op_mod (pe_op op_fdivW (pv 5) pe_int) pe_int) (pa_cons (pe_lst (pa_cons (pe_op op_sub (pe_op op_mod (pe_op op_fdivW (pv 5) pe_int) pe_int) pe_int) (pa_cons (pe_op op_sub (pe_op op_mod (pe_op op_fdivW (pv 5) pe_int) pe_int) pe_int) (pa_cons (pe_op op_sub (pe_op op_mod (pe_op op_fdivW (pv 5) pe_int) pe_int) pe_int) (pa_cons (pe_op op_sub (pe_op op_mod (pe_op op_fdivW (pv 5) pe_int) pe_int) pe_int) pa_nil))))) pa_nil))))) pss_nil)
      (pss_one (ps_expr (pe_bm PySem.F.plainAttrs_list PySem.F.slot_list_append PySem.F.type_list_append mt_append (pv 3) (pa_cons (pv 6) pa_nil))))))))
      (pss_one (ps_ret (pv 3))))))), ?_⟩
    obtain ⟨KK, EE, hK0, hE, hw⟩ := cW_gen hw
    have S0 := Sep.startG sG
    unfold F__law_items at hw
    refine ⟨_, rfl, _, rfl, _, _, rfl, rfl, rfl, rfl, G, _, _, _, rfl, S0.sG, cW_call hw (fun v1280 hw p1283 H1281 n1284 e1282 h1285 => ?_) (fun e he H2 e2 => hE e he H2 (Same.trans S0.b0 e2))⟩
    have h1286 : H1281 p1283 = some (.lst ((v1280 : (List Int)).map V.int)) := h1285
    have fr1287 := S0.free n1284
    have S1288 := S0.new n1284 e1282 h1286 fr1287
    obtain ⟨g1289, hw⟩ := cW_grd hw
    refine ⟨_, rfl, _, rfl, _, _, _, _, rfl, rfl, (SqL.of h1286), (atI_map g1289), _, _, rfl, rfl, (show (0 : Int) < 7 by decide), _, _, rfl, rfl, _, rfl, ?_⟩
    refine iteD (fun c1290 => ?_) (fun c1290 => ?_)
    · have hw := cW_pos c1290 hw
      have r1291 : Rp G (V.non) (encD (encN (()))) := .non
      have hw := cW_ok hw
      exact hK0 _ hw _ _ _ S1288.b0 S1288.g0 S1288.sG S1288.gn r1291
    · have hw := cW_neg c1290 hw
      refine ⟨(by show 0 ≤ sizeLine; decide), fun p1292 n1293 => ?_⟩
      generalize g1294 : upd H1281 p1292 _ = H1295
      obtain ⟨e1296, h1297⟩ := gen_new n1293 g1294
      have h1298 : H1295 p1292 = some (.lst ([])) := h1297
      have fr1299 := S1288.free n1293
      have S1300 := S1288.new n1293 e1296 h1298 fr1299
      have d1301 : RpAll G ([]) ((([] : (List PyData)) : (List PyData)).map encD) := RpAll.nil
      obtain ⟨g1302, hw⟩ := cW_grd hw
      obtain ⟨K1304, hK1305, hw⟩ := cW_push hw
      refine ⟨_, rfl, _, rfl, g1302.1, g1302.2, for_range (lo := 0) (n := Int.toNat (planes')) (fun i σ H' => ∃ (items_1306 : (List PyData)) (vs1307 : List V) (u1308 : Option V) (u1309 : Option V) (u1310 : Option V) (G' : Hp), σ = [some (V.int (cell')), some (V.int (planes')), some (V.ref p1283), some (V.ref p1292), u1308, u1309, u1310] ∧ Same G G' ∧ Sep [] H G G' H' [p1283, p1292] ∧ H' p1283 = some (.lst ((v1280 : (List Int)).map V.int)) ∧ H' p1292 = some (.lst (vs1307)) ∧ RpAll G' (vs1307) ((items_1306 : (List PyData)).map encD) ∧ cW (forS (List.drop i (rng (0) (Int.toNat (planes')))) items_1306 (fun s x => F__law_items_b1 (v1280) s x)) K1304 EE) ?_ ?_ ?_⟩
      · have h1311 := (e1296 _ _ h1286)
        exact ⟨(([] : (List PyData))), _, _, _, _, _, rfl, (Same.refl _), (S1300.sub (all_cons (.tail _ (.head _)) (all_cons (.head _) all_nil))), h1311, h1298, d1301, hw⟩
      · intro i σ H1312 hi hw
        obtain ⟨items_1306, vs1307, u1308, u1309, u1310, G1317, rfl, eG1318, S1313, h1314, h1315, d1316, hw⟩ := hw
        have hw := cW_forS (rng_get hi) hw
        generalize (0 + (i : Int)) = x1319 at hw ⊢
        have hw : cW (F__law_items_b1 (v1280) (items_1306) (x1319)) _ EE := hw
        unfold F__law_items_b1 at hw
        obtain ⟨K1321, hK1322, hw⟩ := cW_name hw
        obtain ⟨g1324, hw⟩ := cW_grd hw
        refine ⟨_, rfl, _, rfl, _, _, _, _, rfl, rfl, (SqL.of h1314), (atI_map g1324), ?_⟩
        have hw := cW_bnd hw
        have r1326 : Rp G1317 (V.non) (encD (encN (()))) := .non
        refine ⟨fun σ H' => ∃ (item_1329 : PyData) (u1330 : V) (G' : Hp), σ = [some (V.int (cell')), some (V.int (planes')), some (V.ref p1283), some (V.ref p1292), some (V.int (x1319)), some (V.int ((itD (v1280) (x1319)))), some u1330] ∧ Same G1317 G' ∧ Sep [] H G G' H' [p1283, p1292] ∧ H' p1283 = some (.lst ((v1280 : (List Int)).map V.int)) ∧ H' p1292 = some (.lst (vs1307)) ∧ Rp G' u1330 (encD item_1329) ∧ cW (F__law_items_k2 (items_1306) item_1329) K1321 EE, ?_, ?_⟩
        · obtain ⟨K1331, hK1332, hw⟩ := cW_push hw
          refine ⟨_, rfl, _, _, rfl, rfl, (show (0 : Int) < 4 by decide), _, _, rfl, rfl, _, rfl, ?_⟩
          refine iteD (fun c1333 => ?_) (fun c1333 => ?_)
          · have hw := cW_pos c1333 hw
            refine ⟨_, rfl, _, _, rfl, rfl, (divW_lit (by decide) (by decide)), _, _, rfl, rfl, (show (0 : Int) < 4 by decide), _, rfl, _, _, rfl, rfl, (divW_lit (by decide) (by decide)), _, _, rfl, rfl, (show (0 : Int) < 15 by decide), _, _, rfl, rfl, _, rfl, _, _, rfl, rfl, (divW_lit (by decide) (by decide)), _, _, rfl, rfl, (show (0 : Int) < 15 by decide), _, _, rfl, rfl, _, rfl, _, _, rfl, rfl, (divW_lit (by decide) (by decide)), _, _, rfl, rfl, (show (0 : Int) < 15 by decide), _, _, rfl, rfl, _, rfl, _, _, rfl, rfl, (divW_lit (by decide) (by decide)), _, _, rfl, rfl, (show (0 : Int) < 15 by decide), _, _, rfl, rfl, (by show 4 ≤ sizeLine; decide), fun p1334 n1335 => ?_⟩
            generalize g1336 : upd H1312 p1334 _ = H1337
            obtain ⟨e1338, h1339⟩ := gen_new n1335 g1336
            have h1340 : H1337 p1334 = some (.lst (([((((itD (v1280) (x1319)) / 16) % 15) - 7), ((((itD (v1280) (x1319)) / 31) % 15) - 7), ((((itD (v1280) (x1319)) / 67) % 15) - 7), ((((itD (v1280) (x1319)) / 131) % 15) - 7)] : (List Int)).map V.int)) := h1339
            have fr1341 := S1313.free n1335
            have S1342 := S1313.new n1335 e1338 h1340 fr1341
            refine ⟨(by show 2 ≤ sizeLine; decide), fun p1343 n1344 => ?_⟩
            generalize g1345 : upd H1337 p1343 _ = H1346
            obtain ⟨e1347, h1348⟩ := gen_new n1344 g1345
            have h1349 : H1346 p1343 = some (.tup [V.int ((((itD (v1280) (x1319)) / 4) % 4)), V.ref p1334]) := h1348
            have fr1350 := S1342.free n1344
            obtain ⟨G1352, eG1353, hg1354, S1351⟩ := S1342.grow n1344 e1347 h1349 fr1350
            have h1355 := (e1347 _ _ h1340)
            obtain ⟨G1356, eG1357, hg1358, S1359⟩ := Sep.freeze (O' := [p1283, p1292]) S1351 (.head _) h1355 fr1341 ((all_cons ⟨(.tail _ (.head _)), (ne_of_none h1314 n1335)⟩ (all_cons ⟨(.tail _ (.tail _ (.head _))), (ne_of_none h1315 n1335)⟩ all_nil)))
            have r1360 : Rp G1356 (V.ref p1343) (encD ((encT2 PyData.int (encL PyData.int)) (((((itD (v1280) (x1319)) / 4) % 4), [((((itD (v1280) (x1319)) / 16) % 15) - 7), ((((itD (v1280) (x1319)) / 31) % 15) - 7), ((((itD (v1280) (x1319)) / 67) % 15) - 7), ((((itD (v1280) (x1319)) / 131) % 15) - 7)])))) := (rp_mk2 (eG1357 _ _ hg1354) (.int _) (rp_mk_ints hg1358))
            have hw := cW_ok hw
            have hw := hK1332 _ hw
            have h1361 := (e1347 _ _ (e1338 _ _ h1314))
            have h1362 := (e1347 _ _ (e1338 _ _ h1315))
            exact ⟨(((encT2 PyData.int (encL PyData.int)) (((((itD (v1280) (x1319)) / 4) % 4), [((((itD (v1280) (x1319)) / 16) % 15) - 7), ((((itD (v1280) (x1319)) / 31) % 15) - 7), ((((itD (v1280) (x1319)) / 67) % 15) - 7), ((((itD (v1280) (x1319)) / 131) % 15) - 7)])))), _, _, rfl, (Same.trans eG1353 eG1357), S1359, h1361, h1362, r1360, hw⟩
          · have hw := cW_neg c1333 hw
            have hw := cW_ok hw
            have hw := hK1332 _ hw
            exact ⟨((encN (()))), _, _, rfl, (Same.refl _), S1313, h1314, h1315, r1326, hw⟩
        · intro σ H1363 hw
          obtain ⟨item_1329, u1330, G1368, rfl, eG1369, S1364, h1365, h1366, r1367, hw⟩ := hw
          unfold F__law_items_k2 at hw
          obtain ⟨g1370, hw⟩ := cW_grd hw
          refine ⟨_, rfl, (.inl ⟨rfl, _, SqL.of h1366⟩), _, rfl, ?_⟩
          refine ⟨_, _, _, rfl, rfl, h1366, (app_len (RpAll.mono eG1369 d1316) g1370), ?_⟩
          generalize g1371 : upd H1363 p1292 _ = H1372
          obtain ⟨x1373, h1374⟩ := gen_mut g1371
          have h1375 : H1372 p1292 = some (.lst (vs1307 ++ [u1330])) := h1374
          have S1376 := S1364.mut1 x1373 (.tail _ (.head _)) h1375
          have d1377 : RpAll G1368 (vs1307 ++ [u1330]) (((items_1306) ++ [item_1329] : (List PyData)).map encD) := app_map (RpAll.mono eG1369 d1316) (RpAll.one r1367)
          have hw := cW_bnd hw
          have hw := cW_ok hw
          have hw := hK1322 _ hw
          have h1379 := (x1373 _ _ h1365 (ne_of_none h1286 n1293))
          exact ⟨((items_1306) ++ [item_1329]), _, _, _, _, _, rfl, (Same.trans eG1318 eG1369), S1376, h1379, h1375, d1377, hw⟩
      · intro σ H1380 hw
        obtain ⟨items_1306, vs1307, u1308, u1309, u1310, G1385, rfl, eG1386, S1381, h1382, h1383, d1384, hw⟩ := hw
        have hw := hK1305 _ (cW_forS0 (rng_len _ _).symm hw)
        have hw : cW (F__law_items_r1  (items_1306)) _ EE := hw
        unfold F__law_items_r1 at hw
        refine ⟨_, rfl, ?_⟩
        obtain ⟨G1388, eG1389, hg1390, S1391⟩ := Sep.freeze (O' := [p1283]) S1381 (.tail _ (.head _)) h1383 fr1299 ((all_cons ⟨(.head _), (ne_of_none h1286 n1293)⟩ all_nil))
        have r1392 : Rp G1388 (V.ref p1292) (encD ((encL encD) (items_1306))) := (rp_mk_list hg1390 (RpAll.mono eG1389 d1384))
        have hw := cW_ok hw
        exact hK0 _ hw _ _ _ S1391.b0 S1391.g0 S1391.sG S1391.gn r1392

abbrev N__law_sign : List Str := ["number"]
theorem sc__law_sign : FnScope N__law_sign ["number"] (defScope s__law_sign) := ⟨rfl, rfl, rfl, by decide +kernel, rfl, by decide +kernel, by decide +kernel⟩
theorem ok__law_sign (D : DefX K mg "_law_sign" s__law_sign ["number"] pats__law_sign) (T : Txt w K mg AD)  : CalX P w K mg base 1 "_law_sign" (sp__law_sign K AD) pats__law_sign := by
  refine D.ok sc__law_sign (fun vs H Q E h => ?_) (fun f cdv A_ outer s H vs Q E hr h => ?_)
  · obtain ⟨G, number', rfl, _⟩ := h
    rfl
  · obtain ⟨G, number', rfl, sG, hw⟩ := h
    refine ⟨_, (pss_cons (ps_if (pt_cmp (pc_gt (pv 0) pe_int)) (pss_one (ps_ret pe_int)) pss_nil)
      (pss_cons (ps_if (pt_cmp (pc_lt (pv 0) pe_int)) (pss_one (ps_ret (pe_un un_neg pe_int))) pss_nil)
      (pss_one (ps_ret pe_int)))), ?_⟩
    obtain ⟨KK, EE, hK0, hE, hw⟩ := cW_gen hw
    have S0 := Sep.startG sG
    unfold F__law_sign at hw
    refine ⟨_, rfl, _, _, rfl, rfl, _, rfl, ?_⟩
    refine iteD (fun c1393 => ?_) (fun c1393 => ?_)
    · have hw := cW_pos c1393 hw
      have hw := cW_ok hw
      exact hK0 _ hw
    · have hw := cW_neg c1393 hw
      refine ⟨_, rfl, _, _, rfl, rfl, _, rfl, ?_⟩
      refine iteD (fun c1394 => ?_) (fun c1394 => ?_)
      · have hw := cW_pos c1394 hw
        refine ⟨_, rfl, ?_⟩
        have hw := cW_ok hw
        exact hK0 _ hw
      · have hw := cW_neg c1394 hw
        have hw := cW_ok hw
        exact hK0 _ hw

abbrev N__law_sample : List Str := ["rows", "x", "y", "item", "unit", "top", "across", "down", "place", "kind", "number"]
theorem sc__law_sample : FnScope N__law_sample ["rows", "x", "y", "item", "unit", "top"] (defScope s__law_sample) := ⟨rfl, rfl, rfl, by decide +kernel, rfl, by decide +kernel, by decide +kernel⟩
theorem ok__law_sample (D : DefX K mg "_law_sample" s__law_sample ["rows", "x", "y", "item", "unit", "top"] pats__law_sample) (T : Txt w K mg AD) (c__law_sign : CalX P w K mg base 1 "_law_sign" (sp__law_sign K AD) pats__law_sign) : CalX P w K mg base 2 "_law_sample" (sp__law_sample K AD) pats__law_sample := by
  refine D.ok sc__law_sample (fun vs H Q E h => ?_) (fun f cdv A_ outer s H vs Q E hr h => ?_)
  · obtain ⟨G, v_rows, rows', x', y', v_item, item', unit', top', rfl, _⟩ := h
    rfl
  · obtain ⟨G, v_rows, rows', x', y', v_item, item', unit', top', rfl, sG, r_rows, r_item, hw⟩ := h
    refine ⟨_, (pss_cons (ps_set (i := 6) sc__law_sample.nd rfl (Or.inl rfl) (pe_ix (ix_listK (K := K)) (pe_lst (pa_cons pe_int (pa_cons pe_int (pa_cons pe_int (pa_cons pe_int pa_nil))))) (pe_ix (ix_tupK (K := K)) (pv 3) pe_int (fun _ _ => rfl)) (fun _ _ => rfl)))
      (pss_cons (ps_set (i := 7) sc__law_sample.nd rfl (Or.inl rfl) (pe_ix (ix_listK (K := K)) (pe_lst (pa_cons pe_int (pa_cons pe_int (pa_cons pe_int (pa_cons (pe_un un_neg pe_int) pa_nil))))) (pe_ix (ix_tupK (K := K)) (pv 3) pe_int (fun _ _ => rfl)) (fun _ _ => rfl)))
      (pss_cons (ps_for (passes_of rfl) rfl (pi_listK (K := K) (pe_lst (pa_cons (pe_tup (pa_cons (pe_op op_sub (pv 1) (pv 6)) (pa_cons (pe_op op_sub (pv 2) (pv 7)) pa_nil))) (pa_cons (pe_tup (pa_cons (pe_op op_add (pv 1) (pv 6)) (pa_cons (pe_op op_add (pv 2) (pv 7)) pa_nil))) pa_nil)))) (pg_name (i := 8) sc__law_sample.nd rfl (Or.inl rfl)) (pss_one (ps_if (PW.pt (pw_or (pt_not (pt_chain op_le op_lt pe_int (pe_ix (ix_tupK (K := K)) (pv 8) pe_int (fun _ _ => rfl)) (pe_callB (call_lenLiK (K := K)) (by rfl) T.b_len (by decide +kernel) (pa_cons (pe_ix (ix_listK (K := K)) (pv 0) pe_int (fun _ _ => rfl)) pa_nil)))) (pw_or1 (pt_not (pt_chain op_le op_lt pe_int (pe_ix (ix_tupK (K := K)) (pv 8) pe_int (fun _ _ => rfl)) (pe_callB (call_lenLK (K := K)) (by rfl) T.b_len (by decide +kernel) (pa_cons (pv 0) pa_nil))))))) (pss_one (ps_ret (pe_ix (ix_listK (K := K)) (pe_ix (ix_listK (K := K)) (pv 0) (pv 2) (fun _ _ => rfl)) (pv 1) (fun _ _ => rfl)))) pss_nil)))
      (pss_cons (ps_set (i := 9) sc__law_sample.nd rfl (Or.inl rfl) (pe_op op_add (vx_callX c__law_sign pat__law_sign_0 (.head _) hr (by decide) (takes_of rfl rfl rfl rfl) rfl (pa_cons (pe_op op_sub (pe_ix (ix_listK (K := K)) (pe_ix (ix_listK (K := K)) (pv 0) (pv 2) (fun _ _ => rfl)) (pv 1) (fun _ _ => rfl)) (pe_ix (ix_listK (K := K)) (pe_ix (ix_listK (K := K)) (pv 0) (pe_op op_sub (pv 2) (pv 7)) (fun _ _ => rfl)) (pe_op op_sub (pv 1) (pv 6)) (fun _ _ => rfl))) pa_nil) pk_nil) (vx_callX c__law_sign pat__law_sign_0 (.head _) hr (by decide) (takes_of rfl rfl rfl rfl) rfl (pa_cons (pe_op op_sub (pe_ix (ix_listK (K := K)) (pe_ix (ix_listK (K := K)) (pv 0) (pv 2) (fun _ _ => rfl)) (pv 1) (fun _ _ => rfl)) (pe_ix (ix_listK (K := K)) (pe_ix (ix_listK (K := K)) (pv 0) (pe_op op_add (pv 2) (pv 7)) (fun _ _ => rfl)) (pe_op op_add (pv 1) (pv 6)) (fun _ _ => rfl))) pa_nil) pk_nil)))
      (pss_cons (ps_if (pt_cmp (pc_eqI (pv 9) pe_int)) (pss_one (ps_ret (pe_ix (ix_listK (K := K)) (pe_ix (ix_listK (K := K)) (pv 0) (pv 2) (fun _ _ => rfl)) (pv 1) (fun _ _ => rfl)))) pss_nil)
      (pss_cons (ps_set (i := 10) sc__law_sample.nd rfl (Or.inl rfl) (pe_ix (ix_listK (K := K)) (pe_ix (ix_tupK (K := K)) (pv 3) pe_int (fun _ _ => rfl)) (pe_ix (ix_listK (K := K)) (pe_lst (pa_cons pe_int (pa_cons pe_int (pa_cons pe_int (pa_cons pe_int (pa_cons pe_int pa_nil)))))) (pe_op op_add (pv 9) pe_int) (fun _ _ => rfl)) (fun _ _ => rfl)))
      (pss_one (ps_ret (pe_callB (call_max2 rfl) (by rfl) T.b_max (by decide +kernel) (pa_cons pe_int (pa_cons (pe_callB (call_min2 rfl) (by rfl) T.b_min (by decide +kernel) (pa_cons (pv 5) (pa_cons (pe_op op_add (pe_ix (ix_listK (K := K)) (pe_ix (ix_listK (K := K)) (pv 0) (pv 2) (fun _ _ => rfl)) (pv 1) (fun _ _ => rfl)) (pe_op op_mul (pv 10) (pv 4))) pa_nil))) pa_nil))))))))))), ?_⟩
    obtain ⟨KK, EE, hK0, hE, hw⟩ := cW_gen hw
    have S0 := Sep.startG sG
    unfold F__law_sample at hw
    obtain ⟨a1395, vs1396, rfl, h1397, d1398⟩ := rp_list r_rows
    obtain ⟨a1399, v1401, v1402, rfl, h1400, r1403, r1404⟩ := rp_tup2 r_item
    obtain rfl := rp_int r1403
    obtain ⟨a1405, rfl, h1406⟩ := rp_ints r1404
    refine ⟨(by show 4 ≤ sizeLine; decide), fun p1407 n1408 => ?_⟩
    generalize g1409 : upd H p1407 _ = H1410
    obtain ⟨e1411, h1412⟩ := gen_new n1408 g1409
    have h1413 : H1410 p1407 = some (.lst (([1, 0, 1, 1] : (List Int)).map V.int)) := h1412
    have fr1414 := S0.free n1408
    have S1415 := S0.new n1408 e1411 h1413 fr1414
    obtain ⟨g1416, hw⟩ := cW_grd hw
    refine ⟨_, rfl, _, _, _, _, rfl, rfl, (SqT.of (S1415.bM _ _ h1400)), rfl, _, _, _, _, rfl, rfl, (SqL.of h1413), (atI_map g1416), ?_⟩
    have hw := cW_bnd hw
    refine ⟨_, rfl, (by show 4 ≤ sizeLine; decide), fun p1418 n1419 => ?_⟩
    generalize g1420 : upd H1410 p1418 _ = H1421
    obtain ⟨e1422, h1423⟩ := gen_new n1419 g1420
    have h1424 : H1421 p1418 = some (.lst (([0, 1, 1, (-1)] : (List Int)).map V.int)) := h1423
    have fr1425 := S1415.free n1419
    have S1426 := S1415.new n1419 e1422 h1424 fr1425
    obtain ⟨g1427, hw⟩ := cW_grd hw
    refine ⟨_, rfl, _, _, _, _, rfl, rfl, (SqT.of (S1426.bM _ _ h1400)), rfl, _, _, _, _, rfl, rfl, (SqL.of h1424), (atI_map g1427), ?_⟩
    have hw := cW_bnd hw
    refine ⟨_, rfl, _, rfl, _, _, rfl, rfl, _, rfl, _, rfl, _, _, rfl, rfl, (by show 2 ≤ sizeLine; decide), fun p1429 n1430 => ?_⟩
    generalize g1431 : upd H1421 p1429 _ = H1432
    obtain ⟨e1433, h1434⟩ := gen_new n1430 g1431
    have h1435 : H1432 p1429 = some (.tup [V.int ((x' - (itD ([1, 0, 1, 1]) (item'.1)))), V.int ((y' - (itD ([0, 1, 1, (-1)]) (item'.1))))]) := h1434
    have fr1436 := S1426.free n1430
    obtain ⟨G1438, eG1439, hg1440, S1437⟩ := S1426.grow n1430 e1433 h1435 fr1436
    refine ⟨_, rfl, _, rfl, _, _, rfl, rfl, _, rfl, _, rfl, _, _, rfl, rfl, (by show 2 ≤ sizeLine; decide), fun p1441 n1442 => ?_⟩
    generalize g1443 : upd H1432 p1441 _ = H1444
    obtain ⟨e1445, h1446⟩ := gen_new n1442 g1443
    have h1447 : H1444 p1441 = some (.tup [V.int ((x' + (itD ([1, 0, 1, 1]) (item'.1)))), V.int ((y' + (itD ([0, 1, 1, (-1)]) (item'.1))))]) := h1446
    have fr1448 := S1437.free n1442
    obtain ⟨G1450, eG1451, hg1452, S1449⟩ := S1437.grow n1442 e1445 h1447 fr1448
    refine ⟨(by show 2 ≤ sizeLine; decide), fun p1453 n1454 => ?_⟩
    generalize g1455 : upd H1444 p1453 _ = H1456
    obtain ⟨e1457, h1458⟩ := gen_new n1454 g1455
    have h1459 : H1456 p1453 = some (.lst ([V.ref p1429, V.ref p1441])) := h1458
    have fr1460 := S1449.free n1454
    have S1461 := S1449.new n1454 e1457 h1459 fr1460
    have d1462 : RpAll G1450 ([V.ref p1429, V.ref p1441]) (([((x' - (itD ([1, 0, 1, 1]) (item'.1))), (y' - (itD ([0, 1, 1, (-1)]) (item'.1)))), ((x' + (itD ([1, 0, 1, 1]) (item'.1))), (y' + (itD ([0, 1, 1, (-1)]) (item'.1))))] : (List (Int × Int))).map (encT2 PyData.int PyData.int)) := (RpAll.cons (rp_mk2 (eG1451 _ _ hg1440) (.int _) (.int _)) (RpAll.cons (rp_mk2 hg1452 (.int _) (.int _)) RpAll.nil))
    obtain ⟨K1474, hK1475, hw⟩ := cW_push hw
    refine ⟨_, rfl, ⟨_, (SqL.of h1459)⟩, for_list (K := K) (a := p1453) (xs := [V.ref p1429, V.ref p1441]) (fun i σ H' => ∃ (u1476 : Option V) (G' : Hp), σ = [some (V.ref a1395), some (V.int (x')), some (V.int (y')), some (V.ref a1399), some (V.int (unit')), some (V.int (top')), some (V.int ((itD ([1, 0, 1, 1]) (item'.1)))), some (V.int ((itD ([0, 1, 1, (-1)]) (item'.1)))), u1476, none, none] ∧ Same G1450 G' ∧ Sep [] H G G' H' [p1453] ∧ H' p1453 = some (.lst ([V.ref p1429, V.ref p1441])) ∧ cW (forR (List.drop i ([((x' - (itD ([1, 0, 1, 1]) (item'.1))), (y' - (itD ([0, 1, 1, (-1)]) (item'.1)))), ((x' + (itD ([1, 0, 1, 1]) (item'.1))), (y' + (itD ([0, 1, 1, (-1)]) (item'.1))))])) () (fun s x => F__law_sample_b1 (rows') (x') (y')  x)) K1474 EE) ?_ ?_ ?_ ?_⟩
    · exact ⟨_, _, rfl, (Same.refl _), (S1461.sub (all_cons (.head _) all_nil)), h1459, hw⟩
    · intro i σ H1477 _ hw
      obtain ⟨u1476, G1480, rfl, eG1481, S1478, h1479, hw⟩ := hw
      exact (SqL.of h1479)
    · intro i x σ H1482 hj hw
      obtain ⟨u1476, G1485, rfl, eG1486, S1483, h1484, hw⟩ := hw
      obtain ⟨x1487, hx, r1488⟩ := RpAll.get (RpAll.mono eG1486 d1462) hj
      obtain ⟨a1489, v1491, v1492, rfl, h1490, r1493, r1494⟩ := rp_tup2 r1488
      obtain rfl := rp_int r1493
      obtain rfl := rp_int r1494
      have hw := cW_forR hx hw
      have hw : cW (F__law_sample_b1 (rows') (x') (y')  (x1487)) _ EE := hw
      unfold F__law_sample_b1 at hw
      obtain ⟨K1495, hK1496, hw⟩ := cW_name hw
      refine ⟨_, rfl, _, _, _, _, rfl, rfl, (SqT.of (S1483.sG _ _ h1490)), rfl, _, _, rfl, rfl, _, rfl, ?_⟩
      refine iteD (fun c1498 => ?_) (fun c1498 => ?_)
      · have hw := cW_pos c1498 hw
        obtain ⟨g1499, hw⟩ := cW_grd hw
        obtain ⟨v1500, a1501, r1502⟩ := RpAll.ixD (k := 0) d1398 g1499
        obtain ⟨a1503, rfl, h1504⟩ := rp_ints r1502
        refine ⟨_, rfl, _, _, _, _, rfl, rfl, (SqL.of (S1483.bM _ _ h1397)), a1501, _, _, rfl, (SqL.of (S1483.bM _ _ h1504)), _, _, rfl, rfl, _, rfl, ?_⟩
        refine iteN (fun c1505 => ?_) (fun c1505 => ?_)
        · have hw := cW_neg c1505 hw
          refine iteT ?_
          obtain ⟨g1506, hw⟩ := cW_grd hw
          obtain ⟨v1507, a1508, r1509⟩ := RpAll.ixD (k := y') d1398 g1506
          obtain ⟨a1510, rfl, h1511⟩ := rp_ints r1509
          obtain ⟨g1512, hw⟩ := cW_grd hw
          refine ⟨_, rfl, _, rfl, _, _, _, _, rfl, rfl, (SqL.of (S1483.bM _ _ h1397)), a1508, _, rfl, _, _, _, _, rfl, rfl, (SqL.of (S1483.bM _ _ h1511)), (atI_map g1512), ?_⟩
          have hw := cW_ok hw
          have hw := hK1496 (.rt _) hw
          have hw := hK1475 (.rt _) hw
          have hw := cW_ok hw
          exact hK0 _ hw _ S1483.b0
        · have hw := cW_pos c1505 hw
          refine ⟨_, rfl, _, _, _, _, rfl, rfl, (SqT.of (S1483.sG _ _ h1490)), rfl, _, _, rfl, rfl, _, rfl, ?_⟩
          refine iteD (fun c1513 => ?_) (fun c1513 => ?_)
          · have hw := cW_pos c1513 hw
            refine ⟨_, rfl, _, _, _, rfl, (SqL.of (S1483.bM _ _ h1397)), (by rw [d1398.len, List.length_map]), _, _, rfl, rfl, _, rfl, ?_⟩
            refine iteN (fun c1514 => ?_) (fun c1514 => ?_)
            · have hw := cW_neg c1514 hw
              obtain ⟨g1515, hw⟩ := cW_grd hw
              obtain ⟨v1516, a1517, r1518⟩ := RpAll.ixD (k := y') d1398 g1515
              obtain ⟨a1519, rfl, h1520⟩ := rp_ints r1518
              obtain ⟨g1521, hw⟩ := cW_grd hw
              refine ⟨_, rfl, _, rfl, _, _, _, _, rfl, rfl, (SqL.of (S1483.bM _ _ h1397)), a1517, _, rfl, _, _, _, _, rfl, rfl, (SqL.of (S1483.bM _ _ h1520)), (atI_map g1521), ?_⟩
              have hw := cW_ok hw
              have hw := hK1496 (.rt _) hw
              have hw := hK1475 (.rt _) hw
              have hw := cW_ok hw
              exact hK0 _ hw _ S1483.b0
            · have hw := cW_pos c1514 hw
              have hw := cW_ok hw
              have hw := hK1496 _ hw
              exact ⟨_, _, rfl, eG1486, S1483, h1484, hw⟩
          · have hw := cW_neg c1513 hw
            refine ⟨_, rfl, ?_⟩
            refine iteT ?_
            obtain ⟨g1522, hw⟩ := cW_grd hw
            obtain ⟨v1523, a1524, r1525⟩ := RpAll.ixD (k := y') d1398 g1522
            obtain ⟨a1526, rfl, h1527⟩ := rp_ints r1525
            obtain ⟨g1528, hw⟩ := cW_grd hw
            refine ⟨_, rfl, _, rfl, _, _, _, _, rfl, rfl, (SqL.of (S1483.bM _ _ h1397)), a1524, _, rfl, _, _, _, _, rfl, rfl, (SqL.of (S1483.bM _ _ h1527)), (atI_map g1528), ?_⟩
            have hw := cW_ok hw
            have hw := hK1496 (.rt _) hw
            have hw := hK1475 (.rt _) hw
            have hw := cW_ok hw
            exact hK0 _ hw _ S1483.b0
      · have hw := cW_neg c1498 hw
        refine ⟨_, rfl, ?_⟩
        refine iteT ?_
        refine iteT ?_
        obtain ⟨g1529, hw⟩ := cW_grd hw
        obtain ⟨v1530, a1531, r1532⟩ := RpAll.ixD (k := y') d1398 g1529
        obtain ⟨a1533, rfl, h1534⟩ := rp_ints r1532
        obtain ⟨g1535, hw⟩ := cW_grd hw
        refine ⟨_, rfl, _, rfl, _, _, _, _, rfl, rfl, (SqL.of (S1483.bM _ _ h1397)), a1531, _, rfl, _, _, _, _, rfl, rfl, (SqL.of (S1483.bM _ _ h1534)), (atI_map g1535), ?_⟩
        have hw := cW_ok hw
        have hw := hK1496 (.rt _) hw
        have hw := hK1475 (.rt _) hw
        have hw := cW_ok hw
        exact hK0 _ hw _ S1483.b0
    · intro σ H1536 hw
      obtain ⟨u1476, G1539, rfl, eG1540, S1537, h1538, hw⟩ := hw
      have hw := cW_aftgo (hK1475 _ (cW_forR0 (by rw [(RpAll.mono eG1540 d1462).len, List.length_map]) hw))
      have hw : cW (F__law_sample_r1 (rows') (x') (y') (item') (unit') (top') ((itD ([1, 0, 1, 1]) (item'.1))) ((itD ([0, 1, 1, (-1)]) (item'.1))) ) _ EE := hw
      unfold F__law_sample_r1 at hw
      obtain ⟨g1541, hw⟩ := cW_grd hw
      obtain ⟨v1542, a1543, r1544⟩ := RpAll.ixD (k := y') d1398 g1541
      obtain ⟨a1545, rfl, h1546⟩ := rp_ints r1544
      obtain ⟨g1547, hw⟩ := cW_grd hw
      obtain ⟨g1548, hw⟩ := cW_grd hw
      obtain ⟨v1549, a1550, r1551⟩ := RpAll.ixD (k := (y' - (itD ([0, 1, 1, (-1)]) (item'.1)))) d1398 g1548
      obtain ⟨a1552, rfl, h1553⟩ := rp_ints r1551
      obtain ⟨g1554, hw⟩ := cW_grd hw
      refine ⟨_, rfl, _, rfl, _, _, _, _, rfl, rfl, (SqL.of (S1537.bM _ _ h1397)), a1543, _, rfl, _, _, _, _, rfl, rfl, (SqL.of (S1537.bM _ _ h1546)), (atI_map g1547), _, rfl, _, rfl, _, rfl, _, _, rfl, rfl, _, _, _, _, rfl, rfl, (SqL.of (S1537.bM _ _ h1397)), a1550, _, rfl, _, rfl, _, _, rfl, rfl, _, _, _, _, rfl, rfl, (SqL.of (S1537.bM _ _ h1553)), (atI_map g1554), _, _, rfl, rfl, rfl, rfl, G1539, _, rfl, S1537.sG, cW_call hw (fun v1555 hw => ?_) (fun e he => hE e he _ S1537.b0)⟩
      obtain ⟨g1556, hw⟩ := cW_grd hw
      obtain ⟨v1557, a1558, r1559⟩ := RpAll.ixD (k := y') d1398 g1556
      obtain ⟨a1560, rfl, h1561⟩ := rp_ints r1559
      obtain ⟨g1562, hw⟩ := cW_grd hw
      obtain ⟨g1563, hw⟩ := cW_grd hw
      obtain ⟨v1564, a1565, r1566⟩ := RpAll.ixD (k := (y' + (itD ([0, 1, 1, (-1)]) (item'.1)))) d1398 g1563
      obtain ⟨a1567, rfl, h1568⟩ := rp_ints r1566
      obtain ⟨g1569, hw⟩ := cW_grd hw
      refine ⟨_, rfl, _, rfl, _, _, _, _, rfl, rfl, (SqL.of (S1537.bM _ _ h1397)), a1558, _, rfl, _, _, _, _, rfl, rfl, (SqL.of (S1537.bM _ _ h1561)), (atI_map g1562), _, rfl, _, rfl, _, rfl, _, _, rfl, rfl, _, _, _, _, rfl, rfl, (SqL.of (S1537.bM _ _ h1397)), a1565, _, rfl, _, rfl, _, _, rfl, rfl, _, _, _, _, rfl, rfl, (SqL.of (S1537.bM _ _ h1568)), (atI_map g1569), _, _, rfl, rfl, rfl, rfl, G1539, _, rfl, S1537.sG, cW_call hw (fun v1570 hw => ?_) (fun e he => hE e he _ S1537.b0)⟩
      refine ⟨_, _, rfl, rfl, ?_⟩
      have hw := cW_bnd hw
      refine ⟨_, rfl, _, _, rfl, rfl, _, rfl, ?_⟩
      refine iteD (fun c1572 => ?_) (fun c1572 => ?_)
      · have hw := cW_pos c1572 hw
        obtain ⟨g1573, hw⟩ := cW_grd hw
        obtain ⟨v1574, a1575, r1576⟩ := RpAll.ixD (k := y') d1398 g1573
        obtain ⟨a1577, rfl, h1578⟩ := rp_ints r1576
        obtain ⟨g1579, hw⟩ := cW_grd hw
        refine ⟨_, rfl, _, rfl, _, _, _, _, rfl, rfl, (SqL.of (S1537.bM _ _ h1397)), a1575, _, rfl, _, _, _, _, rfl, rfl, (SqL.of (S1537.bM _ _ h1578)), (atI_map g1579), ?_⟩
        have hw := cW_ok hw
        exact hK0 _ hw _ S1537.b0
      · have hw := cW_neg c1572 hw
        refine ⟨_, rfl, _, _, _, _, rfl, rfl, (SqT.of (S1537.bM _ _ h1400)), rfl, (by show 5 ≤ sizeLine; decide), fun p1580 n1581 => ?_⟩
        generalize g1582 : upd H1536 p1580 _ = H1583
        obtain ⟨e1584, h1585⟩ := gen_new n1581 g1582
        have h1586 : H1583 p1580 = some (.lst (([0, 1, 4, 2, 3] : (List Int)).map V.int)) := h1585
        have fr1587 := S1537.free n1581
        have S1588 := S1537.new n1581 e1584 h1586 fr1587
        obtain ⟨g1589, hw⟩ := cW_grd hw
        obtain ⟨g1590, hw⟩ := cW_grd hw
        refine ⟨_, rfl, _, _, rfl, rfl, _, _, _, _, rfl, rfl, (SqL.of h1586), (atI_map g1589), _, _, _, _, rfl, rfl, (SqL.of (S1588.bM _ _ h1406)), (atI_map g1590), ?_⟩
        have hw := cW_bnd hw
        obtain ⟨g1592, hw⟩ := cW_grd hw
        obtain ⟨v1593, a1594, r1595⟩ := RpAll.ixD (k := y') d1398 g1592
        obtain ⟨a1596, rfl, h1597⟩ := rp_ints r1595
        obtain ⟨g1598, hw⟩ := cW_grd hw
        obtain ⟨g1599, hw⟩ := cW_grd hw
        refine ⟨_, rfl, _, rfl, _, rfl, _, _, _, _, rfl, rfl, (SqL.of (S1588.bM _ _ h1397)), a1594, _, rfl, _, _, _, _, rfl, rfl, (SqL.of (S1588.bM _ _ h1597)), (atI_map g1598), _, rfl, _, rfl, _, _, rfl, rfl, g1599, _, _, rfl, rfl, _, _, rfl, _, _, rfl, ?_⟩
        have hw := cW_ok hw
        exact hK0 _ hw _ S1588.b0

abbrev N__law_due : List Str := ["rows", "small", "high", "offsets", "plane", "unit", "top", "out", "y", "items", "x"]
theorem sc__law_due : FnScope N__law_due ["rows", "small", "high", "offsets", "plane", "unit", "top"] (defScope s__law_due) := ⟨rfl, rfl, rfl, by decide +kernel, rfl, by decide +kernel, by decide +kernel⟩
theorem ok__law_due (D : DefX K mg "_law_due" s__law_due ["rows", "small", "high", "offsets", "plane", "unit", "top"] pats__law_due) (T : Txt w K mg AD) (c__law_sample : CalX P w K mg base 2 "_law_sample" (sp__law_sample K AD) pats__law_sample) : CalX P w K mg base 3 "_law_due" (sp__law_due K AD) pats__law_due := by
  refine D.ok sc__law_due (fun vs H Q E h => ?_) (fun f cdv A_ outer s H vs Q E hr h => ?_)
  · obtain ⟨G, v_rows, rows', small', high', v_offsets, offsets', plane', unit', top', rfl, _⟩ := h
    rfl
  · obtain ⟨G, v_rows, rows', small', high', v_offsets, offsets', plane', unit', top', rfl, sG, r_rows, r_offsets, hw⟩ := h
    refine ⟨_, (pss_cons (ps_set (i := 7) sc__law_due.nd rfl (Or.inl rfl) (pe_lst pa_nil))
      (pss_cons (ps_for (passes_of rfl) rfl (pi_range1 rfl T.b_range (pa_cons (pe_callB (call_lenLK (K := K)) (by rfl) T.b_len (by decide +kernel) (pa_cons (pv 0) pa_nil)) pa_nil)) (pg_name (i := 8) sc__law_due.nd rfl (Or.inr rfl)) (pss_cons (ps_set (i := 9) sc__law_due.nd rfl (Or.inr rfl) (pe_ix (ix_listK (K := K)) (pv 3) (pe_op op_fdivW (pe_op op_fdivW (pv 8) (pv 1)) (pv 2)) (fun _ _ => rfl)))
      (pss_one (ps_if (PW.pt (pw_or (pt_cmpR op_isND (pv 9) pe_non (nomark _)) (pw_or1 (pt_cmpR op_isND (pe_ix (ix_listK (K := K)) (pv 9) (pv 4) (fun _ _ => rfl)) pe_non (nomark _))))) (pss_one (ps_expr (pe_bm PySem.F.plainAttrs_list PySem.F.slot_list_append PySem.F.type_list_append mt_append (pv 7) (pa_cons (pe_callTy (call_listLK (K := K)) (by rfl) T.b_list (by decide +kernel) (pa_cons (pe_ix (ix_listK (K := K)) (pv 0) (pv 8) (fun _ _ => rfl)) pa_nil)) pa_nil)))) (pss_one (ps_expr (pe_bm PySem.F.plainAttrs_list PySem.F.slot_list_append PySem.F.type_list_append mt_append (pv 7) (pa_cons (pe_lc (own := [("x", 10)]) (g := gName 10) (by rfl) sc__law_due.nd (pi_range1 rfl T.b_range (pa_cons (pe_callB (call_lenLiK (K := K)) (by rfl) T.b_len (by decide +kernel) (pa_cons (pe_ix (ix_listK (K := K)) (pv 0) (pv 8) (fun _ _ => rfl)) pa_nil)) pa_nil)) (blkOk_by (own := [("x", 10)]) (N := N__law_due) (sc := defScope s__law_due) (by decide +kernel)) (fun _ _ _ _ _ => (pg_name (i := 10) sc__law_due.nd rfl (Or.inl rfl))) (fun _ _ _ _ _ => pts_nil) (fun _ _ _ _ _ => (vx_callX c__law_sample pat__law_sample_0 (.head _) hr (by decide) takes0 rfl (pa_cons (pv 0) (pa_cons (pv 10) (pa_cons (pv 8) (pa_cons (pe_ix (ix_listK (K := K)) (pv 9) (pv 4) (fun _ _ => rfl)) (pa_cons (pv 5) (pa_cons (pv 6) pa_nil)))))) pk_nil))) pa_nil))))))))
      (pss_one (ps_ret (pv 7))))), ?_⟩
    obtain ⟨KK, EE, hK0, hE, hw⟩ := cW_gen hw
    have S0 := Sep.startG sG
    unfold F__law_due at hw
    obtain ⟨a1600, vs1601, rfl, h1602, d1603⟩ := rp_list r_rows
    obtain ⟨a1604, vs1605, rfl, h1606, d1607⟩ := rp_list r_offsets
    refine ⟨(by show 0 ≤ sizeLine; decide), fun p1608 n1609 => ?_⟩
    generalize g1610 : upd H p1608 _ = H1611
    obtain ⟨e1612, h1613⟩ := gen_new n1609 g1610
    have h1614 : H1611 p1608 = some (.lst ([])) := h1613
    have fr1615 := S0.free n1609
    have S1616 := S0.new n1609 e1612 h1614 fr1615
    have d1617 : RpAll G ([]) ((([] : (List (List Int))) : (List (List Int))).map (encL PyData.int)) := RpAll.nil
    obtain ⟨g1618, hw⟩ := cW_grd hw
    obtain ⟨K1626, hK1627, hw⟩ := cW_push hw
    refine ⟨_, rfl, _, _, _, rfl, (SqL.of (S1616.bM _ _ h1602)), (by rw [d1603.len, List.length_map]), _, rfl, g1618.1, g1618.2, for_range (lo := 0) (n := Int.toNat ((((rows') : (List (List Int))).length : Int))) (fun i σ H' => ∃ (out_1628 : (List (List Int))) (vs1629 : List V) (u1630 : Option V) (u1631 : Option V) (G' : Hp), σ = [some (V.ref a1600), some (V.int (small')), some (V.int (high')), some (V.ref a1604), some (V.int (plane')), some (V.int (unit')), some (V.int (top')), some (V.ref p1608), u1630, u1631, none] ∧ Same G G' ∧ Sep [] H G G' H' [p1608] ∧ H' p1608 = some (.lst (vs1629)) ∧ RpAll G' (vs1629) ((out_1628 : (List (List Int))).map (encL PyData.int)) ∧ cW (forS (List.drop i (rng (0) (Int.toNat ((((rows') : (List (List Int))).length : Int))))) out_1628 (fun s x => F__law_due_b1 (rows') (small') (high') (offsets') (plane') (unit') (top') s x)) K1626 EE) ?_ ?_ ?_⟩
    · exact ⟨(([] : (List (List Int)))), _, _, _, _, rfl, (Same.refl _), S1616, h1614, d1617, hw⟩
    · intro i σ H1632 hi hw
      obtain ⟨out_1628, vs1629, u1630, u1631, G1636, rfl, eG1637, S1633, h1634, d1635, hw⟩ := hw
      have hw := cW_forS (rng_get hi) hw
      generalize (0 + (i : Int)) = x1638 at hw ⊢
      have hw : cW (F__law_due_b1 (rows') (small') (high') (offsets') (plane') (unit') (top') (out_1628) (x1638)) _ EE := hw
      unfold F__law_due_b1 at hw
      obtain ⟨K1640, hK1641, hw⟩ := cW_name hw
      obtain ⟨g1643, hw⟩ := cW_grd hw
      obtain ⟨g1644, hw⟩ := cW_grd hw
      obtain ⟨g1645, hw⟩ := cW_grd hw
      obtain ⟨v1646, a1647, r1648⟩ := RpAll.ixD (k := ((x1638 / small') / high')) d1607 g1645
      refine ⟨_, rfl, _, rfl, _, rfl, _, _, rfl, rfl, (divW_small g1643.1 g1643.2), _, rfl, _, _, rfl, rfl, (divW_small g1644.1 g1644.2), _, _, _, _, rfl, rfl, (SqL.of (S1633.bM _ _ h1606)), a1647, _, rfl, (itD (offsets') (((x1638 / small') / high'))), rfl, (Rp.mono S1633.bM r1648), _, rfl, ?_⟩
      refine iteB (fun c1649 => ?_) (fun c1649 => ?_)
      · have hw := cW_pos c1649 hw
        refine iteT ?_
        obtain ⟨g1650, hw⟩ := cW_grd hw
        obtain ⟨v1651, a1652, r1653⟩ := RpAll.ixD (k := x1638) d1603 g1650
        obtain ⟨a1654, rfl, h1655⟩ := rp_ints r1653
        refine ⟨_, rfl, (.inl ⟨rfl, _, SqL.of h1634⟩), _, rfl, _, rfl, _, _, _, _, rfl, rfl, (SqL.of (S1633.bM _ _ h1602)), a1652, _, _, rfl, (SqL.of (S1633.bM _ _ h1655)), fun p1656 n1657 => ?_⟩
        generalize g1658 : upd H1632 p1656 _ = H1659
        obtain ⟨e1660, h1661⟩ := gen_new n1657 g1658
        have h1662 : H1659 p1656 = some (.lst (((itD (rows') (x1638)) : (List Int)).map V.int)) := h1661
        have fr1663 := S1633.free n1657
        have S1664 := S1633.new n1657 e1660 h1662 fr1663
        obtain ⟨g1665, hw⟩ := cW_grd hw
        have h1666 := (e1660 _ _ h1634)
        obtain ⟨G1667, eG1668, hg1669, S1670⟩ := Sep.freeze (O' := [p1608]) S1664 (.head _) h1662 fr1663 ((all_cons ⟨(.tail _ (.head _)), (ne_of_none h1634 n1657)⟩ all_nil))
        refine ⟨_, _, _, rfl, rfl, h1666, (app_len (RpAll.mono eG1668 d1635) g1665), ?_⟩
        generalize g1671 : upd H1659 p1608 _ = H1672
        obtain ⟨x1673, h1674⟩ := gen_mut g1671
        have h1675 : H1672 p1608 = some (.lst (vs1629 ++ [V.ref p1656])) := h1674
        have S1676 := S1670.mut1 x1673 (.head _) h1675
        have d1677 : RpAll G1667 (vs1629 ++ [V.ref p1656]) (((out_1628) ++ [(itD (rows') (x1638))] : (List (List Int))).map (encL PyData.int)) := app_map (RpAll.mono eG1668 d1635) (RpAll.one (rp_mk_ints hg1669))
        have hw := cW_bnd hw
        have hw := cW_ok hw
        have hw := hK1641 _ hw
        exact ⟨((out_1628) ++ [(itD (rows') (x1638))]), _, _, _, _, rfl, (Same.trans eG1637 eG1668), S1676, h1675, d1677, hw⟩
      · have hw := cW_negB c1649 hw
        obtain ⟨g1679, hw⟩ := cW_grd hw
        have r1680 : Rp (hideL [] H) v1646 ((encL encD) (((cL cD)).dec ((itD (offsets') (((x1638 / small') / high')))))) := rp_dcast (cL cD) g1679 r1648
        obtain ⟨a1681, vs1682, rfl, h1683, d1684⟩ := rp_list r1680
        obtain ⟨g1685, hw⟩ := cW_grd hw
        obtain ⟨v1686, a1687, r1688⟩ := RpAll.ixD (k := plane') d1684 g1685
        refine ⟨_, rfl, _, rfl, _, _, _, _, rfl, rfl, (SqL.of (S1633.bM _ _ h1683)), a1687, (itD ((((cL cD)).dec ((itD (offsets') (((x1638 / small') / high')))))) (plane')), rfl, (Rp.mono S1633.bM r1688), _, rfl, ?_⟩
        refine iteB (fun c1689 => ?_) (fun c1689 => ?_)
        · have hw := cW_pos c1689 hw
          obtain ⟨g1690, hw⟩ := cW_grd hw
          obtain ⟨v1691, a1692, r1693⟩ := RpAll.ixD (k := x1638) d1603 g1690
          obtain ⟨a1694, rfl, h1695⟩ := rp_ints r1693
          refine ⟨_, rfl, (.inl ⟨rfl, _, SqL.of h1634⟩), _, rfl, _, rfl, _, _, _, _, rfl, rfl, (SqL.of (S1633.bM _ _ h1602)), a1692, _, _, rfl, (SqL.of (S1633.bM _ _ h1695)), fun p1696 n1697 => ?_⟩
          generalize g1698 : upd H1632 p1696 _ = H1699
          obtain ⟨e1700, h1701⟩ := gen_new n1697 g1698
          have h1702 : H1699 p1696 = some (.lst (((itD (rows') (x1638)) : (List Int)).map V.int)) := h1701
          have fr1703 := S1633.free n1697
          have S1704 := S1633.new n1697 e1700 h1702 fr1703
          obtain ⟨g1705, hw⟩ := cW_grd hw
          have h1706 := (e1700 _ _ h1634)
          obtain ⟨G1707, eG1708, hg1709, S1710⟩ := Sep.freeze (O' := [p1608]) S1704 (.head _) h1702 fr1703 ((all_cons ⟨(.tail _ (.head _)), (ne_of_none h1634 n1697)⟩ all_nil))
          refine ⟨_, _, _, rfl, rfl, h1706, (app_len (RpAll.mono eG1708 d1635) g1705), ?_⟩
          generalize g1711 : upd H1699 p1608 _ = H1712
          obtain ⟨x1713, h1714⟩ := gen_mut g1711
          have h1715 : H1712 p1608 = some (.lst (vs1629 ++ [V.ref p1696])) := h1714
          have S1716 := S1710.mut1 x1713 (.head _) h1715
          have d1717 : RpAll G1707 (vs1629 ++ [V.ref p1696]) (((out_1628) ++ [(itD (rows') (x1638))] : (List (List Int))).map (encL PyData.int)) := app_map (RpAll.mono eG1708 d1635) (RpAll.one (rp_mk_ints hg1709))
          have hw := cW_bnd hw
          have hw := cW_ok hw
          have hw := hK1641 _ hw
          exact ⟨((out_1628) ++ [(itD (rows') (x1638))]), _, _, _, _, rfl, (Same.trans eG1637 eG1708), S1716, h1715, d1717, hw⟩
        · have hw := cW_negB c1689 hw
          obtain ⟨g1719, hw⟩ := cW_grd hw
          obtain ⟨v1720, a1721, r1722⟩ := RpAll.ixD (k := x1638) d1603 g1719
          obtain ⟨a1723, rfl, h1724⟩ := rp_ints r1722
          obtain ⟨g1725, hw⟩ := cW_grd hw
          obtain ⟨K1733, hK1734, hw⟩ := cW_push hw
          refine ⟨_, rfl, (.inl ⟨rfl, _, SqL.of h1634⟩), _, rfl, _, rfl, _, _, _, _, rfl, rfl, (SqL.of (S1633.bM _ _ h1602)), a1721, _, _, rfl, (SqL.of (S1633.bM _ _ h1724)), _, rfl, g1725.1, g1725.2, fun D1735 n1736 => lc_range (lo := 0) (n := Int.toNat (((((itD (rows') (x1638))) : (List Int)).length : Int))) (fun i1 H' => ∃ (G' : Hp) (acc1738 : (List Int)), Same G1636 G' ∧ Sep [] H G G' H' [D1735, p1608] ∧ H' p1608 = some (.lst (vs1629)) ∧ H' D1735 = some (.lst ((acc1738 : (List Int)).map V.int)) ∧ Same H1632 H' ∧ cW (mapA (List.drop i1 (rng (0) (Int.toNat (((((itD (rows') (x1638))) : (List Int)).length : Int))))) acc1738 (fun x => noEr (F__law_due_c2 (rows') (plane') (unit') (top') (x1638) ((((cL cD)).dec ((itD (offsets') (((x1638 / small') / high')))))) x))) K1733 EE) ?_ ?_ ?_⟩
          · generalize g1740 : upd H1632 D1735 _ = H1741
            obtain ⟨e1742, h1743⟩ := gen_new n1736 g1740
            have fr1744 := S1633.free n1736
            have S1745 := S1633.new n1736 e1742 h1743 fr1744
            have h1746 := (e1742 _ _ h1634)
            exact ⟨_, [], Same.refl _, S1745, h1746, h1743, e1742, hw⟩
          · intro i1 H1747 hi hw
            obtain ⟨G1750, acc1752, eG1751, S1748, h1759, h1749, eo1758, hw⟩ := hw
            obtain ⟨z1760, hw⟩ := cW_mapA (rng_get hi) hw
            generalize (0 + (i1 : Int)) = x1761 at hw ⊢
            have hw := cW_noEr hw
            have hw : cW (F__law_due_c2 (rows') (plane') (unit') (top') (x1638) ((((cL cD)).dec ((itD (offsets') (((x1638 / small') / high')))))) (x1761)) _ (fun _ => False) := hw
            unfold F__law_due_c2 at hw
            refine ⟨rfl, ?_⟩
            refine tyes_go ?_
            obtain ⟨g1763, hw⟩ := cW_grd hw
            obtain ⟨v1764, a1765, r1766⟩ := RpAll.ixD (k := plane') d1684 g1763
            obtain ⟨g1767, hw⟩ := cW_grd hw
            have r1768 : Rp (hideL [] H) v1764 ((encT2 PyData.int (encL PyData.int)) (((cT2 cI (cL cI))).dec ((itD ((((cL cD)).dec ((itD (offsets') (((x1638 / small') / high')))))) (plane'))))) := rp_dcast (cT2 cI (cL cI)) g1767 r1766
            obtain ⟨a1769, v1771, v1772, rfl, h1770, r1773, r1774⟩ := rp_tup2 r1768
            obtain rfl := rp_int r1773
            obtain ⟨a1775, rfl, h1776⟩ := rp_ints r1774
            refine ⟨_, rfl, _, rfl, _, rfl, _, rfl, _, rfl, _, _, _, _, rfl, rfl, (SqL.of (S1748.bM _ _ h1683)), a1765, _, rfl, _, rfl, rfl, rfl, G1750, _, _, _, _, _, _, _, _, rfl, S1748.sG, (Rp.hide_nil (rp_mk_list (S1748.bM _ _ h1602) (RpAll.mono S1748.bM d1603))), (Rp.hide_nil (rp_mk2 (S1748.bM _ _ h1770) (.int _) (rp_mk_ints (S1748.bM _ _ h1776)))), cW_call hw (fun v1777 hw H1778 e1779 => ?_) (fun e he => he.elim)⟩
            have S1780 := S1748.same e1779
            have h1781 := (e1779 _ _ h1749)
            refine ⟨_, h1781, (app_lenM z1760), ?_⟩
            generalize g1782 : upd H1778 D1735 _ = H1783
            obtain ⟨x1784, h1785⟩ := gen_mut g1782
            have S1786 := S1780.mut1 x1784 (.head _) h1785
            have hw := cW_ok hw
            have h1787 := (x1784 _ _ (e1779 _ _ h1759) (ne_of_none h1634 n1736))
            exact ⟨_, (acc1752 ++ [v1777]), eG1751, S1786, h1787, (snoc_map h1785), (same_mut (Same.trans eo1758 e1779) x1784 n1736), hw⟩
          intro H1788 hw
          obtain ⟨G1791, acc1793, eG1792, S1789, h1800, h1790, eo1799, hw⟩ := hw
          have hw := hK1734 _ (cW_mapA0 (rng_len _ _).symm hw)
          have fr1801 := S1633.free n1736
          obtain ⟨g1802, hw⟩ := cW_grd hw
          obtain ⟨G1803, eG1804, hg1805, S1806⟩ := Sep.freeze (O' := [p1608]) S1789 (.head _) h1790 fr1801 ((all_cons ⟨(.tail _ (.head _)), (ne_of_none h1634 n1736)⟩ all_nil))
          refine ⟨_, _, _, rfl, rfl, h1800, (app_len (RpAll.mono eG1804 (RpAll.mono eG1792 d1635)) g1802), ?_⟩
          generalize g1807 : upd H1788 p1608 _ = H1808
          obtain ⟨x1809, h1810⟩ := gen_mut g1807
          have h1811 : H1808 p1608 = some (.lst (vs1629 ++ [V.ref D1735])) := h1810
          have S1812 := S1806.mut1 x1809 (.head _) h1811
          have d1813 : RpAll G1803 (vs1629 ++ [V.ref D1735]) (((out_1628) ++ [acc1793] : (List (List Int))).map (encL PyData.int)) := app_map (RpAll.mono eG1804 (RpAll.mono eG1792 d1635)) (RpAll.one (rp_mk_ints hg1805))
          have hw := cW_bnd hw
          have hw := cW_ok hw
          have hw := hK1641 _ hw
          exact ⟨((out_1628) ++ [acc1793]), _, _, _, _, rfl, (Same.trans (Same.trans eG1637 eG1792) eG1804), S1812, h1811, d1813, hw⟩
    · intro σ H1815 hw
      obtain ⟨out_1628, vs1629, u1630, u1631, G1819, rfl, eG1820, S1816, h1817, d1818, hw⟩ := hw
      have hw := hK1627 _ (cW_forS0 (rng_len _ _).symm hw)
      have hw : cW (F__law_due_r1  (out_1628)) _ EE := hw
      unfold F__law_due_r1 at hw
      refine ⟨_, rfl, ?_⟩
      obtain ⟨G1822, eG1823, hg1824, S1825⟩ := Sep.freeze (O' := []) S1816 (.head _) h1817 fr1615 (all_nil)
      have hw := cW_ok hw
      exact hK0 _ hw _ _ _ S1825.b0 S1825.g0 S1825.sG S1825.gn (rp_mk_list hg1824 (RpAll.mono eG1823 d1818))

abbrev N_law : List Str := ["script", "first", "width", "height", "fmt", "high", "settings", "offsets", "k", "planes", "kept", "due", "plane", "small", "told", "j", "turned", "again", "items", "rows", "row", "sample"]
theorem sc_law : FnScope N_law ["script"] (defScope s_law) := ⟨rfl, rfl, rfl, by decide +kernel, rfl, by decide +kernel, by decide +kernel⟩
theorem ok_law {f : Addr} {fd : FuncData} (F : FunD K "law" "law" (defArgs s_law) (defBody s_law) (defScope s_law) [] [] f fd) (T : Txt w K mg AD) (c__law_digits : CalX P w K mg base 1 "_law_digits" (sp__law_digits K AD) pats__law_digits) (c__law_cell : CalX P w K mg base 1 "_law_cell" (sp__law_cell K AD) pats__law_cell) (c_Format___init__ : MakX P w K mg base 1 "Format" AD.c_Format (sp_Format___init__ K AD) pats_Format___init__) (c_Settings___init__ : MakX P w K mg base 2 "Settings" AD.c_Settings (sp_Settings___init__ K AD) pats_Settings___init__) (c__law_items : CalX P w K mg base 2 "_law_items" (sp__law_items K AD) pats__law_items) (c_Format_planes : PropY P w K mg base 1 AD.c_Format "planes" (sp_Format_planes K AD) pats_Format_planes) (c_Settings_slices : MetX P w K mg base 2 AD.c_Settings "slices" (sp_Settings_slices K AD) pats_Settings_slices) (c__law_planes : CalX P w K mg base 5 "_law_planes" (sp__law_planes K AD) pats__law_planes) (c_Format_top : PropY P w K mg base 1 AD.c_Format "top" (sp_Format_top K AD) pats_Format_top) (c__law_due : CalX P w K mg base 3 "_law_due" (sp__law_due K AD) pats__law_due) (c_apply_offsets : CalX P w K mg base 6 "apply_offsets" (sp_apply_offsets K AD) pats_apply_offsets) : FnG P w K mg base CX0 7 f fd ["script"] (sp_law K AD) := by
  refine FnG.bodyN F sc_law (fun vs H Q E h => ?_) (fun cdv A_ outer s H vs Q E hr h => ?_)
  · obtain ⟨a_script, script, rfl, _⟩ := h
    rfl
  · obtain ⟨a_script, script', rfl, q_script, hw, k⟩ := h
    refine ⟨_, (pss_cons (ps_set (i := 1) sc_law.nd rfl (Or.inl rfl) (vx_callX c__law_digits pat__law_digits_0 (.head _) hr (by decide) takes0 rfl (pa_cons (vx_callX c__law_cell pat__law_cell_0 (.head _) hr (by decide) takes0 rfl (pa_cons (pv 0) (pa_cons pe_int pa_nil)) pk_nil) (pa_cons pe_int (pa_cons pe_int pa_nil))) pk_nil))
      (pss_cons (ps_set (i := 2) sc_law.nd rfl (Or.inl rfl) (pe_op op_add pe_int (pe_op op_mod (pe_ix (ix_listK (K := K)) (pv 1) pe_int (fun _ _ => rfl)) pe_int)))
      (pss_cons (ps_set (i := 3) sc_law.nd rfl (Or.inl rfl) (pe_op op_add pe_int (pe_op op_mod (pe_ix (ix_listK (K := K)) (pv 1) pe_int (fun _ _ => rfl)) pe_int)))
      (C8.pss_cut (ps_if (pt_cmp (pc_eqI (pe_op op_mod (pe_op op_fdivW (pe_ix (ix_listK (K := K)) (pv 1) pe_int (fun _ _ => rfl)) pe_int) pe_int) pe_int)) (pss_cons (ps_set (i := 2) sc_law.nd rfl (Or.inl rfl) (pe_op op_add pe_int (pe_op op_mod (pe_ix (ix_listK (K := K)) (pv 1) pe_int (fun _ _ => rfl)) pe_int)))
      (pss_one (ps_set (i := 3) sc_law.nd rfl (Or.inl rfl) (pe_op op_add pe_int (pe_op op_mod (pe_ix (ix_listK (K := K)) (pv 1) pe_int (fun _ _ => rfl)) pe_int))))) pss_nil)
      (pss_cons (ps_set (i := 4) sc_law.nd rfl (Or.inr rfl) (vx_makeX c_Format___init__ pat_Format___init___0 (.head _) hr (by decide) takes0 rfl (pa_cons (pv 2) (pa_cons (pv 3) pa_nil)) (pk_cons (pe_op op_add pe_int (pe_op op_mod (pe_ix (ix_listK (K := K)) (pv 1) pe_int (fun _ _ => rfl)) pe_int)) (pk_cons (pe_op op_mod (pe_ix (ix_listK (K := K)) (pv 1) pe_int (fun _ _ => rfl)) pe_int) pk_nil))))
      (pss_cons (ps_set (i := 5) sc_law.nd rfl (Or.inl rfl) (pe_op op_add pe_int (pe_op op_mod (pe_ix (ix_listK (K := K)) (pv 1) pe_int (fun _ _ => rfl)) pe_int)))
      (pss_cons (ps_set (i := 6) sc_law.nd rfl (Or.inl rfl) (vx_makeX c_Settings___init__ pat_Settings___init___0 (.head _) hr (by decide) takes0 rfl (pa_cons (pv 4) pa_nil) (pk_cons (pv 5) (pk_cons pe_bl pk_nil))))
      (pss_cons (ps_set (i := 7) sc_law.nd rfl (Or.inl rfl) (pe_lst pa_nil))
      (pss_cons (ps_for PassesOwn.never rfl (pi_range1 rfl T.b_range (pa_cons (vx_methX0 c_Settings_slices pat_Settings_slices_0 (.head _) hr (by decide) takes0 (pv 6)) pa_nil)) (pg_name (i := 8) sc_law.nd rfl (Or.inl rfl)) (pss_one (ps_expr (pe_bm PySem.F.plainAttrs_list PySem.F.slot_list_append PySem.F.type_list_append mt_append (pv 7) (pa_cons (vx_callX c__law_items pat__law_items_0 (.head _) hr (by decide) takes0 rfl (pa_cons (pe_op op_add (vx_callX c__law_cell pat__law_cell_0 (.head _) hr (by decide) takes0 rfl (pa_cons (pv 0) (pa_cons (pe_op op_add pe_int (pv 8)) pa_nil)) pk_nil) (pe_op op_mul pe_int (pv 8))) (pa_cons (vx_propX c_Format_planes hr (by decide) (pv 4)) pa_nil)) pk_nil) pa_nil)))))
      (pss_cons (ps_if (pt_cmp (pc_eqI (pe_op op_mod (pe_op op_fdivW (pe_ix (ix_listK (K := K)) (pv 1) pe_int (fun _ _ => rfl)) pe_int) pe_int) pe_int)) (pss_cons (ps_set (i := 6) sc_law.nd rfl (Or.inl rfl) (vx_makeX c_Settings___init__ pat_Settings___init___1 (.tail _ (.head _)) hr (by decide) takes0 rfl (pa_cons (pv 4) pa_nil) (pk_cons (pv 5) pk_nil)))
      (pss_one (ps_setLc (i := 7) (y := "offsets") rfl sc_law.nd rfl rfl (sw_true rfl rfl rfl (by decide +kernel)) (own := [("items", 18)]) (g := gName 18) (pi_listK (K := K) (pv 7)) (blkOk_by (own := [("items", 18)]) (N := N_law) (sc := defScope s_law) (by decide +kernel)) (fun _ _ _ _ _ => (pg_name (i := 18) sc_law.nd rfl (Or.inl rfl))) (fun _ _ _ _ _ => pts_nil) (fun _ _ _ _ _ => (pe_ifExp (pt_cmpR op_isND (pv 18) pe_non (nomark _)) pe_non (pe_op op_rep (pe_lst (pa_cons pe_non pa_nil)) (vx_propX c_Format_planes hr (by decide) (pv 4)))))))) pss_nil)
      (pss_cons (ps_set (i := 9) sc_law.nd rfl (Or.inl rfl) (vx_callX c__law_planes pat__law_planes_0 (.head _) hr (by decide) takes0 rfl (pa_cons (vx_callX c__law_cell pat__law_cell_0 (.head _) hr (by decide) takes0 rfl (pa_cons (pv 0) (pa_cons pe_int pa_nil)) pk_nil) (pa_cons (pv 4) (pa_cons (vx_propX c_Format_top hr (by decide) (pv 4)) pa_nil))) pk_nil))
      (C8.pss_cut (ps_if (pt_cmp (pc_eqI (pe_op op_mod (pe_ix (ix_listK (K := K)) (pv 1) pe_int (fun _ _ => rfl)) pe_int) pe_int)) (pss_one (ps_setLc (i := 9) (y := "planes") rfl sc_law.nd rfl rfl (sw_true rfl rfl rfl (by decide +kernel)) (own := [("rows", 19)]) (g := gName 19) (pi_listK (K := K) (pv 9)) (blkOk_by (own := [("rows", 19)]) (N := N_law) (sc := defScope s_law) (by decide +kernel)) (fun _ _ _ _ _ => (pg_name (i := 19) sc_law.nd rfl (Or.inl rfl))) (fun _ _ _ _ _ => pts_nil) (fun _ _ _ _ _ => (pe_lc (own := [("row", 20)]) (g := gName 20) (by rfl) sc_law.nd (pi_listK (K := K) (pv 19)) (blk_relabel (blkOk_by (own := [("row", 20)]) (N := N_law) (by decide +kernel))) (fun _ _ _ _ _ => (pg_name (i := 20) sc_law.nd rfl (Or.inl rfl))) (fun _ _ _ _ _ => pts_nil) (fun _ _ _ _ _ => (pe_lc (own := [("sample", 21)]) (g := gName 21) (by rfl) sc_law.nd (pi_listK (K := K) (pv 20)) (blk_relabel (blkOk_by (own := [("sample", 21)]) (N := N_law) (by decide +kernel))) (fun _ _ _ _ _ => (pg_name (i := 21) sc_law.nd rfl (Or.inl rfl))) (fun _ _ _ _ _ => pts_nil) (fun _ _ _ _ _ => (pe_op op_mod (pv 21) pe_int)))))))) pss_nil)
      (pss_cons (ps_set (i := 10) sc_law.nd rfl (Or.inl rfl) (pe_callB (call_reprD hr.gd hr.units) (by rfl) T.b_repr (by decide +kernel) (pa_cons (pe_lst (pa_cons (pv 9) (pa_cons (pv 7) pa_nil))) pa_nil)))
      (pss_cons (ps_set (i := 11) sc_law.nd rfl (Or.inl rfl) (pe_lst pa_nil))
      (pss_cons (ps_for PassesOwn.never rfl (pi_range1 rfl T.b_range (pa_cons (vx_propX c_Format_planes hr (by decide) (pv 4)) pa_nil)) (pg_name (i := 12) sc_law.nd rfl (Or.inl rfl)) (pss_cons (ps_set (i := 13) sc_law.nd rfl (Or.inl rfl) pe_int)
      (C8.pss_cut (ps_if (PW.pt (pw_and (pt_cmp (pc_gt (pv 12) pe_int)) (pw_and1 (pt_cmp (pc_eqI (fldK (K := K) (pv 4)) pe_int))))) (pss_one (ps_set (i := 13) sc_law.nd rfl (Or.inl rfl) pe_int)) pss_nil)
      (pss_one (ps_expr (pe_bm PySem.F.plainAttrs_list PySem.F.slot_list_append PySem.F.type_list_append mt_append (pv 11) (pa_cons (vx_callX c__law_due pat__law_due_0 (.head _) hr (by decide) takes0 rfl (pa_cons (pe_ix (ix_listK (K := K)) (pv 9) (pv 12) (fun _ _ => rfl)) (pa_cons (pv 13) (pa_cons (pv 5) (pa_cons (pv 7) (pa_cons (pv 12) (pa_cons (pe_op op_shlW pe_int (pe_op op_sub (fldK (K := K) (pv 4)) pe_int)) (pa_cons (vx_propX c_Format_top hr (by decide) (pv 4)) pa_nil))))))) pk_nil) pa_nil)))))))
      (pss_cons (ps_set (i := 14) sc_law.nd rfl (Or.inl rfl) (vx_callX c_apply_offsets pat_apply_offsets_0 (.head _) hr (by decide) takes0 rfl (pa_cons (pv 6) (pa_cons (pv 9) (pa_cons (pv 7) pa_nil))) pk_nil))
      (pss_cons (ps_if (PW.pt (pw_or (pt_cmpR op_ne (pe_callB (call_reprD hr.gd hr.units) (by rfl) T.b_repr (by decide +kernel) (pa_cons (pe_lst (pa_cons (pv 9) (pa_cons (pv 7) pa_nil))) pa_nil)) (pv 10) (nomark _)) (pw_or (pt_not (pt_val (pe_callB call_isi (by rfl) T.b_isinstance (by decide +kernel) (pa_cons (pv 14) (pa_cons (pe_bltn (v := V.ty "list") (u := Value.type "list") (by rfl) T.b_list (by decide +kernel) rfl) pa_nil))))) (pw_or1 (pt_cmpR (op_neT (encOk_L (encOk_L (encOk_L encOk_int))) hr.units) (pv 14) (pv 11) (nomark _)))))) (pss_one (ps_ret pe_bl)) pss_nil)
      (pss_cons (ps_for PassesOwn.never rfl (pi_range1 rfl T.b_range (pa_cons (vx_propX c_Format_planes hr (by decide) (pv 4)) pa_nil)) (pg_name (i := 12) sc_law.nd rfl (Or.inl rfl)) (pss_one (ps_for PassesOwn.never rfl (pi_range1 rfl T.b_range (pa_cons (pe_callB (call_lenLK (K := K)) (by rfl) T.b_len (by decide +kernel) (pa_cons (pe_ix (ix_listK (K := K)) (pv 14) (pv 12) (fun _ _ => rfl)) pa_nil)) pa_nil)) (pg_name (i := 15) sc_law.nd rfl (Or.inl rfl)) (pss_one (ps_asg (pe_un un_neg pe_int) (pg_sub (pe_ix (ix_listK (K := K)) (pe_ix (ix_listK (K := K)) (pv 14) (pv 12) (fun _ _ => rfl)) (pv 15) (fun _ _ => rfl)) pe_int set_list))))))
      (pss_cons (ps_setLc (i := 16) (y := "turned") rfl sc_law.nd rfl rfl (sw_true rfl rfl rfl (by decide +kernel)) (own := [("rows", 19)]) (g := gName 19) (pi_listK (K := K) (pv 9)) (blkOk_by (own := [("rows", 19)]) (N := N_law) (sc := defScope s_law) (by decide +kernel)) (fun _ _ _ _ _ => (pg_name (i := 19) sc_law.nd rfl (Or.inr rfl))) (fun _ _ _ _ _ => pts_nil) (fun _ _ _ _ _ => (pe_lc (own := [("j", 15)]) (g := gName 15) (by rfl) sc_law.nd (pi_range1 rfl T.b_range (pa_cons (pe_callB (call_lenLK (K := K)) (by rfl) T.b_len (by decide +kernel) (pa_cons (pv 19) pa_nil)) pa_nil)) (blk_relabel (blkOk_by (own := [("j", 15)]) (N := N_law) (by decide +kernel))) (fun _ _ _ _ _ => (pg_name (i := 15) sc_law.nd rfl (Or.inl rfl))) (fun _ _ _ _ _ => pts_nil) (fun _ _ _ _ _ => (pe_callTy (call_listLK (K := K)) (by rfl) T.b_list (by decide +kernel) (pa_cons (pe_ix (ix_listK (K := K)) (pv 19) (pe_op op_sub (pe_op op_sub (pe_callB (call_lenLK (K := K)) (by rfl) T.b_len (by decide +kernel) (pa_cons (pv 19) pa_nil)) pe_int) (pv 15)) (fun _ _ => rfl)) pa_nil))))))
      (pss_cons (ps_set (i := 17) sc_law.nd rfl (Or.inl rfl) (vx_callX c_apply_offsets pat_apply_offsets_0 (.head _) hr (by decide) takes0 rfl (pa_cons (pv 6) (pa_cons (pv 16) (pa_cons (pv 7) pa_nil))) pk_nil))
      (pss_cons (ps_for PassesOwn.never rfl (pi_range1 rfl T.b_range (pa_cons (vx_propX c_Format_planes hr (by decide) (pv 4)) pa_nil)) (pg_name (i := 12) sc_law.nd rfl (Or.inl rfl)) (pss_cons (ps_set (i := 13) sc_law.nd rfl (Or.inl rfl) (pe_ifExp (PW.pt (pw_and (pt_cmp (pc_gt (pv 12) pe_int)) (pw_and1 (pt_cmp (pc_eqI (fldK (K := K) (pv 4)) pe_int))))) pe_int pe_int))
      (pss_one (ps_if (pt_cmpR (op_neT (encOk_L (encOk_L encOk_int)) hr.units) (pe_ix (ix_listK (K := K)) (pv 17) (pv 12) (fun _ _ => rfl)) (vx_callX c__law_due pat__law_due_0 (.head _) hr (by decide) takes0 rfl (pa_cons (pe_ix (ix_listK (K := K)) (pv 16) (pv 12) (fun _ _ => rfl)) (pa_cons (pv 13) (pa_cons (pv 5) (pa_cons (pv 7) (pa_cons (pv 12) (pa_cons (pe_op op_shlW pe_int (pe_op op_sub (fldK (K := K) (pv 4)) pe_int)) (pa_cons (vx_propX c_Format_top hr (by decide) (pv 4)) pa_nil))))))) pk_nil) (nomark _)) (pss_one (ps_ret pe_bl)) pss_nil))))
      (pss_one (ps_ret (pe_cmpR op_eq (pe_callB (call_reprD hr.gd hr.units) (by rfl) T.b_repr (by decide +kernel) (pa_cons (pe_lst (pa_cons (pv 9) (pa_cons (pv 7) pa_nil))) pa_nil)) (pv 10) (nomark _))))))))))))))))))))))))), ?_⟩
    obtain ⟨KK, EE, hK0, hE, hw⟩ := cW_gen hw
    have S0 := Sep.start0 H
    unfold F_law at hw
    refine ⟨_, rfl, rfl, rfl, H, _, _, _, rfl, S0.sG, (S0.b0.seq q_script), cW_call hw (fun v1826 hw => ?_) (fun e he => (hE e he).elim)⟩
    refine ⟨rfl, rfl, H, _, _, _, rfl, S0.sG, cW_call hw (fun v1827 hw p1830 H1828 n1831 e1829 h1832 => ?_) (fun e he => (hE e he).elim)⟩
    have h1833 : H1828 p1830 = some (.lst ((v1827 : (List Int)).map V.int)) := h1832
    have fr1834 := S0.free n1831
    have S1835 := S0.new n1831 e1829 h1833 fr1834
    obtain ⟨g1836, hw⟩ := cW_grd hw
    refine ⟨_, rfl, _, _, _, _, rfl, rfl, (SqL.of h1833), (atI_map g1836), _, _, rfl, rfl, (show (0 : Int) < 24 by decide), _, _, rfl, rfl, ?_⟩
    have hw := cW_bnd hw
    obtain ⟨g1838, hw⟩ := cW_grd hw
    refine ⟨_, rfl, _, _, _, _, rfl, rfl, (SqL.of h1833), (atI_map g1838), _, _, rfl, rfl, (show (0 : Int) < 24 by decide), _, _, rfl, rfl, ?_⟩
    have hw := cW_bnd hw
    refine ⟨fun σ H' => ∃ (width_1844 : Int) (height_1845 : Int) (G' : Hp), σ = [some (V.ref a_script), some (V.ref p1830), some (V.int width_1844), some (V.int height_1845), none, none, none, none, none, none, none, none, none, none, none, none, none, none, none, none, none, none] ∧ Same H G' ∧ Sep [] H H G' H' [p1830] ∧ H' p1830 = some (.lst ((v1827 : (List Int)).map V.int)) ∧ cW (F_law_k1 (script') (v1827) width_1844 height_1845) KK EE, ?_, ?_⟩
    · obtain ⟨K1846, hK1847, hw⟩ := cW_push hw
      obtain ⟨g1848, hw⟩ := cW_grd hw
      refine ⟨_, rfl, _, _, _, _, rfl, rfl, (SqL.of h1833), (atI_map g1848), _, _, rfl, rfl, (divW_lit (by decide) (by decide)), _, _, rfl, rfl, (show (0 : Int) < 6 by decide), _, _, rfl, rfl, _, rfl, ?_⟩
      refine iteD (fun c1849 => ?_) (fun c1849 => ?_)
      · have hw := cW_pos c1849 hw
        obtain ⟨g1850, hw⟩ := cW_grd hw
        refine ⟨_, rfl, _, _, _, _, rfl, rfl, (SqL.of h1833), (atI_map g1850), _, _, rfl, rfl, (show (0 : Int) < 8 by decide), _, _, rfl, rfl, ?_⟩
        have hw := cW_bnd hw
        obtain ⟨g1852, hw⟩ := cW_grd hw
        refine ⟨_, rfl, _, _, _, _, rfl, rfl, (SqL.of h1833), (atI_map g1852), _, _, rfl, rfl, (show (0 : Int) < 40 by decide), _, _, rfl, rfl, ?_⟩
        have hw := cW_bnd hw
        have hw := cW_ok hw
        have hw := hK1847 _ hw
        exact ⟨((1 + ((itD (v1827) (0)) % 8))), ((25 + ((itD (v1827) (1)) % 40))), _, rfl, (Same.refl _), S1835, h1833, hw⟩
      · have hw := cW_neg c1849 hw
        have hw := cW_ok hw
        have hw := hK1847 _ hw
        exact ⟨((1 + ((itD (v1827) (0)) % 24))), ((1 + ((itD (v1827) (1)) % 24))), _, rfl, (Same.refl _), S1835, h1833, hw⟩
    · intro σ H1854 hw
      obtain ⟨width_1844, height_1845, G1857, rfl, eG1858, S1855, h1856, hw⟩ := hw
      unfold F_law_k1 at hw
      obtain ⟨g1859, hw⟩ := cW_grd hw
      obtain ⟨g1860, hw⟩ := cW_grd hw
      refine ⟨_, rfl, _, rfl, _, rfl, _, _, _, _, rfl, rfl, (SqL.of h1856), (atI_map g1859), _, _, rfl, rfl, (show (0 : Int) < 5 by decide), _, _, rfl, rfl, _, rfl, _, _, _, _, rfl, rfl, (SqL.of h1856), (atI_map g1860), _, _, rfl, rfl, (show (0 : Int) < 3 by decide), rfl, rfl, fun x1861 dx1862 n1863 n1864 n1865 => ?_⟩
      generalize g1866 : upd (upd H1854 dx1862 _) x1861 _ = H1867
      obtain ⟨e1868, h1869⟩ := gen_obj n1863 n1864 n1865 g1866
      have fr1870 := S1855.free n1863
      have S1871 := S1855.new n1863 e1868 h1869 fr1870
      refine ⟨G1857, _, _, _, _, _, _, rfl, S1871.sG, (S1871.gno (all_cons (.head _) all_nil)), h1869, cW_call hw (fun v1872 hw H1873 x1874 h1875 => ⟨rfl, ?_⟩) (fun e he => (hE e he).elim)⟩
      have S1876 : Sep _ _ _ _ H1873 [x1861, p1830] := Sep.init S1871 x1874 (.head _) h1875 [] all_nil
      obtain ⟨g1877, hw⟩ := cW_grd hw
      have h1878 := ((SameXs.of x1874) _ _ (e1868 _ _ h1856) (ni1 (ne_of_none h1856 n1863)))
      refine ⟨_, rfl, _, _, _, _, rfl, rfl, (SqL.of h1878), (atI_map g1877), _, _, rfl, rfl, (show (0 : Int) < 5 by decide), _, _, rfl, rfl, ?_⟩
      have hw := cW_bnd hw
      refine ⟨_, rfl, _, rfl, rfl, rfl, fun x1880 dx1881 n1882 n1883 n1884 => ?_⟩
      generalize g1885 : upd (upd H1873 dx1881 _) x1880 _ = H1886
      obtain ⟨e1887, h1888⟩ := gen_obj n1882 n1883 n1884 g1885
      have fr1889 := S1876.free n1882
      have S1890 := S1876.new n1882 e1887 h1888 fr1889
      have h1891 := (e1887 _ _ h1875)
      refine ⟨G1857, _, _, _, _, v1872, _, _, _, _, _, rfl, S1890.sG, (S1890.gno (all_cons (.head _) all_nil)), h1888, ((hideL_out (ni1 (ne_of_none h1875 n1882))).trans h1891), cW_call hw (fun v1892 hw H1893 x1894 h1895 => ⟨rfl, ?_⟩) (fun e he => (hE e he).elim)⟩
      have S1896 : Sep _ _ _ _ H1893 [x1880, x1861, p1830] := Sep.init S1890 x1894 (.head _) h1895 [] all_nil
      refine ⟨(by show 0 ≤ sizeLine; decide), fun p1897 n1898 => ?_⟩
      generalize g1899 : upd H1893 p1897 _ = H1900
      obtain ⟨e1901, h1902⟩ := gen_new n1898 g1899
      have h1903 : H1900 p1897 = some (.lst ([])) := h1902
      have fr1904 := S1896.free n1898
      have S1905 := S1896.new n1898 e1901 h1903 fr1904
      have d1906 : RpAll G1857 ([]) ((([] : (List PyData)) : (List PyData)).map encD) := RpAll.nil
      have h1907 := (e1901 _ _ h1895)
      have h1908 := (e1901 _ _ ((SameXs.of x1894) _ _ h1891 (ni1 (ne_of_none h1875 n1882))))
      refine ⟨_, rfl, _, _, _, rfl, h1907, rfl, rfl, rfl, G1857, _, _, _, _, (⟨v1872, v1892.slots, v1892.rows, v1892.deblock, v1892.offset, v1892.layers⟩ : St_Settings), rfl, S1905.sG, (hide_nil h1907), (hide_nil h1908), cW_call hw (fun v1909 hw H1910 e1911 => ?_) (fun e he => (hE e he).elim)⟩
      have S1912 := S1905.same e1911
      obtain ⟨g1913, hw⟩ := cW_grd hw
      obtain ⟨K1920, hK1921, hw⟩ := cW_push hw
      refine ⟨_, rfl, g1913.1, g1913.2, for_range (lo := 0) (n := Int.toNat (v1909)) (fun i σ H' => ∃ (offsets_1922 : (List PyData)) (vs1923 : List V) (u1924 : Option V) (G' : Hp), σ = [some (V.ref a_script), some (V.ref p1830), some (V.int (width_1844)), some (V.int (height_1845)), some (V.ref x1861), some (V.int ((1 + ((itD (v1827) (4)) % 5)))), some (V.ref x1880), some (V.ref p1897), u1924, none, none, none, none, none, none, none, none, none, none, none, none, none] ∧ Same G1857 G' ∧ Sep [] H H G' H' [p1830, x1861, x1880, p1897] ∧ H' p1830 = some (.lst ((v1827 : (List Int)).map V.int)) ∧ H' x1861 = some (.ins AD.c_Format dx1862 [("width", V.int (v1872.width)), ("height", V.int (v1872.height)), ("depth", V.int (v1872.depth)), ("chroma", V.int (v1872.chroma))]) ∧ H' x1880 = some (.ins AD.c_Settings dx1881 [("fmt", V.ref x1861), ("slots", V.int (v1892.slots)), ("rows", V.int (v1892.rows)), ("deblock", V.bl (v1892.deblock)), ("offset", V.bl (v1892.offset)), ("layers", V.int (v1892.layers))]) ∧ H' p1897 = some (.lst (vs1923)) ∧ RpAll G' (vs1923) ((offsets_1922 : (List PyData)).map encD) ∧ cW (forS (List.drop i (rng (0) (Int.toNat (v1909)))) offsets_1922 (fun s x => F_law_b2 (script') (v1872) s x)) K1920 EE) ?_ ?_ ?_⟩
      · have h1925 := (e1911 _ _ (e1901 _ _ ((SameXs.of x1894) _ _ (e1887 _ _ h1878) (ni1 (ne_of_none h1878 n1882)))))
        have h1926 := (e1911 _ _ h1908)
        have h1927 := (e1911 _ _ h1907)
        have h1928 := (e1911 _ _ h1903)
        exact ⟨(([] : (List PyData))), _, _, _, rfl, (Same.refl _), (S1912.sub (all_cons (.tail _ (.tail _ (.tail _ (.head _)))) (all_cons (.tail _ (.tail _ (.head _))) (all_cons (.tail _ (.head _)) (all_cons (.head _) all_nil))))), h1925, h1926, h1927, h1928, d1906, hw⟩
      · intro i σ H1929 hi hw
        obtain ⟨offsets_1922, vs1923, u1924, G1936, rfl, eG1937, S1930, h1931, h1932, h1933, h1934, d1935, hw⟩ := hw
        have hw := cW_forS (rng_get hi) hw
        generalize (0 + (i : Int)) = x1938 at hw ⊢
        have hw : cW (F_law_b2 (script') (v1872) (offsets_1922) (x1938)) _ EE := hw
        unfold F_law_b2 at hw
        obtain ⟨K1940, hK1941, hw⟩ := cW_name hw
        refine ⟨_, rfl, (.inl ⟨rfl, _, SqL.of h1934⟩), _, rfl, _, rfl, _, _, rfl, rfl, rfl, rfl, G1936, _, _, _, rfl, S1930.sG, (S1930.b0.seq q_script), cW_call hw (fun v1943 hw => ?_) (fun e he => (hE e he).elim)⟩
        refine ⟨_, rfl, _, _, rfl, rfl, (.inl ⟨by decide, by decide⟩), _, _, rfl, rfl, _, rfl, _, _, _, rfl, h1932, G1936, _, _, v1872, rfl, S1930.sG, (hide_nil h1932), cW_callN hw (fun v1944 hw H1945 e1946 => ?_) trivial⟩
        have S1947 := S1930.same e1946
        refine ⟨rfl, rfl, G1936, _, _, rfl, S1947.sG, cW_call hw (fun v1948 hw v1951 H1949 G1952 e1950 eG1953 sG1954 hn1955 r1956 => ?_) (fun e he => (hE e he).elim)⟩
        have S1957 := S1947.step e1950 eG1953 sG1954 hn1955
        obtain ⟨g1958, hw⟩ := cW_grd hw
        have h1959 := (e1950 _ _ (e1946 _ _ h1934))
        refine ⟨_, _, _, rfl, rfl, h1959, (app_len (RpAll.mono eG1953 d1935) g1958), ?_⟩
        generalize g1960 : upd H1949 p1897 _ = H1961
        obtain ⟨x1962, h1963⟩ := gen_mut g1960
        have h1964 : H1961 p1897 = some (.lst (vs1923 ++ [v1951])) := h1963
        have S1965 := S1957.mut1 x1962 (.tail _ (.tail _ (.tail _ (.head _)))) h1964
        have d1966 : RpAll G1952 (vs1923 ++ [v1951]) (((offsets_1922) ++ [v1948] : (List PyData)).map encD) := app_map (RpAll.mono eG1953 d1935) (RpAll.one r1956)
        have hw := cW_bnd hw
        have hw := cW_ok hw
        have hw := hK1941 _ hw
        have h1968 := (x1962 _ _ (e1950 _ _ (e1946 _ _ h1931)) (ne_of_none ((SameXs.of x1894) _ _ (e1887 _ _ h1878) (ni1 (ne_of_none h1878 n1882))) n1898))
        have h1969 := (x1962 _ _ (e1950 _ _ (e1946 _ _ h1932)) (ne_of_none ((SameXs.of x1894) _ _ h1891 (ni1 (ne_of_none h1875 n1882))) n1898))
        have h1970 := (x1962 _ _ (e1950 _ _ (e1946 _ _ h1933)) (ne_of_none h1895 n1898))
        exact ⟨((offsets_1922) ++ [v1948]), _, _, _, rfl, (Same.trans eG1937 eG1953), S1965, h1968, h1969, h1970, h1964, d1966, hw⟩
      · intro σ H1971 hw
        obtain ⟨offsets_1922, vs1923, u1924, G1978, rfl, eG1979, S1972, h1973, h1974, h1975, h1976, d1977, hw⟩ := hw
        have hw := hK1921 _ (cW_forS0 (rng_len _ _).symm hw)
        have hw : cW (F_law_r2 (script') (v1827) ((1 + ((itD (v1827) (4)) % 5))) ((⟨v1872, v1892.slots, v1892.rows, v1892.deblock, v1892.offset, v1892.layers⟩ : St_Settings)) (offsets_1922)) _ EE := hw
        unfold F_law_r2 at hw
        obtain ⟨g1981, hw⟩ := cW_grd hw
        refine ⟨_, rfl, _, _, _, _, rfl, rfl, (SqL.of h1973), (atI_map g1981), _, _, rfl, rfl, (divW_lit (by decide) (by decide)), _, _, rfl, rfl, (show (0 : Int) < 4 by decide), _, _, rfl, rfl, _, rfl, ?_⟩
        refine iteD (fun c1982 => ?_) (fun c1982 => ?_)
        · have hw := cW_pos c1982 hw
          refine ⟨_, rfl, _, rfl, rfl, rfl, fun x1983 dx1984 n1985 n1986 n1987 => ?_⟩
          generalize g1988 : upd (upd H1971 dx1984 _) x1983 _ = H1989
          obtain ⟨e1990, h1991⟩ := gen_obj n1985 n1986 n1987 g1988
          have fr1992 := S1972.free n1985
          have S1993 := S1972.new n1985 e1990 h1991 fr1992
          have h1994 := (e1990 _ _ h1974)
          refine ⟨G1978, _, _, _, _, v1872, _, _, _, _, _, rfl, S1993.sG, (S1993.gno (all_cons (.head _) all_nil)), h1991, ((hideL_out (ni1 (ne_of_none h1974 n1985))).trans h1994), cW_call hw (fun v1995 hw H1996 x1997 h1998 => ⟨rfl, ?_⟩) (fun e he => (hE e he).elim)⟩
          have S1999 : Sep _ _ _ _ H1996 [x1983, p1830, x1861, x1880, p1897] := Sep.init S1993 x1997 (.head _) h1998 [] all_nil
          have h2000 := ((SameXs.of x1997) _ _ (e1990 _ _ h1976) (ni1 (ne_of_none h1976 n1985)))
          obtain ⟨K2003, hK2004, hw⟩ := cW_push hw
          refine ⟨_, rfl, _, rfl, ⟨_, (SqL.of h2000)⟩, fun D2005 n2006 => lc_list (K := K) (a := p1897) (xs := vs1923) (fun i1 H' => ∃ (G' : Hp) (acc2008 : (List PyData)) (vs2009 : List V), Same G1978 G' ∧ Sep [] H H G' H' [D2005, p1830, x1861, x1983, p1897] ∧ H' p1830 = some (.lst ((v1827 : (List Int)).map V.int)) ∧ H' x1861 = some (.ins AD.c_Format dx1862 [("width", V.int (v1872.width)), ("height", V.int (v1872.height)), ("depth", V.int (v1872.depth)), ("chroma", V.int (v1872.chroma))]) ∧ H' x1983 = some (.ins AD.c_Settings dx1984 [("fmt", V.ref x1861), ("slots", V.int (v1995.slots)), ("rows", V.int (v1995.rows)), ("deblock", V.bl (v1995.deblock)), ("offset", V.bl (v1995.offset)), ("layers", V.int (v1995.layers))]) ∧ H' p1897 = some (.lst (vs1923)) ∧ H' D2005 = some (.lst vs2009) ∧ RpAll G' vs2009 ((acc2008 : (List PyData)).map encD) ∧ Same H1996 H' ∧ cW (mapA (List.drop i1 (offsets_1922)) acc2008 (fun x => noEr (F_law_c3 (v1872) x))) K2003 EE) ?_ ?_ ?_ ?_⟩
          · generalize g2010 : upd H1996 D2005 _ = H2011
            obtain ⟨e2012, h2013⟩ := gen_new n2006 g2010
            have fr2014 := S1999.free n2006
            have S2015 := S1999.new n2006 e2012 h2013 fr2014
            have h2016 := (e2012 _ _ ((SameXs.of x1997) _ _ (e1990 _ _ h1973) (ni1 (ne_of_none h1973 n1985))))
            have h2017 := (e2012 _ _ ((SameXs.of x1997) _ _ h1994 (ni1 (ne_of_none h1974 n1985))))
            have h2018 := (e2012 _ _ h1998)
            have h2019 := (e2012 _ _ h2000)
            exact ⟨_, [], [], Same.refl _, (S2015.sub (all_cons (.head _) (all_cons (.tail _ (.tail _ (.head _))) (all_cons (.tail _ (.tail _ (.tail _ (.head _)))) (all_cons (.tail _ (.head _)) (all_cons (.tail _ (.tail _ (.tail _ (.tail _ (.tail _ (.head _)))))) all_nil)))))), h2016, h2017, h2018, h2019, h2013, RpAll.nil, e2012, hw⟩
          · intro i1 H2020 _ hw
            obtain ⟨G2023, acc2025, vs2026, eG2024, S2021, h2032, h2033, h2034, h2035, h2022, d2027, eo2031, hw⟩ := hw
            exact (SqL.of h2035)
          · intro i1 x H2036 hj hw
            obtain ⟨G2039, acc2041, vs2042, eG2040, S2037, h2048, h2049, h2050, h2051, h2038, d2043, eo2047, hw⟩ := hw
            obtain ⟨x2052, hx, r2053⟩ := RpAll.get (RpAll.mono eG2040 d1977) hj
            obtain ⟨z2054, hw⟩ := cW_mapA hx hw
            have hw := cW_noEr hw
            have hw : cW (F_law_c3 (v1872) (x2052)) _ (fun _ => False) := hw
            unfold F_law_c3 at hw
            refine ⟨rfl, ?_⟩
            refine tyes_go ?_
            refine ⟨_, rfl, x2052, rfl, (Rp.mono S2037.sG r2053), _, rfl, ?_⟩
            refine iteB (fun c2056 => ?_) (fun c2056 => ?_)
            · have hw := cW_pos c2056 hw
              have r2057 : Rp G2039 (V.non) (encD (encN (()))) := .non
              refine ⟨_, h2038, (app_len d2043 z2054), ?_⟩
              generalize g2058 : upd H2036 D2005 _ = H2059
              obtain ⟨x2060, h2061⟩ := gen_mut g2058
              have S2062 := S2037.mut1 x2060 (.head _) h2061
              have hw := cW_ok hw
              have h2063 := (x2060 _ _ h2048 (ne_of_none ((SameXs.of x1997) _ _ (e1990 _ _ h1973) (ni1 (ne_of_none h1973 n1985))) n2006))
              have h2064 := (x2060 _ _ h2049 (ne_of_none ((SameXs.of x1997) _ _ h1994 (ni1 (ne_of_none h1974 n1985))) n2006))
              have h2065 := (x2060 _ _ h2050 (ne_of_none h1998 n2006))
              have h2066 := (x2060 _ _ h2051 (ne_of_none h2000 n2006))
              exact ⟨_, (acc2041 ++ [(encN (()))]), _, eG2040, S2062, h2063, h2064, h2065, h2066, h2061, (app_map d2043 (RpAll.one r2057)), (same_mut eo2047 x2060 n2006), hw⟩
            · have hw := cW_negB c2056 hw
              have r2067 : Rp G2039 (V.non) (encD (encN (()))) := .non
              refine ⟨(by show 1 ≤ sizeLine; decide), fun p2068 n2069 => ?_⟩
              generalize g2070 : upd H2036 p2068 _ = H2071
              obtain ⟨e2072, h2073⟩ := gen_new n2069 g2070
              have h2074 : H2071 p2068 = some (.lst ([(V.non)])) := h2073
              have fr2075 := S2037.free n2069
              have S2076 := S2037.new n2069 e2072 h2074 fr2075
              have d2077 : RpAll G2039 ([(V.non)]) (([(encN (()))] : (List PyData)).map encD) := (RpAll.cons r2067 RpAll.nil)
              have h2078 := (e2072 _ _ h2049)
              refine ⟨_, rfl, _, _, _, rfl, h2078, G2039, _, _, v1872, rfl, S2076.sG, (hide_nil h2078), cW_call hw (fun v2079 hw H2080 e2081 => ?_) (fun e he => he.elim)⟩
              have S2082 := S2076.same e2081
              obtain ⟨g2083, hw⟩ := cW_grd hw
              have h2084 := (e2081 _ _ h2074)
              refine ⟨_, _, _, rfl, rfl, h2084, g2083.1, g2083.2.1, (rep_len d2077 g2083.2.2), fun p2085 n2086 => ?_⟩
              generalize g2087 : upd H2080 p2085 _ = H2088
              obtain ⟨e2089, h2090⟩ := gen_new n2086 g2087
              have h2091 : H2088 p2085 = some (.lst ((List.replicate (Int.toNat (v2079)) ([(V.non)])).flatten)) := h2090
              have fr2092 := S2082.free n2086
              have S2093 := S2082.new n2086 e2089 h2091 fr2092
              have d2094 : RpAll G2039 ((List.replicate (Int.toNat (v2079)) ([(V.non)])).flatten) ((repL ([(encN (()))]) (v2079) : (List PyData)).map encD) := rep_all (v2079) d2077
              obtain ⟨G2095, eG2096, hg2097, S2098⟩ := Sep.freeze (O' := [p2068, D2005, p1830, x1861, x1983, p1897]) S2093 (.head _) h2091 fr2092 ((all_cons ⟨(.tail _ (.head _)), (ne_of_none h2084 n2086)⟩ (all_cons ⟨(.tail _ (.tail _ (.head _))), (ne_of_none (e2081 _ _ (e2072 _ _ h2038)) n2086)⟩ (all_cons ⟨(.tail _ (.tail _ (.tail _ (.head _)))), (ne_of_none (e2081 _ _ (e2072 _ _ h2048)) n2086)⟩ (all_cons ⟨(.tail _ (.tail _ (.tail _ (.tail _ (.head _))))), (ne_of_none (e2081 _ _ h2078) n2086)⟩ (all_cons ⟨(.tail _ (.tail _ (.tail _ (.tail _ (.tail _ (.head _)))))), (ne_of_none (e2081 _ _ (e2072 _ _ h2050)) n2086)⟩ (all_cons ⟨(.tail _ (.tail _ (.tail _ (.tail _ (.tail _ (.tail _ (.head _))))))), (ne_of_none (e2081 _ _ (e2072 _ _ h2051)) n2086)⟩ all_nil)))))))
              have r2099 : Rp G2095 (V.ref p2085) (encD ((encL encD) (repL ([(encN (()))]) (v2079)))) := (rp_mk_list hg2097 (RpAll.mono eG2096 d2094))
              have h2100 := (e2089 _ _ (e2081 _ _ (e2072 _ _ h2038)))
              refine ⟨_, h2100, (app_len (RpAll.mono eG2096 d2043) z2054), ?_⟩
              generalize g2101 : upd H2088 D2005 _ = H2102
              obtain ⟨x2103, h2104⟩ := gen_mut g2101
              have S2105 := S2098.mut1 x2103 (.tail _ (.head _)) h2104
              have hw := cW_ok hw
              have h2106 := (x2103 _ _ (e2089 _ _ (e2081 _ _ (e2072 _ _ h2048))) (ne_of_none ((SameXs.of x1997) _ _ (e1990 _ _ h1973) (ni1 (ne_of_none h1973 n1985))) n2006))
              have h2107 := (x2103 _ _ (e2089 _ _ (e2081 _ _ h2078)) (ne_of_none ((SameXs.of x1997) _ _ h1994 (ni1 (ne_of_none h1974 n1985))) n2006))
              have h2108 := (x2103 _ _ (e2089 _ _ (e2081 _ _ (e2072 _ _ h2050))) (ne_of_none h1998 n2006))
              have h2109 := (x2103 _ _ (e2089 _ _ (e2081 _ _ (e2072 _ _ h2051))) (ne_of_none h2000 n2006))
              exact ⟨_, (acc2041 ++ [((encL encD) (repL ([(encN (()))]) (v2079)))]), _, (Same.trans eG2040 eG2096), (S2105.sub (all_cons (.tail _ (.head _)) (all_cons (.tail _ (.tail _ (.head _))) (all_cons (.tail _ (.tail _ (.tail _ (.head _)))) (all_cons (.tail _ (.tail _ (.tail _ (.tail _ (.head _))))) (all_cons (.tail _ (.tail _ (.tail _ (.tail _ (.tail _ (.head _)))))) all_nil)))))), h2106, h2107, h2108, h2109, h2104, (app_map (RpAll.mono eG2096 d2043) (RpAll.one r2099)), (same_mut (Same.trans (Same.trans (Same.trans eo2047 e2072) e2081) e2089) x2103 n2006), hw⟩
          intro H2110 hw
          obtain ⟨G2113, acc2115, vs2116, eG2114, S2111, h2122, h2123, h2124, h2125, h2112, d2117, eo2121, hw⟩ := hw
          have hw := hK2004 _ (cW_mapA0 (by rw [(RpAll.mono eG2114 d1977).len, List.length_map]) hw)
          have fr2126 := S1999.free n2006
          refine ⟨_, rfl, rfl, rfl, G2113, _, _, _, rfl, S2111.sG, (S2111.b0.seq q_script), cW_call hw (fun v2127 hw => ?_) (fun e he => (hE e he).elim)⟩
          refine ⟨_, rfl, _, rfl, _, _, _, rfl, h2123, G2113, _, _, v1872, rfl, S2111.sG, (hide_nil h2123), cW_callN hw (fun v2128 hw H2129 e2130 => ?_) trivial⟩
          have S2131 := S2111.same e2130
          have h2132 := (e2130 _ _ h2123)
          refine ⟨rfl, rfl, G2113, _, _, _, v1872, _, rfl, S2131.sG, (hide_nil h2132), cW_call hw (fun v2133 hw v2136 H2134 G2137 e2135 eG2138 sG2139 hn2140 r2141 => ?_) (fun e he => (hE e he).elim)⟩
          have S2142 := S2131.step e2135 eG2138 sG2139 hn2140
          obtain ⟨a2143, vs2144, rfl, h2145, d2146⟩ := rp_list r2141
          refine ⟨fun σ H' => ∃ (planes_2151 : (List (List (List Int)))) (u2152 : V) (G' : Hp), σ = [some (V.ref a_script), some (V.ref p1830), some (V.int (width_1844)), some (V.int (height_1845)), some (V.ref x1861), some (V.int ((1 + ((itD (v1827) (4)) % 5)))), some (V.ref x1983), some (V.ref D2005), u1924, some u2152, none, none, none, none, none, none, none, none, none, none, none, none] ∧ Same G2137 G' ∧ Sep [] H H G' H' [p1830, x1861, x1983, D2005] ∧ H' p1830 = some (.lst ((v1827 : (List Int)).map V.int)) ∧ H' x1861 = some (.ins AD.c_Format dx1862 [("width", V.int (v1872.width)), ("height", V.int (v1872.height)), ("depth", V.int (v1872.depth)), ("chroma", V.int (v1872.chroma))]) ∧ H' x1983 = some (.ins AD.c_Settings dx1984 [("fmt", V.ref x1861), ("slots", V.int (v1995.slots)), ("rows", V.int (v1995.rows)), ("deblock", V.bl (v1995.deblock)), ("offset", V.bl (v1995.offset)), ("layers", V.int (v1995.layers))]) ∧ H' D2005 = some (.lst (vs2116)) ∧ Rp G' u2152 ((encL (encL (encL PyData.int))) planes_2151) ∧ cW (F_law_k4 ((1 + ((itD (v1827) (4)) % 5))) ((⟨v1872, v1995.slots, v1995.rows, v1995.deblock, v1995.offset, v1995.layers⟩ : St_Settings)) (acc2115) planes_2151) KK EE, ?_, ?_⟩
          · obtain ⟨K2153, hK2154, hw⟩ := cW_push hw
            obtain ⟨g2155, hw⟩ := cW_grd hw
            have h2156 := (e2135 _ _ (e2130 _ _ h2122))
            refine ⟨_, rfl, _, _, _, _, rfl, rfl, (SqL.of h2156), (atI_map g2155), _, _, rfl, rfl, (show (0 : Int) < 3 by decide), _, _, rfl, rfl, _, rfl, ?_⟩
            refine iteD (fun c2157 => ?_) (fun c2157 => ?_)
            · have hw := cW_pos c2157 hw
              obtain ⟨K2159, hK2160, hw⟩ := cW_push hw
              refine ⟨_, rfl, _, rfl, ⟨_, (SqL.of (S2142.sG _ _ h2145))⟩, fun D2161 n2162 => lc_list (K := K) (a := a2143) (xs := vs2144) (fun i1 H' => ∃ (G' : Hp) (acc2164 : (List (List (List Int)))) (vs2165 : List V), Same G2137 G' ∧ Sep [] H H G' H' [D2161, p1830, x1861, x1983, D2005] ∧ H' p1830 = some (.lst ((v1827 : (List Int)).map V.int)) ∧ H' x1861 = some (.ins AD.c_Format dx1862 [("width", V.int (v1872.width)), ("height", V.int (v1872.height)), ("depth", V.int (v1872.depth)), ("chroma", V.int (v1872.chroma))]) ∧ H' x1983 = some (.ins AD.c_Settings dx1984 [("fmt", V.ref x1861), ("slots", V.int (v1995.slots)), ("rows", V.int (v1995.rows)), ("deblock", V.bl (v1995.deblock)), ("offset", V.bl (v1995.offset)), ("layers", V.int (v1995.layers))]) ∧ H' D2005 = some (.lst (vs2116)) ∧ H' D2161 = some (.lst vs2165) ∧ RpAll G' vs2165 ((acc2164 : (List (List (List Int)))).map (encL (encL PyData.int))) ∧ Same H2134 H' ∧ cW (mapA (List.drop i1 (v2133)) acc2164 (fun x => noEr (F_law_c5  x))) K2159 EE) ?_ ?_ ?_ ?_⟩
              · generalize g2166 : upd H2134 D2161 _ = H2167
                obtain ⟨e2168, h2169⟩ := gen_new n2162 g2166
                have fr2170 := S2142.free n2162
                have S2171 := S2142.new n2162 e2168 h2169 fr2170
                have h2172 := (e2168 _ _ h2156)
                have h2173 := (e2168 _ _ (e2135 _ _ h2132))
                have h2174 := (e2168 _ _ (e2135 _ _ (e2130 _ _ h2124)))
                have h2175 := (e2168 _ _ (e2135 _ _ (e2130 _ _ h2112)))
                exact ⟨_, [], [], Same.refl _, (S2171.sub (all_cons (.head _) (all_cons (.tail _ (.tail _ (.head _))) (all_cons (.tail _ (.tail _ (.tail _ (.head _)))) (all_cons (.tail _ (.tail _ (.tail _ (.tail _ (.head _))))) (all_cons (.tail _ (.head _)) all_nil)))))), h2172, h2173, h2174, h2175, h2169, RpAll.nil, e2168, hw⟩
              · intro i1 H2176 _ hw
                obtain ⟨G2179, acc2181, vs2182, eG2180, S2177, h2188, h2189, h2190, h2191, h2178, d2183, eo2187, hw⟩ := hw
                exact (SqL.of (S2177.sG _ _ (eG2180 _ _ h2145)))
              · intro i1 x H2192 hj hw
                obtain ⟨G2195, acc2197, vs2198, eG2196, S2193, h2204, h2205, h2206, h2207, h2194, d2199, eo2203, hw⟩ := hw
                obtain ⟨x2208, hx, r2209⟩ := RpAll.get (RpAll.mono eG2196 d2146) hj
                obtain ⟨a2210, vs2211, rfl, h2212, d2213⟩ := rp_list r2209
                obtain ⟨z2214, hw⟩ := cW_mapA hx hw
                have hw := cW_noEr hw
                have hw : cW (F_law_c5  (x2208)) _ (fun _ => False) := hw
                unfold F_law_c5 at hw
                refine ⟨rfl, ?_⟩
                refine tyes_go ?_
                obtain ⟨K2217, hK2218, hw⟩ := cW_push hw
                refine ⟨_, rfl, _, rfl, ⟨_, (SqL.of (S2193.sG _ _ h2212))⟩, fun D2219 n2220 => lc_list (K := K) (a := a2210) (xs := vs2211) (fun i2 H' => ∃ (G' : Hp) (acc2222 : (List (List Int))) (vs2223 : List V), Same G2195 G' ∧ Sep [] H H G' H' [D2219, p1830, x1861, x1983, D2005, D2161] ∧ H' p1830 = some (.lst ((v1827 : (List Int)).map V.int)) ∧ H' x1861 = some (.ins AD.c_Format dx1862 [("width", V.int (v1872.width)), ("height", V.int (v1872.height)), ("depth", V.int (v1872.depth)), ("chroma", V.int (v1872.chroma))]) ∧ H' x1983 = some (.ins AD.c_Settings dx1984 [("fmt", V.ref x1861), ("slots", V.int (v1995.slots)), ("rows", V.int (v1995.rows)), ("deblock", V.bl (v1995.deblock)), ("offset", V.bl (v1995.offset)), ("layers", V.int (v1995.layers))]) ∧ H' D2005 = some (.lst (vs2116)) ∧ H' D2161 = some (.lst (vs2198)) ∧ H' D2219 = some (.lst vs2223) ∧ RpAll G' vs2223 ((acc2222 : (List (List Int))).map (encL PyData.int)) ∧ Same H2192 H' ∧ cW (mapA (List.drop i2 (x2208)) acc2222 (fun x => noEr (F_law_c6  x))) K2217 (fun _ => False)) ?_ ?_ ?_ ?_⟩
                · generalize g2224 : upd H2192 D2219 _ = H2225
                  obtain ⟨e2226, h2227⟩ := gen_new n2220 g2224
                  have fr2228 := S2193.free n2220
                  have S2229 := S2193.new n2220 e2226 h2227 fr2228
                  have h2230 := (e2226 _ _ h2204)
                  have h2231 := (e2226 _ _ h2205)
                  have h2232 := (e2226 _ _ h2206)
                  have h2233 := (e2226 _ _ h2207)
                  have h2234 := (e2226 _ _ h2194)
                  exact ⟨_, [], [], Same.refl _, (S2229.sub (all_cons (.head _) (all_cons (.tail _ (.tail _ (.head _))) (all_cons (.tail _ (.tail _ (.tail _ (.head _)))) (all_cons (.tail _ (.tail _ (.tail _ (.tail _ (.head _))))) (all_cons (.tail _ (.tail _ (.tail _ (.tail _ (.tail _ (.head _)))))) (all_cons (.tail _ (.head _)) all_nil))))))), h2230, h2231, h2232, h2233, h2234, h2227, RpAll.nil, e2226, hw⟩
                · intro i2 H2235 _ hw
                  obtain ⟨G2238, acc2240, vs2241, eG2239, S2236, h2247, h2248, h2249, h2250, h2251, h2237, d2242, eo2246, hw⟩ := hw
                  exact (SqL.of (S2236.sG _ _ (eG2239 _ _ h2212)))
                · intro i2 x H2252 hj hw
                  obtain ⟨G2255, acc2257, vs2258, eG2256, S2253, h2264, h2265, h2266, h2267, h2268, h2254, d2259, eo2263, hw⟩ := hw
                  obtain ⟨x2269, hx, r2270⟩ := RpAll.get (RpAll.mono eG2256 d2213) hj
                  obtain ⟨a2271, rfl, h2272⟩ := rp_ints r2270
                  obtain ⟨z2273, hw⟩ := cW_mapA hx hw
                  have hw := cW_noEr hw
                  have hw : cW (F_law_c6  (x2269)) _ (fun _ => False) := hw
                  unfold F_law_c6 at hw
                  refine ⟨rfl, ?_⟩
                  refine tyes_go ?_
                  obtain ⟨K2276, hK2277, hw⟩ := cW_push hw
                  refine ⟨_, rfl, _, rfl, ⟨_, (SqL.of (S2253.sG _ _ h2272))⟩, fun D2278 n2279 => lc_list (K := K) (a := a2271) (xs := (x2269 : List Int).map V.int) (fun i3 H' => ∃ (G' : Hp) (acc2281 : (List Int)), Same G2255 G' ∧ Sep [] H H G' H' [D2278, p1830, x1861, x1983, D2005, D2161, D2219] ∧ H' p1830 = some (.lst ((v1827 : (List Int)).map V.int)) ∧ H' x1861 = some (.ins AD.c_Format dx1862 [("width", V.int (v1872.width)), ("height", V.int (v1872.height)), ("depth", V.int (v1872.depth)), ("chroma", V.int (v1872.chroma))]) ∧ H' x1983 = some (.ins AD.c_Settings dx1984 [("fmt", V.ref x1861), ("slots", V.int (v1995.slots)), ("rows", V.int (v1995.rows)), ("deblock", V.bl (v1995.deblock)), ("offset", V.bl (v1995.offset)), ("layers", V.int (v1995.layers))]) ∧ H' D2005 = some (.lst (vs2116)) ∧ H' D2161 = some (.lst (vs2198)) ∧ H' D2219 = some (.lst (vs2258)) ∧ H' D2278 = some (.lst ((acc2281 : (List Int)).map V.int)) ∧ Same H2252 H' ∧ cW (mapA (List.drop i3 (x2269)) acc2281 (fun x => noEr (F_law_c7  x))) K2276 (fun _ => False)) ?_ ?_ ?_ ?_⟩
                  · generalize g2283 : upd H2252 D2278 _ = H2284
                    obtain ⟨e2285, h2286⟩ := gen_new n2279 g2283
                    have fr2287 := S2253.free n2279
                    have S2288 := S2253.new n2279 e2285 h2286 fr2287
                    have h2289 := (e2285 _ _ h2264)
                    have h2290 := (e2285 _ _ h2265)
                    have h2291 := (e2285 _ _ h2266)
                    have h2292 := (e2285 _ _ h2267)
                    have h2293 := (e2285 _ _ h2268)
                    have h2294 := (e2285 _ _ h2254)
                    exact ⟨_, [], Same.refl _, (S2288.sub (all_cons (.head _) (all_cons (.tail _ (.tail _ (.head _))) (all_cons (.tail _ (.tail _ (.tail _ (.head _)))) (all_cons (.tail _ (.tail _ (.tail _ (.tail _ (.head _))))) (all_cons (.tail _ (.tail _ (.tail _ (.tail _ (.tail _ (.head _)))))) (all_cons (.tail _ (.tail _ (.tail _ (.tail _ (.tail _ (.tail _ (.head _))))))) (all_cons (.tail _ (.head _)) all_nil)))))))), h2289, h2290, h2291, h2292, h2293, h2294, h2286, e2285, hw⟩
                  · intro i3 H2295 _ hw
                    obtain ⟨G2298, acc2300, eG2299, S2296, h2307, h2308, h2309, h2310, h2311, h2312, h2297, eo2306, hw⟩ := hw
                    exact (SqL.of (S2296.sG _ _ (eG2299 _ _ h2272)))
                  · intro i3 x H2313 hj hw
                    obtain ⟨G2316, acc2318, eG2317, S2314, h2325, h2326, h2327, h2328, h2329, h2330, h2315, eo2324, hw⟩ := hw
                    obtain ⟨x2331, hx, rfl⟩ := map_get hj
                    obtain ⟨z2332, hw⟩ := cW_mapA hx hw
                    have hw := cW_noEr hw
                    have hw : cW (F_law_c7  (x2331)) _ (fun _ => False) := hw
                    unfold F_law_c7 at hw
                    refine ⟨rfl, ?_⟩
                    refine tyes_go ?_
                    refine ⟨_, rfl, _, _, rfl, rfl, (show (0 : Int) < 3 by decide), _, h2315, (app_lenM z2332), ?_⟩
                    generalize g2334 : upd H2313 D2278 _ = H2335
                    obtain ⟨x2336, h2337⟩ := gen_mut g2334
                    have S2338 := S2314.mut1 x2336 (.head _) h2337
                    have hw := cW_ok hw
                    have h2339 := (x2336 _ _ h2325 (ne_of_none h2264 n2279))
                    have h2340 := (x2336 _ _ h2326 (ne_of_none h2265 n2279))
                    have h2341 := (x2336 _ _ h2327 (ne_of_none h2266 n2279))
                    have h2342 := (x2336 _ _ h2328 (ne_of_none h2267 n2279))
                    have h2343 := (x2336 _ _ h2329 (ne_of_none h2268 n2279))
                    have h2344 := (x2336 _ _ h2330 (ne_of_none h2254 n2279))
                    exact ⟨_, (acc2318 ++ [(x2331 % 3)]), eG2317, S2338, h2339, h2340, h2341, h2342, h2343, h2344, (snoc_map h2337), (same_mut eo2324 x2336 n2279), hw⟩
                  intro H2345 hw
                  obtain ⟨G2348, acc2350, eG2349, S2346, h2357, h2358, h2359, h2360, h2361, h2362, h2347, eo2356, hw⟩ := hw
                  have hw := hK2277 _ (cW_mapA0 (by rw [List.length_map]) hw)
                  have fr2363 := S2253.free n2279
                  obtain ⟨G2364, eG2365, hg2366, S2367⟩ := Sep.freeze (O' := [p1830, x1861, x1983, D2005, D2161, D2219]) S2346 (.head _) h2347 fr2363 ((all_cons ⟨(.tail _ (.head _)), (ne_of_none h2264 n2279)⟩ (all_cons ⟨(.tail _ (.tail _ (.head _))), (ne_of_none h2265 n2279)⟩ (all_cons ⟨(.tail _ (.tail _ (.tail _ (.head _)))), (ne_of_none h2266 n2279)⟩ (all_cons ⟨(.tail _ (.tail _ (.tail _ (.tail _ (.head _))))), (ne_of_none h2267 n2279)⟩ (all_cons ⟨(.tail _ (.tail _ (.tail _ (.tail _ (.tail _ (.head _)))))), (ne_of_none h2268 n2279)⟩ (all_cons ⟨(.tail _ (.tail _ (.tail _ (.tail _ (.tail _ (.tail _ (.head _))))))), (ne_of_none h2254 n2279)⟩ all_nil)))))))
                  refine ⟨_, h2362, (app_len (RpAll.mono eG2365 (RpAll.mono eG2349 d2259)) z2273), ?_⟩
                  generalize g2368 : upd H2345 D2219 _ = H2369
                  obtain ⟨x2370, h2371⟩ := gen_mut g2368
                  have S2372 := S2367.mut1 x2370 (.tail _ (.tail _ (.tail _ (.tail _ (.tail _ (.head _)))))) h2371
                  have hw := cW_ok hw
                  have h2373 := (x2370 _ _ h2357 (ne_of_none h2204 n2220))
                  have h2374 := (x2370 _ _ h2358 (ne_of_none h2205 n2220))
                  have h2375 := (x2370 _ _ h2359 (ne_of_none h2206 n2220))
                  have h2376 := (x2370 _ _ h2360 (ne_of_none h2207 n2220))
                  have h2377 := (x2370 _ _ h2361 (ne_of_none h2194 n2220))
                  exact ⟨_, (acc2257 ++ [acc2350]), _, (Same.trans (Same.trans eG2256 eG2349) eG2365), (S2372.sub (all_cons (.tail _ (.tail _ (.tail _ (.tail _ (.tail _ (.head _)))))) (all_cons (.head _) (all_cons (.tail _ (.head _)) (all_cons (.tail _ (.tail _ (.head _))) (all_cons (.tail _ (.tail _ (.tail _ (.head _)))) (all_cons (.tail _ (.tail _ (.tail _ (.tail _ (.head _))))) all_nil))))))), h2373, h2374, h2375, h2376, h2377, h2371, (app_map (RpAll.mono eG2365 (RpAll.mono eG2349 d2259)) (RpAll.one (rp_mk_ints hg2366))), (same_mut (Same.trans eo2263 eo2356) x2370 n2220), hw⟩
                intro H2378 hw
                obtain ⟨G2381, acc2383, vs2384, eG2382, S2379, h2390, h2391, h2392, h2393, h2394, h2380, d2385, eo2389, hw⟩ := hw
                have hw := hK2218 _ (cW_mapA0 (by rw [(RpAll.mono eG2382 d2213).len, List.length_map]) hw)
                have fr2395 := S2193.free n2220
                obtain ⟨G2396, eG2397, hg2398, S2399⟩ := Sep.freeze (O' := [p1830, x1861, x1983, D2005, D2161]) S2379 (.head _) h2380 fr2395 ((all_cons ⟨(.tail _ (.head _)), (ne_of_none h2204 n2220)⟩ (all_cons ⟨(.tail _ (.tail _ (.head _))), (ne_of_none h2205 n2220)⟩ (all_cons ⟨(.tail _ (.tail _ (.tail _ (.head _)))), (ne_of_none h2206 n2220)⟩ (all_cons ⟨(.tail _ (.tail _ (.tail _ (.tail _ (.head _))))), (ne_of_none h2207 n2220)⟩ (all_cons ⟨(.tail _ (.tail _ (.tail _ (.tail _ (.tail _ (.head _)))))), (ne_of_none h2194 n2220)⟩ all_nil))))))
                refine ⟨_, h2394, (app_len (RpAll.mono eG2397 (RpAll.mono eG2382 d2199)) z2214), ?_⟩
                generalize g2400 : upd H2378 D2161 _ = H2401
                obtain ⟨x2402, h2403⟩ := gen_mut g2400
                have S2404 := S2399.mut1 x2402 (.tail _ (.tail _ (.tail _ (.tail _ (.head _))))) h2403
                have hw := cW_ok hw
                have h2405 := (x2402 _ _ h2390 (ne_of_none h2156 n2162))
                have h2406 := (x2402 _ _ h2391 (ne_of_none (e2135 _ _ h2132) n2162))
                have h2407 := (x2402 _ _ h2392 (ne_of_none (e2135 _ _ (e2130 _ _ h2124)) n2162))
                have h2408 := (x2402 _ _ h2393 (ne_of_none (e2135 _ _ (e2130 _ _ h2112)) n2162))
                exact ⟨_, (acc2197 ++ [acc2383]), _, (Same.trans (Same.trans eG2196 eG2382) eG2397), (S2404.sub (all_cons (.tail _ (.tail _ (.tail _ (.tail _ (.head _))))) (all_cons (.head _) (all_cons (.tail _ (.head _)) (all_cons (.tail _ (.tail _ (.head _))) (all_cons (.tail _ (.tail _ (.tail _ (.head _)))) all_nil)))))), h2405, h2406, h2407, h2408, h2403, (app_map (RpAll.mono eG2397 (RpAll.mono eG2382 d2199)) (RpAll.one (rp_mk_list hg2398 (RpAll.mono eG2397 d2385)))), (same_mut (Same.trans eo2203 eo2389) x2402 n2162), hw⟩
              intro H2409 hw
              obtain ⟨G2412, acc2414, vs2415, eG2413, S2410, h2421, h2422, h2423, h2424, h2411, d2416, eo2420, hw⟩ := hw
              have hw := hK2160 _ (cW_mapA0 (by rw [(RpAll.mono eG2413 d2146).len, List.length_map]) hw)
              have fr2425 := S2142.free n2162
              have hw := cW_ok hw
              have hw := hK2154 _ hw
              obtain ⟨G2426, eG2427, hg2428, S2429⟩ := Sep.freeze (O' := [p1830, x1861, x1983, D2005]) S2410 (.head _) h2411 fr2425 ((all_cons ⟨(.tail _ (.head _)), (ne_of_none h2156 n2162)⟩ (all_cons ⟨(.tail _ (.tail _ (.head _))), (ne_of_none (e2135 _ _ h2132) n2162)⟩ (all_cons ⟨(.tail _ (.tail _ (.tail _ (.head _)))), (ne_of_none (e2135 _ _ (e2130 _ _ h2124)) n2162)⟩ (all_cons ⟨(.tail _ (.tail _ (.tail _ (.tail _ (.head _))))), (ne_of_none (e2135 _ _ (e2130 _ _ h2112)) n2162)⟩ all_nil)))))
              exact ⟨(acc2414), _, _, rfl, (Same.trans eG2413 eG2427), S2429, h2421, h2422, h2423, h2424, (rp_mk_list hg2428 (RpAll.mono eG2427 d2416)), hw⟩
            · have hw := cW_neg c2157 hw
              have hw := cW_ok hw
              have hw := hK2154 _ hw
              have h2430 := (e2135 _ _ h2132)
              have h2431 := (e2135 _ _ (e2130 _ _ h2124))
              have h2432 := (e2135 _ _ (e2130 _ _ h2112))
              exact ⟨(v2133), _, _, rfl, (Same.refl _), (S2142.sub (all_cons (.tail _ (.head _)) (all_cons (.tail _ (.tail _ (.head _))) (all_cons (.tail _ (.tail _ (.tail _ (.head _)))) (all_cons (.head _) all_nil))))), h2156, h2430, h2431, h2432, (rp_mk_list h2145 d2146), hw⟩
          · intro σ H2433 hw
            obtain ⟨planes_2151, u2152, G2440, rfl, eG2441, S2434, h2435, h2436, h2437, h2438, r2439, hw⟩ := hw
            obtain ⟨a2442, vs2443, rfl, h2444, d2445⟩ := rp_list r2439
            unfold F_law_k4 at hw
            refine ⟨_, rfl, _, rfl, ?_⟩
            have r2446 : Rp G2440 (V.ref a2442) (encD ((encL (encL (encL PyData.int))) (planes_2151))) := (rp_mk_list h2444 d2445)
            obtain ⟨G2447, eG2448, hg2449, S2450⟩ := Sep.freeze (O' := [p1830, x1861, x1983]) S2434 (.tail _ (.tail _ (.tail _ (.head _)))) h2438 fr2126 ((all_cons ⟨(.head _), (ne_of_none ((SameXs.of x1997) _ _ (e1990 _ _ h1973) (ni1 (ne_of_none h1973 n1985))) n2006)⟩ (all_cons ⟨(.tail _ (.head _)), (ne_of_none ((SameXs.of x1997) _ _ h1994 (ni1 (ne_of_none h1974 n1985))) n2006)⟩ (all_cons ⟨(.tail _ (.tail _ (.head _))), (ne_of_none h1998 n2006)⟩ all_nil))))
            have r2451 : Rp G2447 (V.ref D2005) (encD ((encL encD) (acc2115))) := (rp_mk_list hg2449 (RpAll.mono eG2448 (RpAll.mono eG2441 (RpAll.mono eG2138 d2117))))
            refine ⟨(by show 2 ≤ sizeLine; decide), fun p2452 n2453 => ?_⟩
            generalize g2454 : upd H2433 p2452 _ = H2455
            obtain ⟨e2456, h2457⟩ := gen_new n2453 g2454
            have h2458 : H2455 p2452 = some (.lst ([(V.ref a2442), (V.ref D2005)])) := h2457
            have fr2459 := S2450.free n2453
            have S2460 := S2450.new n2453 e2456 h2458 fr2459
            have d2461 : RpAll G2447 ([(V.ref a2442), (V.ref D2005)]) (([((encL (encL (encL PyData.int))) (planes_2151)), ((encL encD) (acc2115))] : (List PyData)).map encD) := (RpAll.cons (Rp.mono eG2448 r2446) (RpAll.cons r2451 RpAll.nil))
            obtain ⟨g2462, hw⟩ := cW_grd hw
            refine ⟨_, ((encL encD) ([((encL (encL (encL PyData.int))) (planes_2151)), ((encL encD) (acc2115))])), rfl, (rp_mk_list h2458 (RpAll.mono S2460.sG d2461)), g2462, (by show 0 ≤ sizeLine; decide), fun p2463 n2464 => ?_⟩
            generalize g2465 : upd H2455 p2463 _ = H2466
            obtain ⟨e2467, h2468⟩ := gen_new n2464 g2465
            have h2469 : H2466 p2463 = some (.lst ([])) := h2468
            have fr2470 := S2460.free n2464
            have S2471 := S2460.new n2464 e2467 h2469 fr2470
            have d2472 : RpAll G2447 ([]) ((([] : (List (List (List Int)))) : (List (List (List Int)))).map (encL (encL PyData.int))) := RpAll.nil
            have h2473 := (e2467 _ _ (e2456 _ _ h2436))
            refine ⟨_, rfl, _, _, _, rfl, h2473, G2447, _, _, v1872, rfl, S2471.sG, (hide_nil h2473), cW_callN hw (fun v2474 hw H2475 e2476 => ?_) trivial⟩
            have S2477 := S2471.same e2476
            obtain ⟨g2478, hw⟩ := cW_grd hw
            obtain ⟨K2488, hK2489, hw⟩ := cW_push hw
            refine ⟨_, rfl, g2478.1, g2478.2, for_range (lo := 0) (n := Int.toNat (v2474)) (fun i σ H' => ∃ (due_2490 : (List (List (List Int)))) (vs2491 : List V) (u2492 : Option V) (u2493 : Option V) (G' : Hp), σ = [some (V.ref a_script), some (V.ref p1830), some (V.int (width_1844)), some (V.int (height_1845)), some (V.ref x1861), some (V.int ((1 + ((itD (v1827) (4)) % 5)))), some (V.ref x1983), some (V.ref D2005), u1924, some (V.ref a2442), some (V.str ((PyData.shown ((encL encD) ([((encL (encL (encL PyData.int))) (planes_2151)), ((encL encD) (acc2115))]))))), some (V.ref p2463), u2492, u2493, none, none, none, none, none, none, none, none] ∧ Same G2447 G' ∧ Sep [] H H G' H' [p1830, x1861, x1983, p2463] ∧ H' p1830 = some (.lst ((v1827 : (List Int)).map V.int)) ∧ H' x1861 = some (.ins AD.c_Format dx1862 [("width", V.int (v1872.width)), ("height", V.int (v1872.height)), ("depth", V.int (v1872.depth)), ("chroma", V.int (v1872.chroma))]) ∧ H' x1983 = some (.ins AD.c_Settings dx1984 [("fmt", V.ref x1861), ("slots", V.int (v1995.slots)), ("rows", V.int (v1995.rows)), ("deblock", V.bl (v1995.deblock)), ("offset", V.bl (v1995.offset)), ("layers", V.int (v1995.layers))]) ∧ H' p2463 = some (.lst (vs2491)) ∧ RpAll G' (vs2491) ((due_2490 : (List (List (List Int)))).map (encL (encL PyData.int))) ∧ cW (forS (List.drop i (rng (0) (Int.toNat (v2474)))) due_2490 (fun s x => F_law_b8 (v1872) ((1 + ((itD (v1827) (4)) % 5))) (acc2115) (planes_2151) s x)) K2488 EE) ?_ ?_ ?_⟩
            · have h2494 := (e2476 _ _ (e2467 _ _ (e2456 _ _ h2435)))
              have h2495 := (e2476 _ _ h2473)
              have h2496 := (e2476 _ _ (e2467 _ _ (e2456 _ _ h2437)))
              have h2497 := (e2476 _ _ h2469)
              exact ⟨(([] : (List (List (List Int))))), _, _, _, _, rfl, (Same.refl _), (S2477.sub (all_cons (.tail _ (.tail _ (.head _))) (all_cons (.tail _ (.tail _ (.tail _ (.head _)))) (all_cons (.tail _ (.tail _ (.tail _ (.tail _ (.head _))))) (all_cons (.head _) all_nil))))), h2494, h2495, h2496, h2497, d2472, hw⟩
            · intro i σ H2498 hi hw
              obtain ⟨due_2490, vs2491, u2492, u2493, G2505, rfl, eG2506, S2499, h2500, h2501, h2502, h2503, d2504, hw⟩ := hw
              have hw := cW_forS (rng_get hi) hw
              generalize (0 + (i : Int)) = x2507 at hw ⊢
              have hw : cW (F_law_b8 (v1872) ((1 + ((itD (v1827) (4)) % 5))) (acc2115) (planes_2151) (due_2490) (x2507)) _ EE := hw
              unfold F_law_b8 at hw
              obtain ⟨K2509, hK2510, hw⟩ := cW_name hw
              refine ⟨fun σ H' => ∃ (small_2519 : Int) (G' : Hp), σ = [some (V.ref a_script), some (V.ref p1830), some (V.int (width_1844)), some (V.int (height_1845)), some (V.ref x1861), some (V.int ((1 + ((itD (v1827) (4)) % 5)))), some (V.ref x1983), some (V.ref D2005), u1924, some (V.ref a2442), some (V.str ((PyData.shown ((encL encD) ([((encL (encL (encL PyData.int))) (planes_2151)), ((encL encD) (acc2115))]))))), some (V.ref p2463), some (V.int (x2507)), some (V.int small_2519), none, none, none, none, none, none, none, none] ∧ Same G2505 G' ∧ Sep [] H H G' H' [p1830, x1861, x1983, p2463] ∧ H' p1830 = some (.lst ((v1827 : (List Int)).map V.int)) ∧ H' x1861 = some (.ins AD.c_Format dx1862 [("width", V.int (v1872.width)), ("height", V.int (v1872.height)), ("depth", V.int (v1872.depth)), ("chroma", V.int (v1872.chroma))]) ∧ H' x1983 = some (.ins AD.c_Settings dx1984 [("fmt", V.ref x1861), ("slots", V.int (v1995.slots)), ("rows", V.int (v1995.rows)), ("deblock", V.bl (v1995.deblock)), ("offset", V.bl (v1995.offset)), ("layers", V.int (v1995.layers))]) ∧ H' p2463 = some (.lst (vs2491)) ∧ cW (F_law_k9 (v1872) ((1 + ((itD (v1827) (4)) % 5))) (acc2115) (planes_2151) (due_2490) (x2507) small_2519) K2509 EE, ?_, ?_⟩
              · obtain ⟨K2520, hK2521, hw⟩ := cW_push hw
                refine ⟨_, rfl, _, _, rfl, rfl, _, rfl, ?_⟩
                refine iteD (fun c2522 => ?_) (fun c2522 => ?_)
                · have hw := cW_pos c2522 hw
                  refine ⟨_, rfl, _, _, _, _, _, rfl, h2501, T.cl_Format, T.n_Format_chroma, rfl, _, _, rfl, rfl, _, rfl, ?_⟩
                  refine iteD (fun c2523 => ?_) (fun c2523 => ?_)
                  · have hw := cW_pos c2523 hw
                    have hw := cW_ok hw
                    have hw := hK2521 _ hw
                    exact ⟨(4), _, rfl, (Same.refl _), S2499, h2500, h2501, h2502, h2503, hw⟩
                  · have hw := cW_neg c2523 hw
                    have hw := cW_ok hw
                    have hw := hK2521 _ hw
                    exact ⟨(8), _, rfl, (Same.refl _), S2499, h2500, h2501, h2502, h2503, hw⟩
                · have hw := cW_neg c2522 hw
                  refine iteF ?_
                  have hw := cW_ok hw
                  have hw := hK2521 _ hw
                  exact ⟨(8), _, rfl, (Same.refl _), S2499, h2500, h2501, h2502, h2503, hw⟩
              · intro σ H2524 hw
                obtain ⟨small_2519, G2530, rfl, eG2531, S2525, h2526, h2527, h2528, h2529, hw⟩ := hw
                unfold F_law_k9 at hw
                obtain ⟨g2532, hw⟩ := cW_grd hw
                obtain ⟨v2533, a2534, r2535⟩ := RpAll.ixD (k := x2507) (RpAll.mono eG2531 (RpAll.mono eG2506 (RpAll.mono eG2448 d2445))) g2532
                obtain ⟨a2536, vs2537, rfl, h2538, d2539⟩ := rp_list r2535
                obtain ⟨g2540, hw⟩ := cW_grd hw
                refine ⟨_, rfl, (.inl ⟨rfl, _, SqL.of h2529⟩), _, rfl, _, rfl, _, _, _, _, rfl, rfl, (SqL.of (S2525.sG _ _ (eG2531 _ _ (eG2506 _ _ (eG2448 _ _ h2444))))), a2534, _, rfl, _, rfl, _, rfl, _, rfl, _, rfl, _, _, _, _, _, rfl, h2527, T.cl_Format, T.n_Format_depth, rfl, _, _, rfl, rfl, _, _, rfl, rfl, (shl_side g2540.1 g2540.2.1 g2540.2.2.1 g2540.2.2.2), _, rfl, _, _, _, rfl, h2527, G2530, _, _, v1872, rfl, S2525.sG, (hide_nil h2527), cW_callN hw (fun v2541 hw H2542 e2543 => ?_) trivial⟩
                have S2544 := S2525.same e2543
                refine ⟨rfl, rfl, G2530, _, _, _, _, _, _, _, _, _, rfl, S2544.sG, (Rp.hide_nil (rp_mk_list (S2544.sG _ _ h2538) (RpAll.mono S2544.sG d2539))), (Rp.hide_nil (rp_mk_list (S2544.sG _ _ (eG2531 _ _ (eG2506 _ _ hg2449))) (RpAll.mono S2544.sG (RpAll.mono eG2531 (RpAll.mono eG2506 (RpAll.mono eG2448 (RpAll.mono eG2441 (RpAll.mono eG2138 d2117)))))))), cW_call hw (fun v2545 hw v2548 H2546 G2549 e2547 eG2550 sG2551 hn2552 r2553 => ?_) (fun e he => (hE e he).elim)⟩
                have S2554 := S2544.step e2547 eG2550 sG2551 hn2552
                obtain ⟨a2555, vs2556, rfl, h2557, d2558⟩ := rp_list r2553
                obtain ⟨g2559, hw⟩ := cW_grd hw
                have h2560 := (e2547 _ _ (e2543 _ _ h2529))
                refine ⟨_, _, _, rfl, rfl, h2560, (app_len (RpAll.mono eG2550 (RpAll.mono eG2531 d2504)) g2559), ?_⟩
                generalize g2561 : upd H2546 p2463 _ = H2562
                obtain ⟨x2563, h2564⟩ := gen_mut g2561
                have h2565 : H2562 p2463 = some (.lst (vs2491 ++ [V.ref a2555])) := h2564
                have S2566 := S2554.mut1 x2563 (.tail _ (.tail _ (.tail _ (.head _)))) h2565
                have d2567 : RpAll G2549 (vs2491 ++ [V.ref a2555]) (((due_2490) ++ [v2545] : (List (List (List Int)))).map (encL (encL PyData.int))) := app_map (RpAll.mono eG2550 (RpAll.mono eG2531 d2504)) (RpAll.one (rp_mk_list h2557 d2558))
                have hw := cW_bnd hw
                have hw := cW_ok hw
                have hw := hK2510 _ hw
                have h2569 := (x2563 _ _ (e2547 _ _ (e2543 _ _ h2526)) (ne_of_none (e2456 _ _ h2435) n2464))
                have h2570 := (x2563 _ _ (e2547 _ _ (e2543 _ _ h2527)) (ne_of_none (e2456 _ _ h2436) n2464))
                have h2571 := (x2563 _ _ (e2547 _ _ (e2543 _ _ h2528)) (ne_of_none (e2456 _ _ h2437) n2464))
                exact ⟨((due_2490) ++ [v2545]), _, _, _, _, rfl, (Same.trans (Same.trans eG2506 eG2531) eG2550), S2566, h2569, h2570, h2571, h2565, d2567, hw⟩
            · intro σ H2572 hw
              obtain ⟨due_2490, vs2491, u2492, u2493, G2579, rfl, eG2580, S2573, h2574, h2575, h2576, h2577, d2578, hw⟩ := hw
              have hw := hK2489 _ (cW_forS0 (rng_len _ _).symm hw)
              have hw : cW (F_law_r8 ((1 + ((itD (v1827) (4)) % 5))) ((⟨v1872, v1995.slots, v1995.rows, v1995.deblock, v1995.offset, v1995.layers⟩ : St_Settings)) (acc2115) (planes_2151) ((PyData.shown ((encL encD) ([((encL (encL (encL PyData.int))) (planes_2151)), ((encL encD) (acc2115))])))) (due_2490)) _ EE := hw
              unfold F_law_r8 at hw
              refine ⟨_, rfl, _, rfl, _, rfl, rfl, rfl, G2579, _, _, _, _, (⟨v1872, v1995.slots, v1995.rows, v1995.deblock, v1995.offset, v1995.layers⟩ : St_Settings), _, _, _, _, rfl, S2573.sG, (hide_nil h2576), (hide_nil h2575), (Rp.hide_nil (rp_mk_list (S2573.sG _ _ (eG2580 _ _ (eG2448 _ _ h2444))) (RpAll.mono S2573.sG (RpAll.mono eG2580 (RpAll.mono eG2448 d2445))))), (Rp.hide_nil (rp_mk_list (S2573.sG _ _ (eG2580 _ _ hg2449)) (RpAll.mono S2573.sG (RpAll.mono eG2580 (RpAll.mono eG2448 (RpAll.mono eG2441 (RpAll.mono eG2138 d2117))))))), cW_call hw (fun v2582 hw H2583 a2585 vs2586 L2587 G2588 n2589 nb2590 nd2591 e2584 eG2592 sG2593 hn2594 ga2595 gL2596 h2597 w2598 => ?_) (fun e he => (hE e he).elim)⟩
              have fr2599 := S2573.free n2589
              have S2600 : Sep _ _ _ _ H2583 (a2585 :: (L2587 ++ (p1830 :: (x1861 :: (x1983 :: (p2463 :: [])))))) := Sep.steptree S2573 e2584 eG2592 sG2593 hn2594 (a2585 :: L2587) (all_cons ⟨n2589, ga2595, some_ne h2597⟩ (fun b hb => ⟨nb2590 b hb, gL2596 b hb, OwAll.there w2598 b hb⟩))
              refine ⟨_, rfl, _, rfl, ?_⟩
              have r2601 : Rp G2588 (V.ref a2442) (encD ((encL (encL (encL PyData.int))) (planes_2151))) := (rp_mk_list (eG2592 _ _ (eG2580 _ _ (eG2448 _ _ h2444))) (RpAll.mono eG2592 (RpAll.mono eG2580 (RpAll.mono eG2448 d2445))))
              have r2602 : Rp G2588 (V.ref D2005) (encD ((encL encD) (acc2115))) := (rp_mk_list (eG2592 _ _ (eG2580 _ _ hg2449)) (RpAll.mono eG2592 (RpAll.mono eG2580 (RpAll.mono eG2448 (RpAll.mono eG2441 (RpAll.mono eG2138 d2117))))))
              refine ⟨(by show 2 ≤ sizeLine; decide), fun p2603 n2604 => ?_⟩
              generalize g2605 : upd H2583 p2603 _ = H2606
              obtain ⟨e2607, h2608⟩ := gen_new n2604 g2605
              have h2609 : H2606 p2603 = some (.lst ([(V.ref a2442), (V.ref D2005)])) := h2608
              have fr2610 := S2600.free n2604
              have S2611 := S2600.new n2604 e2607 h2609 fr2610
              have d2612 : RpAll G2588 ([(V.ref a2442), (V.ref D2005)]) (([((encL (encL (encL PyData.int))) (planes_2151)), ((encL encD) (acc2115))] : (List PyData)).map encD) := (RpAll.cons r2601 (RpAll.cons r2602 RpAll.nil))
              obtain ⟨g2613, hw⟩ := cW_grd hw
              refine ⟨_, ((encL encD) ([((encL (encL (encL PyData.int))) (planes_2151)), ((encL encD) (acc2115))])), rfl, (rp_mk_list h2609 (RpAll.mono S2611.sG d2612)), g2613, _, rfl, rfl, _, rfl, ?_⟩
              refine iteN (fun c2614 => ?_) (fun c2614 => ?_)
              · have hw := cW_neg c2614 hw
                refine iteT ?_
                have hw := cW_ok hw
                exact eq_bl (k _) (hK0 _ hw).symm
              · have hw := cW_pos c2614 hw
                have h2615 := (e2607 _ _ h2597)
                refine ⟨_, rfl, _, _, _, _, _, rfl, (.ty _), (.base (.lst h2615)), rfl, _, rfl, ?_⟩
                refine iteF ?_
                have w2616 : OwAll G2588 H2606 L2587 (vs2586) ((v2582 : (List (List (List Int)))).map (oL (oL oI))) := (OwAll.mono (Same.refl _) (keeps_same e2607) w2598)
                have h2617 := (e2607 _ _ (e2584 _ _ h2577))
                refine ⟨_, rfl, _, rfl, _, _, (rp_mk_list h2615 (OwAll.rpA w2616 (encO_L (encO_L encO_I)) S2611.sG)), (rp_mk_list h2617 (RpAll.mono S2611.sG (RpAll.mono eG2592 d2578))), _, rfl, ?_⟩
                refine iteN (fun c2618 => ?_) (fun c2618 => ?_)
                · have hw := cW_neg c2618 hw
                  have hw := cW_ok hw
                  exact eq_bl (k _) (hK0 _ hw).symm
                · have hw := cW_pos c2618 hw
                  have h2619 := (e2607 _ _ (e2584 _ _ h2575))
                  refine ⟨_, rfl, _, _, _, rfl, h2619, G2588, _, _, v1872, rfl, S2611.sG, (hide_nil h2619), cW_callN hw (fun v2620 hw H2621 e2622 => ?_) trivial⟩
                  have S2623 := S2611.same e2622
                  obtain ⟨g2624, hw⟩ := cW_grd hw
                  obtain ⟨K2630, hK2631, hw⟩ := cW_push hw
                  refine ⟨_, rfl, g2624.1, g2624.2, for_range (lo := 0) (n := Int.toNat (v2620)) (fun i σ H' => ∃ (u2632 : Option V) (told_2633 : (List (List (List Int)))) (vs2634 : List V) (L2635 : List Addr) (u2636 : Option V) (G' : Hp), σ = [some (V.ref a_script), some (V.ref p1830), some (V.int (width_1844)), some (V.int (height_1845)), some (V.ref x1861), some (V.int ((1 + ((itD (v1827) (4)) % 5)))), some (V.ref x1983), some (V.ref D2005), u1924, some (V.ref a2442), some (V.str ((PyData.shown ((encL encD) ([((encL (encL (encL PyData.int))) (planes_2151)), ((encL encD) (acc2115))]))))), some (V.ref p2463), u2632, u2493, some (V.ref a2585), u2636, none, none, none, none, none, none] ∧ Same G2588 G' ∧ Sep [] H H G' H' (p1830 :: (x1861 :: (x1983 :: (p2463 :: (a2585 :: (L2635 ++ [])))))) ∧ H' p1830 = some (.lst ((v1827 : (List Int)).map V.int)) ∧ H' x1861 = some (.ins AD.c_Format dx1862 [("width", V.int (v1872.width)), ("height", V.int (v1872.height)), ("depth", V.int (v1872.depth)), ("chroma", V.int (v1872.chroma))]) ∧ H' x1983 = some (.ins AD.c_Settings dx1984 [("fmt", V.ref x1861), ("slots", V.int (v1995.slots)), ("rows", V.int (v1995.rows)), ("deblock", V.bl (v1995.deblock)), ("offset", V.bl (v1995.offset)), ("layers", V.int (v1995.layers))]) ∧ H' p2463 = some (.lst (vs2491)) ∧ H' a2585 = some (.lst (vs2634)) ∧ (∀ b ∈ L2635, b ≠ p1830) ∧ (∀ b ∈ L2635, b ≠ x1861) ∧ (∀ b ∈ L2635, b ≠ x1983) ∧ (∀ b ∈ L2635, b ≠ p2463) ∧ (∀ b ∈ L2635, b ≠ a2585) ∧ OwAll G' H' L2635 (vs2634) ((told_2633 : (List (List (List Int)))).map (oL (oL oI))) ∧ cW (forS (List.drop i (rng (0) (Int.toNat (v2620)))) told_2633 (fun s x => F_law_b10  s x)) K2630 EE) ?_ ?_ ?_⟩
                  · have h2637 := (e2622 _ _ (e2607 _ _ (e2584 _ _ h2574)))
                    have h2638 := (e2622 _ _ h2619)
                    have h2639 := (e2622 _ _ (e2607 _ _ (e2584 _ _ h2576)))
                    have h2640 := (e2622 _ _ h2617)
                    have h2641 := (e2622 _ _ h2615)
                    have w2642 : OwAll G2588 H2621 L2587 (vs2586) ((v2582 : (List (List (List Int)))).map (oL (oL oI))) := (OwAll.mono (Same.refl _) (keeps_same e2622) w2616)
                    exact ⟨_, (v2582), (vs2586), L2587, _, _, rfl, (Same.refl _), (S2623.sub (all_cons (.tail _ (.tail _ (List.mem_append_right _ (.head _)))) (all_cons (.tail _ (.tail _ (List.mem_append_right _ (.tail _ (.head _))))) (all_cons (.tail _ (.tail _ (List.mem_append_right _ (.tail _ (.tail _ (.head _)))))) (all_cons (.tail _ (.tail _ (List.mem_append_right _ (.tail _ (.tail _ (.tail _ (.head _))))))) (all_cons (.tail _ (.head _)) (all_app ((fun b hb => (.tail _ (.tail _ (List.mem_append_left _ hb)))) : ∀ b ∈ L2587, b ∈ (p2603 :: (a2585 :: (L2587 ++ (p1830 :: (x1861 :: (x1983 :: (p2463 :: [])))))))) all_nil))))))), h2637, h2638, h2639, h2640, h2641, (new_ne2 nb2590 (S2573.ow _ (.head _)).2.1), (new_ne2 nb2590 (S2573.ow _ (.tail _ (.head _))).2.1), (new_ne2 nb2590 (S2573.ow _ (.tail _ (.tail _ (.head _)))).2.1), (new_ne2 nb2590 (S2573.ow _ (.tail _ (.tail _ (.tail _ (.head _))))).2.1), nd2591, w2642, hw⟩
                  · intro i σ H2643 hi hw
                    obtain ⟨u2632, told_2633, vs2634, L2635, u2636, G2656, rfl, eG2657, S2644, h2645, h2646, h2647, h2648, h2649, ne2650, ne2651, ne2652, ne2653, ne2654, w2655, hw⟩ := hw
                    have hw := cW_forS (rng_get hi) hw
                    generalize (0 + (i : Int)) = x2658 at hw ⊢
                    have hw : cW (F_law_b10  (told_2633) (x2658)) _ EE := hw
                    unfold F_law_b10 at hw
                    obtain ⟨K2660, hK2661, hw⟩ := cW_name hw
                    obtain ⟨g2663, hw⟩ := cW_grd hw
                    obtain ⟨v2664, L2665, a2666, w2667, hs2668, up2669, gr2670⟩ := OwAll.partM (k := x2658) w2655 g2663
                    obtain ⟨b2671, vs2672, L2673, rfl, rfl, h2674, w2675, nb2676⟩ := Ow.toList w2667
                    obtain ⟨g2677, hw⟩ := cW_grd hw
                    obtain ⟨K2679, hK2680, hw⟩ := cW_push hw
                    refine ⟨_, rfl, _, rfl, _, _, _, _, rfl, rfl, (SqL.of h2649), a2666, _, _, _, rfl, (SqL.of h2674), (by rw [(OwAll.rpA w2675 (encO_L encO_I) S2644.sG).len, List.length_map]), _, rfl, g2677.1, g2677.2, for_range (lo := 0) (n := Int.toNat (((((itD (told_2633) (x2658))) : (List (List Int))).length : Int))) (fun i σ H' => ∃ (told_2681 : (List (List (List Int)))) (vs2682 : List V) (L2683 : List Addr) (u2684 : Option V) (G' : Hp), σ = [some (V.ref a_script), some (V.ref p1830), some (V.int (width_1844)), some (V.int (height_1845)), some (V.ref x1861), some (V.int ((1 + ((itD (v1827) (4)) % 5)))), some (V.ref x1983), some (V.ref D2005), u1924, some (V.ref a2442), some (V.str ((PyData.shown ((encL encD) ([((encL (encL (encL PyData.int))) (planes_2151)), ((encL encD) (acc2115))]))))), some (V.ref p2463), some (V.int (x2658)), u2493, some (V.ref a2585), u2684, none, none, none, none, none, none] ∧ Same G2656 G' ∧ Sep [] H H G' H' (p1830 :: (x1861 :: (x1983 :: (p2463 :: (a2585 :: (L2683 ++ [])))))) ∧ H' p1830 = some (.lst ((v1827 : (List Int)).map V.int)) ∧ H' x1861 = some (.ins AD.c_Format dx1862 [("width", V.int (v1872.width)), ("height", V.int (v1872.height)), ("depth", V.int (v1872.depth)), ("chroma", V.int (v1872.chroma))]) ∧ H' x1983 = some (.ins AD.c_Settings dx1984 [("fmt", V.ref x1861), ("slots", V.int (v1995.slots)), ("rows", V.int (v1995.rows)), ("deblock", V.bl (v1995.deblock)), ("offset", V.bl (v1995.offset)), ("layers", V.int (v1995.layers))]) ∧ H' p2463 = some (.lst (vs2491)) ∧ H' a2585 = some (.lst (vs2682)) ∧ (∀ b ∈ L2683, b ≠ p1830) ∧ (∀ b ∈ L2683, b ≠ x1861) ∧ (∀ b ∈ L2683, b ≠ x1983) ∧ (∀ b ∈ L2683, b ≠ p2463) ∧ (∀ b ∈ L2683, b ≠ a2585) ∧ OwAll G' H' L2683 (vs2682) ((told_2681 : (List (List (List Int)))).map (oL (oL oI))) ∧ cW (forS (List.drop i (rng (0) (Int.toNat (((((itD (told_2633) (x2658))) : (List (List Int))).length : Int))))) told_2681 (fun s x => F_law_b11 (x2658) s x)) K2679 EE) ?_ ?_ ?_⟩
                    · exact ⟨(told_2633), (vs2634), L2635, _, _, rfl, (Same.refl _), (S2644.sub (all_cons (.head _) (all_cons (.tail _ (.head _)) (all_cons (.tail _ (.tail _ (.head _))) (all_cons (.tail _ (.tail _ (.tail _ (.head _)))) (all_cons (.tail _ (.tail _ (.tail _ (.tail _ (.head _))))) (all_app ((fun b hb => (.tail _ (.tail _ (.tail _ (.tail _ (.tail _ (List.mem_append_left _ hb))))))) : ∀ b ∈ L2635, b ∈ (p1830 :: (x1861 :: (x1983 :: (p2463 :: (a2585 :: (L2635 ++ []))))))) all_nil))))))), h2645, h2646, h2647, h2648, h2649, ne2650, ne2651, ne2652, ne2653, ne2654, w2655, hw⟩
                    · intro i σ H2685 hi hw
                      obtain ⟨told_2681, vs2682, L2683, u2684, G2698, rfl, eG2699, S2686, h2687, h2688, h2689, h2690, h2691, ne2692, ne2693, ne2694, ne2695, ne2696, w2697, hw⟩ := hw
                      have hw := cW_forS (rng_get hi) hw
                      generalize (0 + (i : Int)) = x2700 at hw ⊢
                      have hw : cW (F_law_b11 (x2658) (told_2681) (x2700)) _ EE := hw
                      unfold F_law_b11 at hw
                      obtain ⟨K2702, hK2703, hw⟩ := cW_name hw
                      obtain ⟨g2705, hw⟩ := cW_grd hw
                      obtain ⟨v2706, L2707, a2708, w2709, hs2710, up2711, gr2712⟩ := OwAll.partM (k := x2658) w2697 g2705
                      obtain ⟨b2713, vs2714, L2715, rfl, rfl, h2716, w2717, nb2718⟩ := Ow.toList w2709
                      obtain ⟨g2719, hw⟩ := cW_grd hw
                      obtain ⟨v2720, L2721, a2722, w2723, hs2724, up2725, gr2726⟩ := OwAll.partM (k := x2700) w2717 g2719
                      obtain ⟨b2727, rfl, rfl, h2728⟩ := Ow.toInts w2723
                      obtain ⟨g2729, hw⟩ := cW_grd hw
                      refine ⟨_, rfl, _, rfl, _, rfl, _, _, _, _, rfl, rfl, (SqL.of h2691), a2708, _, rfl, _, _, _, _, rfl, rfl, (SqL.of h2716), a2722, _, _, _, _, rfl, rfl, h2728, (ixN_map g2729), ?_⟩
                      generalize g2730 : upd H2685 b2727 _ = H2731
                      obtain ⟨x2732, h2733⟩ := gen_mut g2730
                      have h2734 : H2731 b2727 = some (.lst ((setL ((itD ((itD (told_2681) (x2658))) (x2700))) (0) ((-1)) : (List Int)).map V.int)) := set_map h2733
                      have S2735 := S2686.mut1 x2732 (((fun b hb => (((fun b hb => (.tail _ (.tail _ (.tail _ (.tail _ (.tail _ (List.mem_append_left _ hb))))))) : ∀ b ∈ L2683, b ∈ (p1830 :: (x1861 :: (x1983 :: (p2463 :: (a2585 :: (L2683 ++ []))))))) : ∀ b ∈ L2683, b ∈ (p1830 :: (x1861 :: (x1983 :: (p2463 :: (a2585 :: (L2683 ++ []))))))) b ((fun c hc => hs2710 c (List.mem_cons_of_mem _ hc)) b hb)) : ∀ b ∈ L2715, b ∈ (p1830 :: (x1861 :: (x1983 :: (p2463 :: (a2585 :: (L2683 ++ []))))))) _ (hs2724 _ List.mem_cons_self)) h2734
                      have w2736 : OwAll G2698 H2731 L2715 (vs2714) ((setL ((itD (told_2681) (x2658))) (x2700) (setL ((itD ((itD (told_2681) (x2658))) (x2700))) (0) ((-1))) : (List (List Int))).map (oL oI)) := upd_tree up2725 x2732 List.mem_cons_self (Ow.ints h2734)
                      have hw := cW_bnd hw
                      have h2738 := (x2732 _ _ h2716 (nb2718 _ (hs2724 _ List.mem_cons_self)).symm)
                      have w2739 : OwAll G2698 H2731 L2683 (vs2682) ((setL (told_2681) (x2658) (setL ((itD (told_2681) (x2658))) (x2700) (setL ((itD ((itD (told_2681) (x2658))) (x2700))) (0) ((-1)))) : (List (List (List Int)))).map (oL (oL oI))) := upd_tree up2711 x2732 (List.mem_cons_of_mem _ (hs2724 _ List.mem_cons_self)) (Ow.list h2738 w2736 (nb2718 : ∀ b ∈ L2715, b ≠ b2713))
                      have hw := cW_bnd hw
                      have hw := cW_ok hw
                      have hw := hK2703 _ hw
                      have h2741 := (x2732 _ _ h2687 ((((fun b hb => (ne2692 : ∀ b ∈ L2683, b ≠ p1830) b ((fun c hc => hs2710 c (List.mem_cons_of_mem _ hc)) b hb)) : ∀ b ∈ L2715, b ≠ p1830) _ (hs2724 _ List.mem_cons_self))).symm)
                      have h2742 := (x2732 _ _ h2688 ((((fun b hb => (ne2693 : ∀ b ∈ L2683, b ≠ x1861) b ((fun c hc => hs2710 c (List.mem_cons_of_mem _ hc)) b hb)) : ∀ b ∈ L2715, b ≠ x1861) _ (hs2724 _ List.mem_cons_self))).symm)
                      have h2743 := (x2732 _ _ h2689 ((((fun b hb => (ne2694 : ∀ b ∈ L2683, b ≠ x1983) b ((fun c hc => hs2710 c (List.mem_cons_of_mem _ hc)) b hb)) : ∀ b ∈ L2715, b ≠ x1983) _ (hs2724 _ List.mem_cons_self))).symm)
                      have h2744 := (x2732 _ _ h2690 ((((fun b hb => (ne2695 : ∀ b ∈ L2683, b ≠ p2463) b ((fun c hc => hs2710 c (List.mem_cons_of_mem _ hc)) b hb)) : ∀ b ∈ L2715, b ≠ p2463) _ (hs2724 _ List.mem_cons_self))).symm)
                      have h2745 := (x2732 _ _ h2691 ((((fun b hb => (ne2696 : ∀ b ∈ L2683, b ≠ a2585) b ((fun c hc => hs2710 c (List.mem_cons_of_mem _ hc)) b hb)) : ∀ b ∈ L2715, b ≠ a2585) _ (hs2724 _ List.mem_cons_self))).symm)
                      exact ⟨(setL (told_2681) (x2658) (setL ((itD (told_2681) (x2658))) (x2700) (setL ((itD ((itD (told_2681) (x2658))) (x2700))) (0) ((-1))))), (vs2682), L2683, _, _, rfl, eG2699, (S2735.sub (all_cons (.head _) (all_cons (.tail _ (.head _)) (all_cons (.tail _ (.tail _ (.head _))) (all_cons (.tail _ (.tail _ (.tail _ (.head _)))) (all_cons (.tail _ (.tail _ (.tail _ (.tail _ (.head _))))) (all_app ((fun b hb => (.tail _ (.tail _ (.tail _ (.tail _ (.tail _ (List.mem_append_left _ hb))))))) : ∀ b ∈ L2683, b ∈ (p1830 :: (x1861 :: (x1983 :: (p2463 :: (a2585 :: (L2683 ++ []))))))) all_nil))))))), h2741, h2742, h2743, h2744, h2745, ne2692, ne2693, ne2694, ne2695, ne2696, w2739, hw⟩
                    · intro σ H2746 hw
                      obtain ⟨told_2681, vs2682, L2683, u2684, G2759, rfl, eG2760, S2747, h2748, h2749, h2750, h2751, h2752, ne2753, ne2754, ne2755, ne2756, ne2757, w2758, hw⟩ := hw
                      have hw := hK2680 _ (cW_forS0 (rng_len _ _).symm hw)
                      have hw : cW (F_law_r11  (told_2681)) _ EE := hw
                      unfold F_law_r11 at hw
                      have hw := cW_ok hw
                      have hw := hK2661 _ hw
                      exact ⟨_, (told_2681), (vs2682), L2683, _, _, rfl, (Same.trans eG2657 eG2760), (S2747.sub (all_cons (.head _) (all_cons (.tail _ (.head _)) (all_cons (.tail _ (.tail _ (.head _))) (all_cons (.tail _ (.tail _ (.tail _ (.head _)))) (all_cons (.tail _ (.tail _ (.tail _ (.tail _ (.head _))))) (all_app ((fun b hb => (.tail _ (.tail _ (.tail _ (.tail _ (.tail _ (List.mem_append_left _ hb))))))) : ∀ b ∈ L2683, b ∈ (p1830 :: (x1861 :: (x1983 :: (p2463 :: (a2585 :: (L2683 ++ []))))))) all_nil))))))), h2748, h2749, h2750, h2751, h2752, ne2753, ne2754, ne2755, ne2756, ne2757, w2758, hw⟩
                  · intro σ H2762 hw
                    obtain ⟨u2632, told_2633, vs2634, L2635, u2636, G2775, rfl, eG2776, S2763, h2764, h2765, h2766, h2767, h2768, ne2769, ne2770, ne2771, ne2772, ne2773, w2774, hw⟩ := hw
                    have hw := hK2631 _ (cW_forS0 (rng_len _ _).symm hw)
                    have hw : cW (F_law_r10 ((1 + ((itD (v1827) (4)) % 5))) ((⟨v1872, v1995.slots, v1995.rows, v1995.deblock, v1995.offset, v1995.layers⟩ : St_Settings)) (acc2115) (planes_2151) ((PyData.shown ((encL encD) ([((encL (encL (encL PyData.int))) (planes_2151)), ((encL encD) (acc2115))])))) (told_2633)) _ EE := hw
                    unfold F_law_r10 at hw
                    obtain ⟨K2779, hK2780, hw⟩ := cW_push hw
                    refine ⟨_, rfl, _, rfl, ⟨_, (SqL.of (S2763.sG _ _ (eG2776 _ _ (eG2592 _ _ (eG2580 _ _ (eG2448 _ _ h2444))))))⟩, fun D2781 n2782 => lc_list (K := K) (a := a2442) (xs := vs2443) (fun i1 H' => ∃ (G' : Hp) (acc2784 : (List (List (List Int)))) (vs2785 : List V), Same G2775 G' ∧ Sep [] H H G' H' (D2781 :: (a2585 :: (p1830 :: (x1861 :: (x1983 :: (p2463 :: (L2635 ++ []))))))) ∧ H' a2585 = some (.lst (vs2634)) ∧ H' p1830 = some (.lst ((v1827 : (List Int)).map V.int)) ∧ H' x1861 = some (.ins AD.c_Format dx1862 [("width", V.int (v1872.width)), ("height", V.int (v1872.height)), ("depth", V.int (v1872.depth)), ("chroma", V.int (v1872.chroma))]) ∧ H' x1983 = some (.ins AD.c_Settings dx1984 [("fmt", V.ref x1861), ("slots", V.int (v1995.slots)), ("rows", V.int (v1995.rows)), ("deblock", V.bl (v1995.deblock)), ("offset", V.bl (v1995.offset)), ("layers", V.int (v1995.layers))]) ∧ H' p2463 = some (.lst (vs2491)) ∧ H' D2781 = some (.lst vs2785) ∧ OwAll G' H' L2635 (vs2634) ((told_2633 : (List (List (List Int)))).map (oL (oL oI))) ∧ RpAll G' vs2785 ((acc2784 : (List (List (List Int)))).map (encL (encL PyData.int))) ∧ Same H2762 H' ∧ cW (mapA (List.drop i1 (planes_2151)) acc2784 (fun x => noEr (F_law_c12  x))) K2779 EE) ?_ ?_ ?_ ?_⟩
                    · generalize g2786 : upd H2762 D2781 _ = H2787
                      obtain ⟨e2788, h2789⟩ := gen_new n2782 g2786
                      have fr2790 := S2763.free n2782
                      have S2791 := S2763.new n2782 e2788 h2789 fr2790
                      have h2792 := (e2788 _ _ h2768)
                      have h2793 := (e2788 _ _ h2764)
                      have h2794 := (e2788 _ _ h2765)
                      have h2795 := (e2788 _ _ h2766)
                      have h2796 := (e2788 _ _ h2767)
                      have w2797 : OwAll G2775 H2787 L2635 (vs2634) ((told_2633 : (List (List (List Int)))).map (oL (oL oI))) := (OwAll.mono (Same.refl _) (keeps_same e2788) w2774)
                      exact ⟨_, [], [], Same.refl _, (S2791.sub (all_cons (.head _) (all_cons (.tail _ (.tail _ (.tail _ (.tail _ (.tail _ (.head _)))))) (all_cons (.tail _ (.head _)) (all_cons (.tail _ (.tail _ (.head _))) (all_cons (.tail _ (.tail _ (.tail _ (.head _)))) (all_cons (.tail _ (.tail _ (.tail _ (.tail _ (.head _))))) (all_app ((fun b hb => (.tail _ (.tail _ (.tail _ (.tail _ (.tail _ (.tail _ (List.mem_append_left _ hb)))))))) : ∀ b ∈ L2635, b ∈ (D2781 :: (p1830 :: (x1861 :: (x1983 :: (p2463 :: (a2585 :: (L2635 ++ [])))))))) all_nil)))))))), h2792, h2793, h2794, h2795, h2796, h2789, w2797, RpAll.nil, e2788, hw⟩
                    · intro i1 H2798 _ hw
                      obtain ⟨G2801, acc2803, vs2804, eG2802, S2799, h2810, h2811, h2812, h2813, h2814, h2800, w2815, d2805, eo2809, hw⟩ := hw
                      exact (SqL.of (S2799.sG _ _ (eG2802 _ _ (eG2776 _ _ (eG2592 _ _ (eG2580 _ _ (eG2448 _ _ h2444)))))))
                    · intro i1 x H2816 hj hw
                      obtain ⟨G2819, acc2821, vs2822, eG2820, S2817, h2828, h2829, h2830, h2831, h2832, h2818, w2833, d2823, eo2827, hw⟩ := hw
                      obtain ⟨x2834, hx, r2835⟩ := RpAll.get (RpAll.mono eG2820 (RpAll.mono eG2776 (RpAll.mono eG2592 (RpAll.mono eG2580 (RpAll.mono eG2448 d2445))))) hj
                      obtain ⟨a2836, vs2837, rfl, h2838, d2839⟩ := rp_list r2835
                      obtain ⟨z2840, hw⟩ := cW_mapA hx hw
                      have hw := cW_noEr hw
                      have hw : cW (F_law_c12  (x2834)) _ (fun _ => False) := hw
                      unfold F_law_c12 at hw
                      refine ⟨rfl, ?_⟩
                      refine tyes_go ?_
                      obtain ⟨g2842, hw⟩ := cW_grd hw
                      obtain ⟨K2845, hK2846, hw⟩ := cW_push hw
                      refine ⟨_, rfl, _, _, _, rfl, (SqL.of (S2817.sG _ _ h2838)), (by rw [d2839.len, List.length_map]), _, rfl, g2842.1, g2842.2, fun D2847 n2848 => lc_range (lo := 0) (n := Int.toNat ((((x2834) : (List (List Int))).length : Int))) (fun i2 H' => ∃ (G' : Hp) (acc2850 : (List (List Int))) (vs2851 : List V), Same G2819 G' ∧ Sep [] H H G' H' (D2847 :: (a2585 :: (p1830 :: (x1861 :: (x1983 :: (p2463 :: (D2781 :: (L2635 ++ [])))))))) ∧ H' a2585 = some (.lst (vs2634)) ∧ H' p1830 = some (.lst ((v1827 : (List Int)).map V.int)) ∧ H' x1861 = some (.ins AD.c_Format dx1862 [("width", V.int (v1872.width)), ("height", V.int (v1872.height)), ("depth", V.int (v1872.depth)), ("chroma", V.int (v1872.chroma))]) ∧ H' x1983 = some (.ins AD.c_Settings dx1984 [("fmt", V.ref x1861), ("slots", V.int (v1995.slots)), ("rows", V.int (v1995.rows)), ("deblock", V.bl (v1995.deblock)), ("offset", V.bl (v1995.offset)), ("layers", V.int (v1995.layers))]) ∧ H' p2463 = some (.lst (vs2491)) ∧ H' D2781 = some (.lst (vs2822)) ∧ H' D2847 = some (.lst vs2851) ∧ OwAll G' H' L2635 (vs2634) ((told_2633 : (List (List (List Int)))).map (oL (oL oI))) ∧ RpAll G' vs2851 ((acc2850 : (List (List Int))).map (encL PyData.int)) ∧ Same H2816 H' ∧ cW (mapA (List.drop i2 (rng (0) (Int.toNat ((((x2834) : (List (List Int))).length : Int))))) acc2850 (fun x => noEr (F_law_c13 (x2834) x))) K2845 (fun _ => False)) ?_ ?_ ?_⟩
                      · generalize g2852 : upd H2816 D2847 _ = H2853
                        obtain ⟨e2854, h2855⟩ := gen_new n2848 g2852
                        have fr2856 := S2817.free n2848
                        have S2857 := S2817.new n2848 e2854 h2855 fr2856
                        have h2858 := (e2854 _ _ h2828)
                        have h2859 := (e2854 _ _ h2829)
                        have h2860 := (e2854 _ _ h2830)
                        have h2861 := (e2854 _ _ h2831)
                        have h2862 := (e2854 _ _ h2832)
                        have h2863 := (e2854 _ _ h2818)
                        have w2864 : OwAll G2819 H2853 L2635 (vs2634) ((told_2633 : (List (List (List Int)))).map (oL (oL oI))) := (OwAll.mono (Same.refl _) (keeps_same e2854) w2833)
                        exact ⟨_, [], [], Same.refl _, (S2857.sub (all_cons (.head _) (all_cons (.tail _ (.tail _ (.head _))) (all_cons (.tail _ (.tail _ (.tail _ (.head _)))) (all_cons (.tail _ (.tail _ (.tail _ (.tail _ (.head _))))) (all_cons (.tail _ (.tail _ (.tail _ (.tail _ (.tail _ (.head _)))))) (all_cons (.tail _ (.tail _ (.tail _ (.tail _ (.tail _ (.tail _ (.head _))))))) (all_cons (.tail _ (.head _)) (all_app ((fun b hb => (.tail _ (.tail _ (.tail _ (.tail _ (.tail _ (.tail _ (.tail _ (List.mem_append_left _ hb))))))))) : ∀ b ∈ L2635, b ∈ (D2847 :: (D2781 :: (a2585 :: (p1830 :: (x1861 :: (x1983 :: (p2463 :: (L2635 ++ []))))))))) all_nil))))))))), h2858, h2859, h2860, h2861, h2862, h2863, h2855, w2864, RpAll.nil, e2854, hw⟩
                      · intro i2 H2865 hi hw
                        obtain ⟨G2868, acc2870, vs2871, eG2869, S2866, h2877, h2878, h2879, h2880, h2881, h2882, h2867, w2883, d2872, eo2876, hw⟩ := hw
                        obtain ⟨z2884, hw⟩ := cW_mapA (rng_get hi) hw
                        generalize (0 + (i2 : Int)) = x2885 at hw ⊢
                        have hw := cW_noEr hw
                        have hw : cW (F_law_c13 (x2834) (x2885)) _ (fun _ => False) := hw
                        unfold F_law_c13 at hw
                        refine ⟨rfl, ?_⟩
                        refine tyes_go ?_
                        obtain ⟨g2887, hw⟩ := cW_grd hw
                        obtain ⟨v2888, a2889, r2890⟩ := RpAll.ixD (k := (((((x2834) : (List (List Int))).length : Int) - 1) - x2885)) (RpAll.mono eG2869 d2839) g2887
                        obtain ⟨a2891, rfl, h2892⟩ := rp_ints r2890
                        refine ⟨_, rfl, _, rfl, _, _, _, rfl, (SqL.of (S2866.sG _ _ (eG2869 _ _ h2838))), (by rw [(RpAll.mono eG2869 d2839).len, List.length_map]), _, _, rfl, rfl, _, rfl, _, _, rfl, rfl, _, _, _, _, rfl, rfl, (SqL.of (S2866.sG _ _ (eG2869 _ _ h2838))), a2889, _, _, rfl, (SqL.of (S2866.sG _ _ h2892)), fun p2893 n2894 => ?_⟩
                        generalize g2895 : upd H2865 p2893 _ = H2896
                        obtain ⟨e2897, h2898⟩ := gen_new n2894 g2895
                        have h2899 : H2896 p2893 = some (.lst (((itD (x2834) ((((((x2834) : (List (List Int))).length : Int) - 1) - x2885))) : (List Int)).map V.int)) := h2898
                        have fr2900 := S2866.free n2894
                        have S2901 := S2866.new n2894 e2897 h2899 fr2900
                        obtain ⟨G2902, eG2903, hg2904, S2905⟩ := Sep.freeze (O' := (D2847 :: (a2585 :: (p1830 :: (x1861 :: (x1983 :: (p2463 :: (D2781 :: (L2635 ++ []))))))))) S2901 (.head _) h2899 fr2900 ((all_cons ⟨(.tail _ (.head _)), (ne_of_none h2867 n2894)⟩ (all_cons ⟨(.tail _ (.tail _ (.head _))), (ne_of_none h2877 n2894)⟩ (all_cons ⟨(.tail _ (.tail _ (.tail _ (.head _)))), (ne_of_none h2878 n2894)⟩ (all_cons ⟨(.tail _ (.tail _ (.tail _ (.tail _ (.head _))))), (ne_of_none h2879 n2894)⟩ (all_cons ⟨(.tail _ (.tail _ (.tail _ (.tail _ (.tail _ (.head _)))))), (ne_of_none h2880 n2894)⟩ (all_cons ⟨(.tail _ (.tail _ (.tail _ (.tail _ (.tail _ (.tail _ (.head _))))))), (ne_of_none h2881 n2894)⟩ (all_cons ⟨(.tail _ (.tail _ (.tail _ (.tail _ (.tail _ (.tail _ (.tail _ (.head _)))))))), (ne_of_none h2882 n2894)⟩ (all_app (fun b hb => ⟨((fun b hb => (.tail _ (.tail _ (.tail _ (.tail _ (.tail _ (.tail _ (.tail _ (.tail _ (List.mem_append_left _ hb)))))))))) : ∀ b ∈ L2635, b ∈ (p2893 :: (D2847 :: (a2585 :: (p1830 :: (x1861 :: (x1983 :: (p2463 :: (D2781 :: (L2635 ++ [])))))))))) b hb, (there_ne (fun b_ hb_ => (S2866.ow b_ (((fun b hb => (.tail _ (.tail _ (.tail _ (.tail _ (.tail _ (.tail _ (.tail _ (List.mem_append_left _ hb))))))))) : ∀ b ∈ L2635, b ∈ (D2847 :: (a2585 :: (p1830 :: (x1861 :: (x1983 :: (p2463 :: (D2781 :: (L2635 ++ []))))))))) b_ hb_)).2.1) n2894) b hb⟩) all_nil)))))))))
                        have h2906 := (e2897 _ _ h2867)
                        refine ⟨_, h2906, (app_len (RpAll.mono eG2903 d2872) z2884), ?_⟩
                        generalize g2907 : upd H2896 D2847 _ = H2908
                        obtain ⟨x2909, h2910⟩ := gen_mut g2907
                        have S2911 := S2905.mut1 x2909 (.head _) h2910
                        have hw := cW_ok hw
                        have h2912 := (x2909 _ _ (e2897 _ _ h2877) (ne_of_none h2828 n2848))
                        have h2913 := (x2909 _ _ (e2897 _ _ h2878) (ne_of_none h2829 n2848))
                        have h2914 := (x2909 _ _ (e2897 _ _ h2879) (ne_of_none h2830 n2848))
                        have h2915 := (x2909 _ _ (e2897 _ _ h2880) (ne_of_none h2831 n2848))
                        have h2916 := (x2909 _ _ (e2897 _ _ h2881) (ne_of_none h2832 n2848))
                        have h2917 := (x2909 _ _ (e2897 _ _ h2882) (ne_of_none h2818 n2848))
                        have w2918 : OwAll G2902 H2908 L2635 (vs2634) ((told_2633 : (List (List (List Int)))).map (oL (oL oI))) := (OwAll.mono eG2903 keeps_refl (OwAll.mono (Same.refl _) (keeps_mut x2909 ((there_ne (fun b_ hb_ => (S2817.ow b_ (((fun b hb => (.tail _ (.tail _ (.tail _ (.tail _ (.tail _ (.tail _ (List.mem_append_left _ hb)))))))) : ∀ b ∈ L2635, b ∈ (D2781 :: (a2585 :: (p1830 :: (x1861 :: (x1983 :: (p2463 :: (L2635 ++ [])))))))) b_ hb_)).2.1) n2848) : ∀ b ∈ L2635, b ≠ D2847)) (OwAll.mono (Same.refl _) (keeps_same e2897) w2883)))
                        exact ⟨_, (acc2870 ++ [(itD (x2834) ((((((x2834) : (List (List Int))).length : Int) - 1) - x2885)))]), _, (Same.trans eG2869 eG2903), S2911, h2912, h2913, h2914, h2915, h2916, h2917, h2910, w2918, (app_map (RpAll.mono eG2903 d2872) (RpAll.one (rp_mk_ints hg2904))), (same_mut (Same.trans eo2876 e2897) x2909 n2848), hw⟩
                      intro H2919 hw
                      obtain ⟨G2922, acc2924, vs2925, eG2923, S2920, h2931, h2932, h2933, h2934, h2935, h2936, h2921, w2937, d2926, eo2930, hw⟩ := hw
                      have hw := hK2846 _ (cW_mapA0 (rng_len _ _).symm hw)
                      have fr2938 := S2817.free n2848
                      obtain ⟨G2939, eG2940, hg2941, S2942⟩ := Sep.freeze (O' := (a2585 :: (p1830 :: (x1861 :: (x1983 :: (p2463 :: (D2781 :: (L2635 ++ [])))))))) S2920 (.head _) h2921 fr2938 ((all_cons ⟨(.tail _ (.head _)), (ne_of_none h2828 n2848)⟩ (all_cons ⟨(.tail _ (.tail _ (.head _))), (ne_of_none h2829 n2848)⟩ (all_cons ⟨(.tail _ (.tail _ (.tail _ (.head _)))), (ne_of_none h2830 n2848)⟩ (all_cons ⟨(.tail _ (.tail _ (.tail _ (.tail _ (.head _))))), (ne_of_none h2831 n2848)⟩ (all_cons ⟨(.tail _ (.tail _ (.tail _ (.tail _ (.tail _ (.head _)))))), (ne_of_none h2832 n2848)⟩ (all_cons ⟨(.tail _ (.tail _ (.tail _ (.tail _ (.tail _ (.tail _ (.head _))))))), (ne_of_none h2818 n2848)⟩ (all_app (fun b hb => ⟨((fun b hb => (.tail _ (.tail _ (.tail _ (.tail _ (.tail _ (.tail _ (.tail _ (List.mem_append_left _ hb))))))))) : ∀ b ∈ L2635, b ∈ (D2847 :: (a2585 :: (p1830 :: (x1861 :: (x1983 :: (p2463 :: (D2781 :: (L2635 ++ []))))))))) b hb, (there_ne (fun b_ hb_ => (S2817.ow b_ (((fun b hb => (.tail _ (.tail _ (.tail _ (.tail _ (.tail _ (.tail _ (List.mem_append_left _ hb)))))))) : ∀ b ∈ L2635, b ∈ (D2781 :: (a2585 :: (p1830 :: (x1861 :: (x1983 :: (p2463 :: (L2635 ++ [])))))))) b_ hb_)).2.1) n2848) b hb⟩) all_nil))))))))
                      refine ⟨_, h2936, (app_len (RpAll.mono eG2940 (RpAll.mono eG2923 d2823)) z2840), ?_⟩
                      generalize g2943 : upd H2919 D2781 _ = H2944
                      obtain ⟨x2945, h2946⟩ := gen_mut g2943
                      have S2947 := S2942.mut1 x2945 (.tail _ (.tail _ (.tail _ (.tail _ (.tail _ (.head _)))))) h2946
                      have hw := cW_ok hw
                      have h2948 := (x2945 _ _ h2931 (ne_of_none h2768 n2782))
                      have h2949 := (x2945 _ _ h2932 (ne_of_none h2764 n2782))
                      have h2950 := (x2945 _ _ h2933 (ne_of_none h2765 n2782))
                      have h2951 := (x2945 _ _ h2934 (ne_of_none h2766 n2782))
                      have h2952 := (x2945 _ _ h2935 (ne_of_none h2767 n2782))
                      have w2953 : OwAll G2939 H2944 L2635 (vs2634) ((told_2633 : (List (List (List Int)))).map (oL (oL oI))) := (OwAll.mono eG2940 keeps_refl (OwAll.mono (Same.refl _) (keeps_mut x2945 ((there_ne (fun b_ hb_ => (S2763.ow b_ (((fun b hb => (.tail _ (.tail _ (.tail _ (.tail _ (.tail _ (List.mem_append_left _ hb))))))) : ∀ b ∈ L2635, b ∈ (p1830 :: (x1861 :: (x1983 :: (p2463 :: (a2585 :: (L2635 ++ []))))))) b_ hb_)).2.1) n2782) : ∀ b ∈ L2635, b ≠ D2781)) w2937))
                      exact ⟨_, (acc2821 ++ [acc2924]), _, (Same.trans (Same.trans eG2820 eG2923) eG2940), (S2947.sub (all_cons (.tail _ (.tail _ (.tail _ (.tail _ (.tail _ (.head _)))))) (all_cons (.head _) (all_cons (.tail _ (.head _)) (all_cons (.tail _ (.tail _ (.head _))) (all_cons (.tail _ (.tail _ (.tail _ (.head _)))) (all_cons (.tail _ (.tail _ (.tail _ (.tail _ (.head _))))) (all_app ((fun b hb => (.tail _ (.tail _ (.tail _ (.tail _ (.tail _ (.tail _ (List.mem_append_left _ hb)))))))) : ∀ b ∈ L2635, b ∈ (a2585 :: (p1830 :: (x1861 :: (x1983 :: (p2463 :: (D2781 :: (L2635 ++ [])))))))) all_nil)))))))), h2948, h2949, h2950, h2951, h2952, h2946, w2953, (app_map (RpAll.mono eG2940 (RpAll.mono eG2923 d2823)) (RpAll.one (rp_mk_list hg2941 (RpAll.mono eG2940 d2926)))), (same_mut (Same.trans eo2827 eo2930) x2945 n2782), hw⟩
                    intro H2954 hw
                    obtain ⟨G2957, acc2959, vs2960, eG2958, S2955, h2966, h2967, h2968, h2969, h2970, h2956, w2971, d2961, eo2965, hw⟩ := hw
                    have hw := hK2780 _ (cW_mapA0 (by rw [(RpAll.mono eG2958 (RpAll.mono eG2776 (RpAll.mono eG2592 (RpAll.mono eG2580 (RpAll.mono eG2448 d2445))))).len, List.length_map]) hw)
                    have fr2972 := S2763.free n2782
                    refine ⟨_, rfl, _, rfl, _, rfl, rfl, rfl, G2957, _, _, _, _, (⟨v1872, v1995.slots, v1995.rows, v1995.deblock, v1995.offset, v1995.layers⟩ : St_Settings), _, _, _, _, rfl, S2955.sG, (hide_nil h2969), (hide_nil h2968), (Rp.hide_nil (rp_mk_list h2956 (RpAll.mono S2955.sG d2961))), (Rp.hide_nil (rp_mk_list (S2955.sG _ _ (eG2958 _ _ (eG2776 _ _ (eG2592 _ _ (eG2580 _ _ hg2449))))) (RpAll.mono S2955.sG (RpAll.mono eG2958 (RpAll.mono eG2776 (RpAll.mono eG2592 (RpAll.mono eG2580 (RpAll.mono eG2448 (RpAll.mono eG2441 (RpAll.mono eG2138 d2117)))))))))), cW_call hw (fun v2973 hw H2974 a2976 vs2977 L2978 G2979 n2980 nb2981 nd2982 e2975 eG2983 sG2984 hn2985 ga2986 gL2987 h2988 w2989 => ?_) (fun e he => (hE e he).elim)⟩
                    have fr2990 := S2955.free n2980
                    have S2991 : Sep _ _ _ _ H2974 (a2976 :: (L2978 ++ (D2781 :: (a2585 :: (p1830 :: (x1861 :: (x1983 :: (p2463 :: (L2635 ++ []))))))))) := Sep.steptree S2955 e2975 eG2983 sG2984 hn2985 (a2976 :: L2978) (all_cons ⟨n2980, ga2986, some_ne h2988⟩ (fun b hb => ⟨nb2981 b hb, gL2987 b hb, OwAll.there w2989 b hb⟩))
                    have h2992 := (e2975 _ _ h2968)
                    refine ⟨_, rfl, _, _, _, rfl, h2992, G2979, _, _, v1872, rfl, S2991.sG, (hide_nil h2992), cW_callN hw (fun v2993 hw H2994 e2995 => ?_) trivial⟩
                    have S2996 := S2991.same e2995
                    obtain ⟨g2997, hw⟩ := cW_grd hw
                    obtain ⟨K3006, hK3007, hw⟩ := cW_push hw
                    refine ⟨_, rfl, g2997.1, g2997.2, for_range (lo := 0) (n := Int.toNat (v2993)) (fun i σ H' => ∃ (u3008 : Option V) (u3009 : Option V) (G' : Hp), σ = [some (V.ref a_script), some (V.ref p1830), some (V.int (width_1844)), some (V.int (height_1845)), some (V.ref x1861), some (V.int ((1 + ((itD (v1827) (4)) % 5)))), some (V.ref x1983), some (V.ref D2005), u1924, some (V.ref a2442), some (V.str ((PyData.shown ((encL encD) ([((encL (encL (encL PyData.int))) (planes_2151)), ((encL encD) (acc2115))]))))), some (V.ref p2463), u3008, u3009, some (V.ref a2585), u2636, some (V.ref D2781), some (V.ref a2976), none, none, none, none] ∧ Same G2979 G' ∧ Sep [] H H G' H' (p1830 :: (x1861 :: (x1983 :: (p2463 :: (a2585 :: (D2781 :: (a2976 :: (L2635 ++ (L2978 ++ []))))))))) ∧ H' p1830 = some (.lst ((v1827 : (List Int)).map V.int)) ∧ H' x1861 = some (.ins AD.c_Format dx1862 [("width", V.int (v1872.width)), ("height", V.int (v1872.height)), ("depth", V.int (v1872.depth)), ("chroma", V.int (v1872.chroma))]) ∧ H' x1983 = some (.ins AD.c_Settings dx1984 [("fmt", V.ref x1861), ("slots", V.int (v1995.slots)), ("rows", V.int (v1995.rows)), ("deblock", V.bl (v1995.deblock)), ("offset", V.bl (v1995.offset)), ("layers", V.int (v1995.layers))]) ∧ H' p2463 = some (.lst (vs2491)) ∧ H' a2585 = some (.lst (vs2634)) ∧ H' D2781 = some (.lst (vs2960)) ∧ H' a2976 = some (.lst (vs2977)) ∧ OwAll G' H' L2635 (vs2634) ((told_2633 : (List (List (List Int)))).map (oL (oL oI))) ∧ OwAll G' H' L2978 (vs2977) ((v2973 : (List (List (List Int)))).map (oL (oL oI))) ∧ cW (forR (List.drop i (rng (0) (Int.toNat (v2993)))) () (fun s x => F_law_b14 (v1872) ((1 + ((itD (v1827) (4)) % 5))) (acc2115) (acc2959) (v2973)  x)) K3006 EE) ?_ ?_ ?_⟩
                    · have h3010 := (e2995 _ _ (e2975 _ _ h2967))
                      have h3011 := (e2995 _ _ h2992)
                      have h3012 := (e2995 _ _ (e2975 _ _ h2969))
                      have h3013 := (e2995 _ _ (e2975 _ _ h2970))
                      have h3014 := (e2995 _ _ (e2975 _ _ h2966))
                      have h3015 := (e2995 _ _ (e2975 _ _ h2956))
                      have h3016 := (e2995 _ _ h2988)
                      have w3017 : OwAll G2979 H2994 L2635 (vs2634) ((told_2633 : (List (List (List Int)))).map (oL (oL oI))) := (OwAll.mono eG2983 keeps_refl (OwAll.mono (Same.refl _) (keeps_same e2995) (OwAll.mono (Same.refl _) (keeps_same e2975) w2971)))
                      have w3018 : OwAll G2979 H2994 L2978 (vs2977) ((v2973 : (List (List (List Int)))).map (oL (oL oI))) := (OwAll.mono (Same.refl _) (keeps_same e2995) w2989)
                      exact ⟨_, _, _, rfl, (Same.refl _), (S2996.sub (all_cons (.tail _ (List.mem_append_right _ (.tail _ (.tail _ (.head _))))) (all_cons (.tail _ (List.mem_append_right _ (.tail _ (.tail _ (.tail _ (.head _)))))) (all_cons (.tail _ (List.mem_append_right _ (.tail _ (.tail _ (.tail _ (.tail _ (.head _))))))) (all_cons (.tail _ (List.mem_append_right _ (.tail _ (.tail _ (.tail _ (.tail _ (.tail _ (.head _)))))))) (all_cons (.tail _ (List.mem_append_right _ (.tail _ (.head _)))) (all_cons (.tail _ (List.mem_append_right _ (.head _))) (all_cons (.head _) (all_app ((fun b hb => (.tail _ (List.mem_append_right _ (.tail _ (.tail _ (.tail _ (.tail _ (.tail _ (.tail _ (List.mem_append_left _ hb)))))))))) : ∀ b ∈ L2635, b ∈ (a2976 :: (L2978 ++ (D2781 :: (a2585 :: (p1830 :: (x1861 :: (x1983 :: (p2463 :: (L2635 ++ [])))))))))) (all_app ((fun b hb => (.tail _ (List.mem_append_left _ hb))) : ∀ b ∈ L2978, b ∈ (a2976 :: (L2978 ++ (D2781 :: (a2585 :: (p1830 :: (x1861 :: (x1983 :: (p2463 :: (L2635 ++ [])))))))))) all_nil)))))))))), h3010, h3011, h3012, h3013, h3014, h3015, h3016, w3017, w3018, hw⟩
                    · intro i σ H3019 hi hw
                      obtain ⟨u3008, u3009, G3030, rfl, eG3031, S3020, h3021, h3022, h3023, h3024, h3025, h3026, h3027, w3028, w3029, hw⟩ := hw
                      have hw := cW_forR (rng_get hi) hw
                      generalize (0 + (i : Int)) = x3032 at hw ⊢
                      have hw : cW (F_law_b14 (v1872) ((1 + ((itD (v1827) (4)) % 5))) (acc2115) (acc2959) (v2973)  (x3032)) _ EE := hw
                      unfold F_law_b14 at hw
                      obtain ⟨K3033, hK3034, hw⟩ := cW_name hw
                      refine ⟨_, rfl, _, _, rfl, rfl, _, rfl, ?_⟩
                      refine iteD (fun c3036 => ?_) (fun c3036 => ?_)
                      · have hw := cW_pos c3036 hw
                        refine ⟨_, rfl, _, _, _, _, _, rfl, h3022, T.cl_Format, T.n_Format_chroma, rfl, _, _, rfl, rfl, _, rfl, ?_⟩
                        refine iteD (fun c3037 => ?_) (fun c3037 => ?_)
                        · have hw := cW_pos c3037 hw
                          obtain ⟨g3038, hw⟩ := cW_grd hw
                          obtain ⟨v3039, L3040, a3041, w3042, hs3043, up3044, gr3045⟩ := OwAll.partM (k := x3032) w3029 g3038
                          obtain ⟨b3046, vs3047, L3048, rfl, rfl, h3049, w3050, nb3051⟩ := Ow.toList w3042
                          obtain ⟨g3052, hw⟩ := cW_grd hw
                          obtain ⟨v3053, a3054, r3055⟩ := RpAll.ixD (k := x3032) (RpAll.mono eG3031 (RpAll.mono eG2983 d2961)) g3052
                          obtain ⟨a3056, vs3057, rfl, h3058, d3059⟩ := rp_list r3055
                          obtain ⟨g3060, hw⟩ := cW_grd hw
                          refine ⟨_, rfl, _, rfl, _, _, _, _, rfl, rfl, (SqL.of h3027), a3041, _, rfl, _, rfl, _, _, _, _, rfl, rfl, (SqL.of h3026), a3054, _, rfl, _, rfl, _, rfl, _, rfl, _, rfl, _, _, _, _, _, rfl, h3022, T.cl_Format, T.n_Format_depth, rfl, _, _, rfl, rfl, _, _, rfl, rfl, (shl_side g3060.1 g3060.2.1 g3060.2.2.1 g3060.2.2.2), _, rfl, _, _, _, rfl, h3022, G3030, _, _, v1872, rfl, S3020.sG, (hide_nil h3022), cW_callN hw (fun v3061 hw H3062 e3063 => ?_) trivial⟩
                          have S3064 := S3020.same e3063
                          refine ⟨rfl, rfl, G3030, _, _, _, _, _, _, _, _, _, rfl, S3064.sG, (Rp.hide_nil (rp_mk_list (S3064.sG _ _ h3058) (RpAll.mono S3064.sG d3059))), (Rp.hide_nil (rp_mk_list (S3064.sG _ _ (eG3031 _ _ (eG2983 _ _ (eG2958 _ _ (eG2776 _ _ (eG2592 _ _ (eG2580 _ _ hg2449))))))) (RpAll.mono S3064.sG (RpAll.mono eG3031 (RpAll.mono eG2983 (RpAll.mono eG2958 (RpAll.mono eG2776 (RpAll.mono eG2592 (RpAll.mono eG2580 (RpAll.mono eG2448 (RpAll.mono eG2441 (RpAll.mono eG2138 d2117)))))))))))), cW_call hw (fun v3065 hw v3068 H3066 G3069 e3067 eG3070 sG3071 hn3072 r3073 => ?_) (fun e he => (hE e he).elim)⟩
                          have S3074 := S3064.step e3067 eG3070 sG3071 hn3072
                          obtain ⟨a3075, vs3076, rfl, h3077, d3078⟩ := rp_list r3073
                          have h3079 := (e3067 _ _ (e3063 _ _ h3049))
                          have w3080 : OwAll G3069 H3066 L3048 (vs3047) (((itD (v2973) (x3032)) : (List (List Int))).map (oL oI)) := (OwAll.mono eG3070 keeps_refl (OwAll.mono (Same.refl _) (keeps_same e3067) (OwAll.mono (Same.refl _) (keeps_same e3063) w3050)))
                          refine ⟨_, _, (rp_mk_list h3079 (OwAll.rpA w3080 (encO_L encO_I) S3074.sG)), (rp_mk_list (S3074.sG _ _ h3077) (RpAll.mono S3074.sG d3078)), _, rfl, ?_⟩
                          refine iteN (fun c3081 => ?_) (fun c3081 => ?_)
                          · have hw := cW_neg c3081 hw
                            have hw := cW_ok hw
                            have hw := hK3034 (.rt _) hw
                            have hw := hK3007 (.rt _) hw
                            have hw := cW_ok hw
                            exact eq_bl (k _) (hK0 _ hw).symm
                          · have hw := cW_pos c3081 hw
                            have hw := cW_ok hw
                            have hw := hK3034 _ hw
                            have h3082 := (e3067 _ _ (e3063 _ _ h3021))
                            have h3083 := (e3067 _ _ (e3063 _ _ h3022))
                            have h3084 := (e3067 _ _ (e3063 _ _ h3023))
                            have h3085 := (e3067 _ _ (e3063 _ _ h3024))
                            have h3086 := (e3067 _ _ (e3063 _ _ h3025))
                            have h3087 := (e3067 _ _ (e3063 _ _ h3026))
                            have h3088 := (e3067 _ _ (e3063 _ _ h3027))
                            have w3089 : OwAll G3069 H3066 L2635 (vs2634) ((told_2633 : (List (List (List Int)))).map (oL (oL oI))) := (OwAll.mono eG3070 keeps_refl (OwAll.mono (Same.refl _) (keeps_same e3067) (OwAll.mono (Same.refl _) (keeps_same e3063) w3028)))
                            have w3090 : OwAll G3069 H3066 L2978 (vs2977) ((v2973 : (List (List (List Int)))).map (oL (oL oI))) := (OwAll.mono eG3070 keeps_refl (OwAll.mono (Same.refl _) (keeps_same e3067) (OwAll.mono (Same.refl _) (keeps_same e3063) w3029)))
                            exact ⟨_, _, _, rfl, (Same.trans eG3031 eG3070), S3074, h3082, h3083, h3084, h3085, h3086, h3087, h3088, w3089, w3090, hw⟩
                        · have hw := cW_neg c3037 hw
                          obtain ⟨g3091, hw⟩ := cW_grd hw
                          obtain ⟨v3092, L3093, a3094, w3095, hs3096, up3097, gr3098⟩ := OwAll.partM (k := x3032) w3029 g3091
                          obtain ⟨b3099, vs3100, L3101, rfl, rfl, h3102, w3103, nb3104⟩ := Ow.toList w3095
                          obtain ⟨g3105, hw⟩ := cW_grd hw
                          obtain ⟨v3106, a3107, r3108⟩ := RpAll.ixD (k := x3032) (RpAll.mono eG3031 (RpAll.mono eG2983 d2961)) g3105
                          obtain ⟨a3109, vs3110, rfl, h3111, d3112⟩ := rp_list r3108
                          obtain ⟨g3113, hw⟩ := cW_grd hw
                          refine ⟨_, rfl, _, rfl, _, _, _, _, rfl, rfl, (SqL.of h3027), a3094, _, rfl, _, rfl, _, _, _, _, rfl, rfl, (SqL.of h3026), a3107, _, rfl, _, rfl, _, rfl, _, rfl, _, rfl, _, _, _, _, _, rfl, h3022, T.cl_Format, T.n_Format_depth, rfl, _, _, rfl, rfl, _, _, rfl, rfl, (shl_side g3113.1 g3113.2.1 g3113.2.2.1 g3113.2.2.2), _, rfl, _, _, _, rfl, h3022, G3030, _, _, v1872, rfl, S3020.sG, (hide_nil h3022), cW_callN hw (fun v3114 hw H3115 e3116 => ?_) trivial⟩
                          have S3117 := S3020.same e3116
                          refine ⟨rfl, rfl, G3030, _, _, _, _, _, _, _, _, _, rfl, S3117.sG, (Rp.hide_nil (rp_mk_list (S3117.sG _ _ h3111) (RpAll.mono S3117.sG d3112))), (Rp.hide_nil (rp_mk_list (S3117.sG _ _ (eG3031 _ _ (eG2983 _ _ (eG2958 _ _ (eG2776 _ _ (eG2592 _ _ (eG2580 _ _ hg2449))))))) (RpAll.mono S3117.sG (RpAll.mono eG3031 (RpAll.mono eG2983 (RpAll.mono eG2958 (RpAll.mono eG2776 (RpAll.mono eG2592 (RpAll.mono eG2580 (RpAll.mono eG2448 (RpAll.mono eG2441 (RpAll.mono eG2138 d2117)))))))))))), cW_call hw (fun v3118 hw v3121 H3119 G3122 e3120 eG3123 sG3124 hn3125 r3126 => ?_) (fun e he => (hE e he).elim)⟩
                          have S3127 := S3117.step e3120 eG3123 sG3124 hn3125
                          obtain ⟨a3128, vs3129, rfl, h3130, d3131⟩ := rp_list r3126
                          have h3132 := (e3120 _ _ (e3116 _ _ h3102))
                          have w3133 : OwAll G3122 H3119 L3101 (vs3100) (((itD (v2973) (x3032)) : (List (List Int))).map (oL oI)) := (OwAll.mono eG3123 keeps_refl (OwAll.mono (Same.refl _) (keeps_same e3120) (OwAll.mono (Same.refl _) (keeps_same e3116) w3103)))
                          refine ⟨_, _, (rp_mk_list h3132 (OwAll.rpA w3133 (encO_L encO_I) S3127.sG)), (rp_mk_list (S3127.sG _ _ h3130) (RpAll.mono S3127.sG d3131)), _, rfl, ?_⟩
                          refine iteN (fun c3134 => ?_) (fun c3134 => ?_)
                          · have hw := cW_neg c3134 hw
                            have hw := cW_ok hw
                            have hw := hK3034 (.rt _) hw
                            have hw := hK3007 (.rt _) hw
                            have hw := cW_ok hw
                            exact eq_bl (k _) (hK0 _ hw).symm
                          · have hw := cW_pos c3134 hw
                            have hw := cW_ok hw
                            have hw := hK3034 _ hw
                            have h3135 := (e3120 _ _ (e3116 _ _ h3021))
                            have h3136 := (e3120 _ _ (e3116 _ _ h3022))
                            have h3137 := (e3120 _ _ (e3116 _ _ h3023))
                            have h3138 := (e3120 _ _ (e3116 _ _ h3024))
                            have h3139 := (e3120 _ _ (e3116 _ _ h3025))
                            have h3140 := (e3120 _ _ (e3116 _ _ h3026))
                            have h3141 := (e3120 _ _ (e3116 _ _ h3027))
                            have w3142 : OwAll G3122 H3119 L2635 (vs2634) ((told_2633 : (List (List (List Int)))).map (oL (oL oI))) := (OwAll.mono eG3123 keeps_refl (OwAll.mono (Same.refl _) (keeps_same e3120) (OwAll.mono (Same.refl _) (keeps_same e3116) w3028)))
                            have w3143 : OwAll G3122 H3119 L2978 (vs2977) ((v2973 : (List (List (List Int)))).map (oL (oL oI))) := (OwAll.mono eG3123 keeps_refl (OwAll.mono (Same.refl _) (keeps_same e3120) (OwAll.mono (Same.refl _) (keeps_same e3116) w3029)))
                            exact ⟨_, _, _, rfl, (Same.trans eG3031 eG3123), S3127, h3135, h3136, h3137, h3138, h3139, h3140, h3141, w3142, w3143, hw⟩
                      · have hw := cW_neg c3036 hw
                        refine iteF ?_
                        obtain ⟨g3144, hw⟩ := cW_grd hw
                        obtain ⟨v3145, L3146, a3147, w3148, hs3149, up3150, gr3151⟩ := OwAll.partM (k := x3032) w3029 g3144
                        obtain ⟨b3152, vs3153, L3154, rfl, rfl, h3155, w3156, nb3157⟩ := Ow.toList w3148
                        obtain ⟨g3158, hw⟩ := cW_grd hw
                        obtain ⟨v3159, a3160, r3161⟩ := RpAll.ixD (k := x3032) (RpAll.mono eG3031 (RpAll.mono eG2983 d2961)) g3158
                        obtain ⟨a3162, vs3163, rfl, h3164, d3165⟩ := rp_list r3161
                        obtain ⟨g3166, hw⟩ := cW_grd hw
                        refine ⟨_, rfl, _, rfl, _, _, _, _, rfl, rfl, (SqL.of h3027), a3147, _, rfl, _, rfl, _, _, _, _, rfl, rfl, (SqL.of h3026), a3160, _, rfl, _, rfl, _, rfl, _, rfl, _, rfl, _, _, _, _, _, rfl, h3022, T.cl_Format, T.n_Format_depth, rfl, _, _, rfl, rfl, _, _, rfl, rfl, (shl_side g3166.1 g3166.2.1 g3166.2.2.1 g3166.2.2.2), _, rfl, _, _, _, rfl, h3022, G3030, _, _, v1872, rfl, S3020.sG, (hide_nil h3022), cW_callN hw (fun v3167 hw H3168 e3169 => ?_) trivial⟩
                        have S3170 := S3020.same e3169
                        refine ⟨rfl, rfl, G3030, _, _, _, _, _, _, _, _, _, rfl, S3170.sG, (Rp.hide_nil (rp_mk_list (S3170.sG _ _ h3164) (RpAll.mono S3170.sG d3165))), (Rp.hide_nil (rp_mk_list (S3170.sG _ _ (eG3031 _ _ (eG2983 _ _ (eG2958 _ _ (eG2776 _ _ (eG2592 _ _ (eG2580 _ _ hg2449))))))) (RpAll.mono S3170.sG (RpAll.mono eG3031 (RpAll.mono eG2983 (RpAll.mono eG2958 (RpAll.mono eG2776 (RpAll.mono eG2592 (RpAll.mono eG2580 (RpAll.mono eG2448 (RpAll.mono eG2441 (RpAll.mono eG2138 d2117)))))))))))), cW_call hw (fun v3171 hw v3174 H3172 G3175 e3173 eG3176 sG3177 hn3178 r3179 => ?_) (fun e he => (hE e he).elim)⟩
                        have S3180 := S3170.step e3173 eG3176 sG3177 hn3178
                        obtain ⟨a3181, vs3182, rfl, h3183, d3184⟩ := rp_list r3179
                        have h3185 := (e3173 _ _ (e3169 _ _ h3155))
                        have w3186 : OwAll G3175 H3172 L3154 (vs3153) (((itD (v2973) (x3032)) : (List (List Int))).map (oL oI)) := (OwAll.mono eG3176 keeps_refl (OwAll.mono (Same.refl _) (keeps_same e3173) (OwAll.mono (Same.refl _) (keeps_same e3169) w3156)))
                        refine ⟨_, _, (rp_mk_list h3185 (OwAll.rpA w3186 (encO_L encO_I) S3180.sG)), (rp_mk_list (S3180.sG _ _ h3183) (RpAll.mono S3180.sG d3184)), _, rfl, ?_⟩
                        refine iteN (fun c3187 => ?_) (fun c3187 => ?_)
                        · have hw := cW_neg c3187 hw
                          have hw := cW_ok hw
                          have hw := hK3034 (.rt _) hw
                          have hw := hK3007 (.rt _) hw
                          have hw := cW_ok hw
                          exact eq_bl (k _) (hK0 _ hw).symm
                        · have hw := cW_pos c3187 hw
                          have hw := cW_ok hw
                          have hw := hK3034 _ hw
                          have h3188 := (e3173 _ _ (e3169 _ _ h3021))
                          have h3189 := (e3173 _ _ (e3169 _ _ h3022))
                          have h3190 := (e3173 _ _ (e3169 _ _ h3023))
                          have h3191 := (e3173 _ _ (e3169 _ _ h3024))
                          have h3192 := (e3173 _ _ (e3169 _ _ h3025))
                          have h3193 := (e3173 _ _ (e3169 _ _ h3026))
                          have h3194 := (e3173 _ _ (e3169 _ _ h3027))
                          have w3195 : OwAll G3175 H3172 L2635 (vs2634) ((told_2633 : (List (List (List Int)))).map (oL (oL oI))) := (OwAll.mono eG3176 keeps_refl (OwAll.mono (Same.refl _) (keeps_same e3173) (OwAll.mono (Same.refl _) (keeps_same e3169) w3028)))
                          have w3196 : OwAll G3175 H3172 L2978 (vs2977) ((v2973 : (List (List (List Int)))).map (oL (oL oI))) := (OwAll.mono eG3176 keeps_refl (OwAll.mono (Same.refl _) (keeps_same e3173) (OwAll.mono (Same.refl _) (keeps_same e3169) w3029)))
                          exact ⟨_, _, _, rfl, (Same.trans eG3031 eG3176), S3180, h3188, h3189, h3190, h3191, h3192, h3193, h3194, w3195, w3196, hw⟩
                    · intro σ H3197 hw
                      obtain ⟨u3008, u3009, G3208, rfl, eG3209, S3198, h3199, h3200, h3201, h3202, h3203, h3204, h3205, w3206, w3207, hw⟩ := hw
                      have hw := cW_aftgo (hK3007 _ (cW_forR0 (rng_len _ _).symm hw))
                      have hw : cW (F_law_r14 (acc2115) (planes_2151) ((PyData.shown ((encL encD) ([((encL (encL (encL PyData.int))) (planes_2151)), ((encL encD) (acc2115))])))) ) _ EE := hw
                      unfold F_law_r14 at hw
                      refine ⟨_, rfl, _, rfl, ?_⟩
                      have r3210 : Rp G3208 (V.ref a2442) (encD ((encL (encL (encL PyData.int))) (planes_2151))) := (rp_mk_list (eG3209 _ _ (eG2983 _ _ (eG2958 _ _ (eG2776 _ _ (eG2592 _ _ (eG2580 _ _ (eG2448 _ _ h2444))))))) (RpAll.mono eG3209 (RpAll.mono eG2983 (RpAll.mono eG2958 (RpAll.mono eG2776 (RpAll.mono eG2592 (RpAll.mono eG2580 (RpAll.mono eG2448 d2445))))))))
                      have r3211 : Rp G3208 (V.ref D2005) (encD ((encL encD) (acc2115))) := (rp_mk_list (eG3209 _ _ (eG2983 _ _ (eG2958 _ _ (eG2776 _ _ (eG2592 _ _ (eG2580 _ _ hg2449)))))) (RpAll.mono eG3209 (RpAll.mono eG2983 (RpAll.mono eG2958 (RpAll.mono eG2776 (RpAll.mono eG2592 (RpAll.mono eG2580 (RpAll.mono eG2448 (RpAll.mono eG2441 (RpAll.mono eG2138 d2117))))))))))
                      refine ⟨(by show 2 ≤ sizeLine; decide), fun p3212 n3213 => ?_⟩
                      generalize g3214 : upd H3197 p3212 _ = H3215
                      obtain ⟨e3216, h3217⟩ := gen_new n3213 g3214
                      have h3218 : H3215 p3212 = some (.lst ([(V.ref a2442), (V.ref D2005)])) := h3217
                      have fr3219 := S3198.free n3213
                      have S3220 := S3198.new n3213 e3216 h3218 fr3219
                      have d3221 : RpAll G3208 ([(V.ref a2442), (V.ref D2005)]) (([((encL (encL (encL PyData.int))) (planes_2151)), ((encL encD) (acc2115))] : (List PyData)).map encD) := (RpAll.cons r3210 (RpAll.cons r3211 RpAll.nil))
                      obtain ⟨g3222, hw⟩ := cW_grd hw
                      refine ⟨_, ((encL encD) ([((encL (encL (encL PyData.int))) (planes_2151)), ((encL encD) (acc2115))])), rfl, (rp_mk_list h3218 (RpAll.mono S3220.sG d3221)), g3222, _, rfl, rfl, ?_⟩
                      have hw := cW_ok hw
                      exact eq_bl (k _) (hK0 _ hw).symm
        · have hw := cW_neg c1982 hw
          refine ⟨_, rfl, rfl, rfl, G1978, _, _, _, rfl, S1972.sG, (S1972.b0.seq q_script), cW_call hw (fun v3223 hw => ?_) (fun e he => (hE e he).elim)⟩
          refine ⟨_, rfl, _, rfl, _, _, _, rfl, h1974, G1978, _, _, v1872, rfl, S1972.sG, (hide_nil h1974), cW_callN hw (fun v3224 hw H3225 e3226 => ?_) trivial⟩
          have S3227 := S1972.same e3226
          have h3228 := (e3226 _ _ h1974)
          refine ⟨rfl, rfl, G1978, _, _, _, v1872, _, rfl, S3227.sG, (hide_nil h3228), cW_call hw (fun v3229 hw v3232 H3230 G3233 e3231 eG3234 sG3235 hn3236 r3237 => ?_) (fun e he => (hE e he).elim)⟩
          have S3238 := S3227.step e3231 eG3234 sG3235 hn3236
          obtain ⟨a3239, vs3240, rfl, h3241, d3242⟩ := rp_list r3237
          refine ⟨fun σ H' => ∃ (planes_3247 : (List (List (List Int)))) (u3248 : V) (G' : Hp), σ = [some (V.ref a_script), some (V.ref p1830), some (V.int (width_1844)), some (V.int (height_1845)), some (V.ref x1861), some (V.int ((1 + ((itD (v1827) (4)) % 5)))), some (V.ref x1880), some (V.ref p1897), u1924, some u3248, none, none, none, none, none, none, none, none, none, none, none, none] ∧ Same G3233 G' ∧ Sep [] H H G' H' [p1830, x1861, x1880, p1897] ∧ H' p1830 = some (.lst ((v1827 : (List Int)).map V.int)) ∧ H' x1861 = some (.ins AD.c_Format dx1862 [("width", V.int (v1872.width)), ("height", V.int (v1872.height)), ("depth", V.int (v1872.depth)), ("chroma", V.int (v1872.chroma))]) ∧ H' x1880 = some (.ins AD.c_Settings dx1881 [("fmt", V.ref x1861), ("slots", V.int (v1892.slots)), ("rows", V.int (v1892.rows)), ("deblock", V.bl (v1892.deblock)), ("offset", V.bl (v1892.offset)), ("layers", V.int (v1892.layers))]) ∧ H' p1897 = some (.lst (vs1923)) ∧ Rp G' u3248 ((encL (encL (encL PyData.int))) planes_3247) ∧ cW (F_law_k15 ((1 + ((itD (v1827) (4)) % 5))) ((⟨v1872, v1892.slots, v1892.rows, v1892.deblock, v1892.offset, v1892.layers⟩ : St_Settings)) (offsets_1922) planes_3247) KK EE, ?_, ?_⟩
          · obtain ⟨K3249, hK3250, hw⟩ := cW_push hw
            obtain ⟨g3251, hw⟩ := cW_grd hw
            have h3252 := (e3231 _ _ (e3226 _ _ h1973))
            refine ⟨_, rfl, _, _, _, _, rfl, rfl, (SqL.of h3252), (atI_map g3251), _, _, rfl, rfl, (show (0 : Int) < 3 by decide), _, _, rfl, rfl, _, rfl, ?_⟩
            refine iteD (fun c3253 => ?_) (fun c3253 => ?_)
            · have hw := cW_pos c3253 hw
              obtain ⟨K3255, hK3256, hw⟩ := cW_push hw
              refine ⟨_, rfl, _, rfl, ⟨_, (SqL.of (S3238.sG _ _ h3241))⟩, fun D3257 n3258 => lc_list (K := K) (a := a3239) (xs := vs3240) (fun i1 H' => ∃ (G' : Hp) (acc3260 : (List (List (List Int)))) (vs3261 : List V), Same G3233 G' ∧ Sep [] H H G' H' [D3257, p1830, x1861, x1880, p1897] ∧ H' p1830 = some (.lst ((v1827 : (List Int)).map V.int)) ∧ H' x1861 = some (.ins AD.c_Format dx1862 [("width", V.int (v1872.width)), ("height", V.int (v1872.height)), ("depth", V.int (v1872.depth)), ("chroma", V.int (v1872.chroma))]) ∧ H' x1880 = some (.ins AD.c_Settings dx1881 [("fmt", V.ref x1861), ("slots", V.int (v1892.slots)), ("rows", V.int (v1892.rows)), ("deblock", V.bl (v1892.deblock)), ("offset", V.bl (v1892.offset)), ("layers", V.int (v1892.layers))]) ∧ H' p1897 = some (.lst (vs1923)) ∧ H' D3257 = some (.lst vs3261) ∧ RpAll G' vs3261 ((acc3260 : (List (List (List Int)))).map (encL (encL PyData.int))) ∧ Same H3230 H' ∧ cW (mapA (List.drop i1 (v3229)) acc3260 (fun x => noEr (F_law_c16  x))) K3255 EE) ?_ ?_ ?_ ?_⟩
              · generalize g3262 : upd H3230 D3257 _ = H3263
                obtain ⟨e3264, h3265⟩ := gen_new n3258 g3262
                have fr3266 := S3238.free n3258
                have S3267 := S3238.new n3258 e3264 h3265 fr3266
                have h3268 := (e3264 _ _ h3252)
                have h3269 := (e3264 _ _ (e3231 _ _ h3228))
                have h3270 := (e3264 _ _ (e3231 _ _ (e3226 _ _ h1975)))
                have h3271 := (e3264 _ _ (e3231 _ _ (e3226 _ _ h1976)))
                exact ⟨_, [], [], Same.refl _, S3267, h3268, h3269, h3270, h3271, h3265, RpAll.nil, e3264, hw⟩
              · intro i1 H3272 _ hw
                obtain ⟨G3275, acc3277, vs3278, eG3276, S3273, h3284, h3285, h3286, h3287, h3274, d3279, eo3283, hw⟩ := hw
                exact (SqL.of (S3273.sG _ _ (eG3276 _ _ h3241)))
              · intro i1 x H3288 hj hw
                obtain ⟨G3291, acc3293, vs3294, eG3292, S3289, h3300, h3301, h3302, h3303, h3290, d3295, eo3299, hw⟩ := hw
                obtain ⟨x3304, hx, r3305⟩ := RpAll.get (RpAll.mono eG3292 d3242) hj
                obtain ⟨a3306, vs3307, rfl, h3308, d3309⟩ := rp_list r3305
                obtain ⟨z3310, hw⟩ := cW_mapA hx hw
                have hw := cW_noEr hw
                have hw : cW (F_law_c16  (x3304)) _ (fun _ => False) := hw
                unfold F_law_c16 at hw
                refine ⟨rfl, ?_⟩
                refine tyes_go ?_
                obtain ⟨K3313, hK3314, hw⟩ := cW_push hw
                refine ⟨_, rfl, _, rfl, ⟨_, (SqL.of (S3289.sG _ _ h3308))⟩, fun D3315 n3316 => lc_list (K := K) (a := a3306) (xs := vs3307) (fun i2 H' => ∃ (G' : Hp) (acc3318 : (List (List Int))) (vs3319 : List V), Same G3291 G' ∧ Sep [] H H G' H' [D3315, p1830, x1861, x1880, p1897, D3257] ∧ H' p1830 = some (.lst ((v1827 : (List Int)).map V.int)) ∧ H' x1861 = some (.ins AD.c_Format dx1862 [("width", V.int (v1872.width)), ("height", V.int (v1872.height)), ("depth", V.int (v1872.depth)), ("chroma", V.int (v1872.chroma))]) ∧ H' x1880 = some (.ins AD.c_Settings dx1881 [("fmt", V.ref x1861), ("slots", V.int (v1892.slots)), ("rows", V.int (v1892.rows)), ("deblock", V.bl (v1892.deblock)), ("offset", V.bl (v1892.offset)), ("layers", V.int (v1892.layers))]) ∧ H' p1897 = some (.lst (vs1923)) ∧ H' D3257 = some (.lst (vs3294)) ∧ H' D3315 = some (.lst vs3319) ∧ RpAll G' vs3319 ((acc3318 : (List (List Int))).map (encL PyData.int)) ∧ Same H3288 H' ∧ cW (mapA (List.drop i2 (x3304)) acc3318 (fun x => noEr (F_law_c17  x))) K3313 (fun _ => False)) ?_ ?_ ?_ ?_⟩
                · generalize g3320 : upd H3288 D3315 _ = H3321
                  obtain ⟨e3322, h3323⟩ := gen_new n3316 g3320
                  have fr3324 := S3289.free n3316
                  have S3325 := S3289.new n3316 e3322 h3323 fr3324
                  have h3326 := (e3322 _ _ h3300)
                  have h3327 := (e3322 _ _ h3301)
                  have h3328 := (e3322 _ _ h3302)
                  have h3329 := (e3322 _ _ h3303)
                  have h3330 := (e3322 _ _ h3290)
                  exact ⟨_, [], [], Same.refl _, (S3325.sub (all_cons (.head _) (all_cons (.tail _ (.tail _ (.head _))) (all_cons (.tail _ (.tail _ (.tail _ (.head _)))) (all_cons (.tail _ (.tail _ (.tail _ (.tail _ (.head _))))) (all_cons (.tail _ (.tail _ (.tail _ (.tail _ (.tail _ (.head _)))))) (all_cons (.tail _ (.head _)) all_nil))))))), h3326, h3327, h3328, h3329, h3330, h3323, RpAll.nil, e3322, hw⟩
                · intro i2 H3331 _ hw
                  obtain ⟨G3334, acc3336, vs3337, eG3335, S3332, h3343, h3344, h3345, h3346, h3347, h3333, d3338, eo3342, hw⟩ := hw
                  exact (SqL.of (S3332.sG _ _ (eG3335 _ _ h3308)))
                · intro i2 x H3348 hj hw
                  obtain ⟨G3351, acc3353, vs3354, eG3352, S3349, h3360, h3361, h3362, h3363, h3364, h3350, d3355, eo3359, hw⟩ := hw
                  obtain ⟨x3365, hx, r3366⟩ := RpAll.get (RpAll.mono eG3352 d3309) hj
                  obtain ⟨a3367, rfl, h3368⟩ := rp_ints r3366
                  obtain ⟨z3369, hw⟩ := cW_mapA hx hw
                  have hw := cW_noEr hw
                  have hw : cW (F_law_c17  (x3365)) _ (fun _ => False) := hw
                  unfold F_law_c17 at hw
                  refine ⟨rfl, ?_⟩
                  refine tyes_go ?_
                  obtain ⟨K3372, hK3373, hw⟩ := cW_push hw
                  refine ⟨_, rfl, _, rfl, ⟨_, (SqL.of (S3349.sG _ _ h3368))⟩, fun D3374 n3375 => lc_list (K := K) (a := a3367) (xs := (x3365 : List Int).map V.int) (fun i3 H' => ∃ (G' : Hp) (acc3377 : (List Int)), Same G3351 G' ∧ Sep [] H H G' H' [D3374, p1830, x1861, x1880, p1897, D3257, D3315] ∧ H' p1830 = some (.lst ((v1827 : (List Int)).map V.int)) ∧ H' x1861 = some (.ins AD.c_Format dx1862 [("width", V.int (v1872.width)), ("height", V.int (v1872.height)), ("depth", V.int (v1872.depth)), ("chroma", V.int (v1872.chroma))]) ∧ H' x1880 = some (.ins AD.c_Settings dx1881 [("fmt", V.ref x1861), ("slots", V.int (v1892.slots)), ("rows", V.int (v1892.rows)), ("deblock", V.bl (v1892.deblock)), ("offset", V.bl (v1892.offset)), ("layers", V.int (v1892.layers))]) ∧ H' p1897 = some (.lst (vs1923)) ∧ H' D3257 = some (.lst (vs3294)) ∧ H' D3315 = some (.lst (vs3354)) ∧ H' D3374 = some (.lst ((acc3377 : (List Int)).map V.int)) ∧ Same H3348 H' ∧ cW (mapA (List.drop i3 (x3365)) acc3377 (fun x => noEr (F_law_c18  x))) K3372 (fun _ => False)) ?_ ?_ ?_ ?_⟩
                  · generalize g3379 : upd H3348 D3374 _ = H3380
                    obtain ⟨e3381, h3382⟩ := gen_new n3375 g3379
                    have fr3383 := S3349.free n3375
                    have S3384 := S3349.new n3375 e3381 h3382 fr3383
                    have h3385 := (e3381 _ _ h3360)
                    have h3386 := (e3381 _ _ h3361)
                    have h3387 := (e3381 _ _ h3362)
                    have h3388 := (e3381 _ _ h3363)
                    have h3389 := (e3381 _ _ h3364)
                    have h3390 := (e3381 _ _ h3350)
                    exact ⟨_, [], Same.refl _, (S3384.sub (all_cons (.head _) (all_cons (.tail _ (.tail _ (.head _))) (all_cons (.tail _ (.tail _ (.tail _ (.head _)))) (all_cons (.tail _ (.tail _ (.tail _ (.tail _ (.head _))))) (all_cons (.tail _ (.tail _ (.tail _ (.tail _ (.tail _ (.head _)))))) (all_cons (.tail _ (.tail _ (.tail _ (.tail _ (.tail _ (.tail _ (.head _))))))) (all_cons (.tail _ (.head _)) all_nil)))))))), h3385, h3386, h3387, h3388, h3389, h3390, h3382, e3381, hw⟩
                  · intro i3 H3391 _ hw
                    obtain ⟨G3394, acc3396, eG3395, S3392, h3403, h3404, h3405, h3406, h3407, h3408, h3393, eo3402, hw⟩ := hw
                    exact (SqL.of (S3392.sG _ _ (eG3395 _ _ h3368)))
                  · intro i3 x H3409 hj hw
                    obtain ⟨G3412, acc3414, eG3413, S3410, h3421, h3422, h3423, h3424, h3425, h3426, h3411, eo3420, hw⟩ := hw
                    obtain ⟨x3427, hx, rfl⟩ := map_get hj
                    obtain ⟨z3428, hw⟩ := cW_mapA hx hw
                    have hw := cW_noEr hw
                    have hw : cW (F_law_c18  (x3427)) _ (fun _ => False) := hw
                    unfold F_law_c18 at hw
                    refine ⟨rfl, ?_⟩
                    refine tyes_go ?_
                    refine ⟨_, rfl, _, _, rfl, rfl, (show (0 : Int) < 3 by decide), _, h3411, (app_lenM z3428), ?_⟩
                    generalize g3430 : upd H3409 D3374 _ = H3431
                    obtain ⟨x3432, h3433⟩ := gen_mut g3430
                    have S3434 := S3410.mut1 x3432 (.head _) h3433
                    have hw := cW_ok hw
                    have h3435 := (x3432 _ _ h3421 (ne_of_none h3360 n3375))
                    have h3436 := (x3432 _ _ h3422 (ne_of_none h3361 n3375))
                    have h3437 := (x3432 _ _ h3423 (ne_of_none h3362 n3375))
                    have h3438 := (x3432 _ _ h3424 (ne_of_none h3363 n3375))
                    have h3439 := (x3432 _ _ h3425 (ne_of_none h3364 n3375))
                    have h3440 := (x3432 _ _ h3426 (ne_of_none h3350 n3375))
                    exact ⟨_, (acc3414 ++ [(x3427 % 3)]), eG3413, S3434, h3435, h3436, h3437, h3438, h3439, h3440, (snoc_map h3433), (same_mut eo3420 x3432 n3375), hw⟩
                  intro H3441 hw
                  obtain ⟨G3444, acc3446, eG3445, S3442, h3453, h3454, h3455, h3456, h3457, h3458, h3443, eo3452, hw⟩ := hw
                  have hw := hK3373 _ (cW_mapA0 (by rw [List.length_map]) hw)
                  have fr3459 := S3349.free n3375
                  obtain ⟨G3460, eG3461, hg3462, S3463⟩ := Sep.freeze (O' := [p1830, x1861, x1880, p1897, D3257, D3315]) S3442 (.head _) h3443 fr3459 ((all_cons ⟨(.tail _ (.head _)), (ne_of_none h3360 n3375)⟩ (all_cons ⟨(.tail _ (.tail _ (.head _))), (ne_of_none h3361 n3375)⟩ (all_cons ⟨(.tail _ (.tail _ (.tail _ (.head _)))), (ne_of_none h3362 n3375)⟩ (all_cons ⟨(.tail _ (.tail _ (.tail _ (.tail _ (.head _))))), (ne_of_none h3363 n3375)⟩ (all_cons ⟨(.tail _ (.tail _ (.tail _ (.tail _ (.tail _ (.head _)))))), (ne_of_none h3364 n3375)⟩ (all_cons ⟨(.tail _ (.tail _ (.tail _ (.tail _ (.tail _ (.tail _ (.head _))))))), (ne_of_none h3350 n3375)⟩ all_nil)))))))
                  refine ⟨_, h3458, (app_len (RpAll.mono eG3461 (RpAll.mono eG3445 d3355)) z3369), ?_⟩
                  generalize g3464 : upd H3441 D3315 _ = H3465
                  obtain ⟨x3466, h3467⟩ := gen_mut g3464
                  have S3468 := S3463.mut1 x3466 (.tail _ (.tail _ (.tail _ (.tail _ (.tail _ (.head _)))))) h3467
                  have hw := cW_ok hw
                  have h3469 := (x3466 _ _ h3453 (ne_of_none h3300 n3316))
                  have h3470 := (x3466 _ _ h3454 (ne_of_none h3301 n3316))
                  have h3471 := (x3466 _ _ h3455 (ne_of_none h3302 n3316))
                  have h3472 := (x3466 _ _ h3456 (ne_of_none h3303 n3316))
                  have h3473 := (x3466 _ _ h3457 (ne_of_none h3290 n3316))
                  exact ⟨_, (acc3353 ++ [acc3446]), _, (Same.trans (Same.trans eG3352 eG3445) eG3461), (S3468.sub (all_cons (.tail _ (.tail _ (.tail _ (.tail _ (.tail _ (.head _)))))) (all_cons (.head _) (all_cons (.tail _ (.head _)) (all_cons (.tail _ (.tail _ (.head _))) (all_cons (.tail _ (.tail _ (.tail _ (.head _)))) (all_cons (.tail _ (.tail _ (.tail _ (.tail _ (.head _))))) all_nil))))))), h3469, h3470, h3471, h3472, h3473, h3467, (app_map (RpAll.mono eG3461 (RpAll.mono eG3445 d3355)) (RpAll.one (rp_mk_ints hg3462))), (same_mut (Same.trans eo3359 eo3452) x3466 n3316), hw⟩
                intro H3474 hw
                obtain ⟨G3477, acc3479, vs3480, eG3478, S3475, h3486, h3487, h3488, h3489, h3490, h3476, d3481, eo3485, hw⟩ := hw
                have hw := hK3314 _ (cW_mapA0 (by rw [(RpAll.mono eG3478 d3309).len, List.length_map]) hw)
                have fr3491 := S3289.free n3316
                obtain ⟨G3492, eG3493, hg3494, S3495⟩ := Sep.freeze (O' := [p1830, x1861, x1880, p1897, D3257]) S3475 (.head _) h3476 fr3491 ((all_cons ⟨(.tail _ (.head _)), (ne_of_none h3300 n3316)⟩ (all_cons ⟨(.tail _ (.tail _ (.head _))), (ne_of_none h3301 n3316)⟩ (all_cons ⟨(.tail _ (.tail _ (.tail _ (.head _)))), (ne_of_none h3302 n3316)⟩ (all_cons ⟨(.tail _ (.tail _ (.tail _ (.tail _ (.head _))))), (ne_of_none h3303 n3316)⟩ (all_cons ⟨(.tail _ (.tail _ (.tail _ (.tail _ (.tail _ (.head _)))))), (ne_of_none h3290 n3316)⟩ all_nil))))))
                refine ⟨_, h3490, (app_len (RpAll.mono eG3493 (RpAll.mono eG3478 d3295)) z3310), ?_⟩
                generalize g3496 : upd H3474 D3257 _ = H3497
                obtain ⟨x3498, h3499⟩ := gen_mut g3496
                have S3500 := S3495.mut1 x3498 (.tail _ (.tail _ (.tail _ (.tail _ (.head _))))) h3499
                have hw := cW_ok hw
                have h3501 := (x3498 _ _ h3486 (ne_of_none h3252 n3258))
                have h3502 := (x3498 _ _ h3487 (ne_of_none (e3231 _ _ h3228) n3258))
                have h3503 := (x3498 _ _ h3488 (ne_of_none (e3231 _ _ (e3226 _ _ h1975)) n3258))
                have h3504 := (x3498 _ _ h3489 (ne_of_none (e3231 _ _ (e3226 _ _ h1976)) n3258))
                exact ⟨_, (acc3293 ++ [acc3479]), _, (Same.trans (Same.trans eG3292 eG3478) eG3493), (S3500.sub (all_cons (.tail _ (.tail _ (.tail _ (.tail _ (.head _))))) (all_cons (.head _) (all_cons (.tail _ (.head _)) (all_cons (.tail _ (.tail _ (.head _))) (all_cons (.tail _ (.tail _ (.tail _ (.head _)))) all_nil)))))), h3501, h3502, h3503, h3504, h3499, (app_map (RpAll.mono eG3493 (RpAll.mono eG3478 d3295)) (RpAll.one (rp_mk_list hg3494 (RpAll.mono eG3493 d3481)))), (same_mut (Same.trans eo3299 eo3485) x3498 n3258), hw⟩
              intro H3505 hw
              obtain ⟨G3508, acc3510, vs3511, eG3509, S3506, h3517, h3518, h3519, h3520, h3507, d3512, eo3516, hw⟩ := hw
              have hw := hK3256 _ (cW_mapA0 (by rw [(RpAll.mono eG3509 d3242).len, List.length_map]) hw)
              have fr3521 := S3238.free n3258
              have hw := cW_ok hw
              have hw := hK3250 _ hw
              obtain ⟨G3522, eG3523, hg3524, S3525⟩ := Sep.freeze (O' := [p1830, x1861, x1880, p1897]) S3506 (.head _) h3507 fr3521 ((all_cons ⟨(.tail _ (.head _)), (ne_of_none h3252 n3258)⟩ (all_cons ⟨(.tail _ (.tail _ (.head _))), (ne_of_none (e3231 _ _ h3228) n3258)⟩ (all_cons ⟨(.tail _ (.tail _ (.tail _ (.head _)))), (ne_of_none (e3231 _ _ (e3226 _ _ h1975)) n3258)⟩ (all_cons ⟨(.tail _ (.tail _ (.tail _ (.tail _ (.head _))))), (ne_of_none (e3231 _ _ (e3226 _ _ h1976)) n3258)⟩ all_nil)))))
              exact ⟨(acc3510), _, _, rfl, (Same.trans eG3509 eG3523), S3525, h3517, h3518, h3519, h3520, (rp_mk_list hg3524 (RpAll.mono eG3523 d3512)), hw⟩
            · have hw := cW_neg c3253 hw
              have hw := cW_ok hw
              have hw := hK3250 _ hw
              have h3526 := (e3231 _ _ h3228)
              have h3527 := (e3231 _ _ (e3226 _ _ h1975))
              have h3528 := (e3231 _ _ (e3226 _ _ h1976))
              exact ⟨(v3229), _, _, rfl, (Same.refl _), S3238, h3252, h3526, h3527, h3528, (rp_mk_list h3241 d3242), hw⟩
          · intro σ H3529 hw
            obtain ⟨planes_3247, u3248, G3536, rfl, eG3537, S3530, h3531, h3532, h3533, h3534, r3535, hw⟩ := hw
            obtain ⟨a3538, vs3539, rfl, h3540, d3541⟩ := rp_list r3535
            unfold F_law_k15 at hw
            refine ⟨_, rfl, _, rfl, ?_⟩
            have r3542 : Rp G3536 (V.ref a3538) (encD ((encL (encL (encL PyData.int))) (planes_3247))) := (rp_mk_list h3540 d3541)
            obtain ⟨G3543, eG3544, hg3545, S3546⟩ := Sep.freeze (O' := [p1830, x1861, x1880]) S3530 (.tail _ (.tail _ (.tail _ (.head _)))) h3534 fr1904 ((all_cons ⟨(.head _), (ne_of_none ((SameXs.of x1894) _ _ (e1887 _ _ h1878) (ni1 (ne_of_none h1878 n1882))) n1898)⟩ (all_cons ⟨(.tail _ (.head _)), (ne_of_none ((SameXs.of x1894) _ _ h1891 (ni1 (ne_of_none h1875 n1882))) n1898)⟩ (all_cons ⟨(.tail _ (.tail _ (.head _))), (ne_of_none h1895 n1898)⟩ all_nil))))
            have r3547 : Rp G3543 (V.ref p1897) (encD ((encL encD) (offsets_1922))) := (rp_mk_list hg3545 (RpAll.mono eG3544 (RpAll.mono eG3537 (RpAll.mono eG3234 d1977))))
            refine ⟨(by show 2 ≤ sizeLine; decide), fun p3548 n3549 => ?_⟩
            generalize g3550 : upd H3529 p3548 _ = H3551
            obtain ⟨e3552, h3553⟩ := gen_new n3549 g3550
            have h3554 : H3551 p3548 = some (.lst ([(V.ref a3538), (V.ref p1897)])) := h3553
            have fr3555 := S3546.free n3549
            have S3556 := S3546.new n3549 e3552 h3554 fr3555
            have d3557 : RpAll G3543 ([(V.ref a3538), (V.ref p1897)]) (([((encL (encL (encL PyData.int))) (planes_3247)), ((encL encD) (offsets_1922))] : (List PyData)).map encD) := (RpAll.cons (Rp.mono eG3544 r3542) (RpAll.cons r3547 RpAll.nil))
            obtain ⟨g3558, hw⟩ := cW_grd hw
            refine ⟨_, ((encL encD) ([((encL (encL (encL PyData.int))) (planes_3247)), ((encL encD) (offsets_1922))])), rfl, (rp_mk_list h3554 (RpAll.mono S3556.sG d3557)), g3558, (by show 0 ≤ sizeLine; decide), fun p3559 n3560 => ?_⟩
            generalize g3561 : upd H3551 p3559 _ = H3562
            obtain ⟨e3563, h3564⟩ := gen_new n3560 g3561
            have h3565 : H3562 p3559 = some (.lst ([])) := h3564
            have fr3566 := S3556.free n3560
            have S3567 := S3556.new n3560 e3563 h3565 fr3566
            have d3568 : RpAll G3543 ([]) ((([] : (List (List (List Int)))) : (List (List (List Int)))).map (encL (encL PyData.int))) := RpAll.nil
            have h3569 := (e3563 _ _ (e3552 _ _ h3532))
            refine ⟨_, rfl, _, _, _, rfl, h3569, G3543, _, _, v1872, rfl, S3567.sG, (hide_nil h3569), cW_callN hw (fun v3570 hw H3571 e3572 => ?_) trivial⟩
            have S3573 := S3567.same e3572
            obtain ⟨g3574, hw⟩ := cW_grd hw
            obtain ⟨K3584, hK3585, hw⟩ := cW_push hw
            refine ⟨_, rfl, g3574.1, g3574.2, for_range (lo := 0) (n := Int.toNat (v3570)) (fun i σ H' => ∃ (due_3586 : (List (List (List Int)))) (vs3587 : List V) (u3588 : Option V) (u3589 : Option V) (G' : Hp), σ = [some (V.ref a_script), some (V.ref p1830), some (V.int (width_1844)), some (V.int (height_1845)), some (V.ref x1861), some (V.int ((1 + ((itD (v1827) (4)) % 5)))), some (V.ref x1880), some (V.ref p1897), u1924, some (V.ref a3538), some (V.str ((PyData.shown ((encL encD) ([((encL (encL (encL PyData.int))) (planes_3247)), ((encL encD) (offsets_1922))]))))), some (V.ref p3559), u3588, u3589, none, none, none, none, none, none, none, none] ∧ Same G3543 G' ∧ Sep [] H H G' H' [p1830, x1861, x1880, p3559] ∧ H' p1830 = some (.lst ((v1827 : (List Int)).map V.int)) ∧ H' x1861 = some (.ins AD.c_Format dx1862 [("width", V.int (v1872.width)), ("height", V.int (v1872.height)), ("depth", V.int (v1872.depth)), ("chroma", V.int (v1872.chroma))]) ∧ H' x1880 = some (.ins AD.c_Settings dx1881 [("fmt", V.ref x1861), ("slots", V.int (v1892.slots)), ("rows", V.int (v1892.rows)), ("deblock", V.bl (v1892.deblock)), ("offset", V.bl (v1892.offset)), ("layers", V.int (v1892.layers))]) ∧ H' p3559 = some (.lst (vs3587)) ∧ RpAll G' (vs3587) ((due_3586 : (List (List (List Int)))).map (encL (encL PyData.int))) ∧ cW (forS (List.drop i (rng (0) (Int.toNat (v3570)))) due_3586 (fun s x => F_law_b19 (v1872) ((1 + ((itD (v1827) (4)) % 5))) (offsets_1922) (planes_3247) s x)) K3584 EE) ?_ ?_ ?_⟩
            · have h3590 := (e3572 _ _ (e3563 _ _ (e3552 _ _ h3531)))
              have h3591 := (e3572 _ _ h3569)
              have h3592 := (e3572 _ _ (e3563 _ _ (e3552 _ _ h3533)))
              have h3593 := (e3572 _ _ h3565)
              exact ⟨(([] : (List (List (List Int))))), _, _, _, _, rfl, (Same.refl _), (S3573.sub (all_cons (.tail _ (.tail _ (.head _))) (all_cons (.tail _ (.tail _ (.tail _ (.head _)))) (all_cons (.tail _ (.tail _ (.tail _ (.tail _ (.head _))))) (all_cons (.head _) all_nil))))), h3590, h3591, h3592, h3593, d3568, hw⟩
            · intro i σ H3594 hi hw
              obtain ⟨due_3586, vs3587, u3588, u3589, G3601, rfl, eG3602, S3595, h3596, h3597, h3598, h3599, d3600, hw⟩ := hw
              have hw := cW_forS (rng_get hi) hw
              generalize (0 + (i : Int)) = x3603 at hw ⊢
              have hw : cW (F_law_b19 (v1872) ((1 + ((itD (v1827) (4)) % 5))) (offsets_1922) (planes_3247) (due_3586) (x3603)) _ EE := hw
              unfold F_law_b19 at hw
              obtain ⟨K3605, hK3606, hw⟩ := cW_name hw
              refine ⟨fun σ H' => ∃ (small_3615 : Int) (G' : Hp), σ = [some (V.ref a_script), some (V.ref p1830), some (V.int (width_1844)), some (V.int (height_1845)), some (V.ref x1861), some (V.int ((1 + ((itD (v1827) (4)) % 5)))), some (V.ref x1880), some (V.ref p1897), u1924, some (V.ref a3538), some (V.str ((PyData.shown ((encL encD) ([((encL (encL (encL PyData.int))) (planes_3247)), ((encL encD) (offsets_1922))]))))), some (V.ref p3559), some (V.int (x3603)), some (V.int small_3615), none, none, none, none, none, none, none, none] ∧ Same G3601 G' ∧ Sep [] H H G' H' [p1830, x1861, x1880, p3559] ∧ H' p1830 = some (.lst ((v1827 : (List Int)).map V.int)) ∧ H' x1861 = some (.ins AD.c_Format dx1862 [("width", V.int (v1872.width)), ("height", V.int (v1872.height)), ("depth", V.int (v1872.depth)), ("chroma", V.int (v1872.chroma))]) ∧ H' x1880 = some (.ins AD.c_Settings dx1881 [("fmt", V.ref x1861), ("slots", V.int (v1892.slots)), ("rows", V.int (v1892.rows)), ("deblock", V.bl (v1892.deblock)), ("offset", V.bl (v1892.offset)), ("layers", V.int (v1892.layers))]) ∧ H' p3559 = some (.lst (vs3587)) ∧ cW (F_law_k20 (v1872) ((1 + ((itD (v1827) (4)) % 5))) (offsets_1922) (planes_3247) (due_3586) (x3603) small_3615) K3605 EE, ?_, ?_⟩
              · obtain ⟨K3616, hK3617, hw⟩ := cW_push hw
                refine ⟨_, rfl, _, _, rfl, rfl, _, rfl, ?_⟩
                refine iteD (fun c3618 => ?_) (fun c3618 => ?_)
                · have hw := cW_pos c3618 hw
                  refine ⟨_, rfl, _, _, _, _, _, rfl, h3597, T.cl_Format, T.n_Format_chroma, rfl, _, _, rfl, rfl, _, rfl, ?_⟩
                  refine iteD (fun c3619 => ?_) (fun c3619 => ?_)
                  · have hw := cW_pos c3619 hw
                    have hw := cW_ok hw
                    have hw := hK3617 _ hw
                    exact ⟨(4), _, rfl, (Same.refl _), S3595, h3596, h3597, h3598, h3599, hw⟩
                  · have hw := cW_neg c3619 hw
                    have hw := cW_ok hw
                    have hw := hK3617 _ hw
                    exact ⟨(8), _, rfl, (Same.refl _), S3595, h3596, h3597, h3598, h3599, hw⟩
                · have hw := cW_neg c3618 hw
                  refine iteF ?_
                  have hw := cW_ok hw
                  have hw := hK3617 _ hw
                  exact ⟨(8), _, rfl, (Same.refl _), S3595, h3596, h3597, h3598, h3599, hw⟩
              · intro σ H3620 hw
                obtain ⟨small_3615, G3626, rfl, eG3627, S3621, h3622, h3623, h3624, h3625, hw⟩ := hw
                unfold F_law_k20 at hw
                obtain ⟨g3628, hw⟩ := cW_grd hw
                obtain ⟨v3629, a3630, r3631⟩ := RpAll.ixD (k := x3603) (RpAll.mono eG3627 (RpAll.mono eG3602 (RpAll.mono eG3544 d3541))) g3628
                obtain ⟨a3632, vs3633, rfl, h3634, d3635⟩ := rp_list r3631
                obtain ⟨g3636, hw⟩ := cW_grd hw
                refine ⟨_, rfl, (.inl ⟨rfl, _, SqL.of h3625⟩), _, rfl, _, rfl, _, _, _, _, rfl, rfl, (SqL.of (S3621.sG _ _ (eG3627 _ _ (eG3602 _ _ (eG3544 _ _ h3540))))), a3630, _, rfl, _, rfl, _, rfl, _, rfl, _, rfl, _, _, _, _, _, rfl, h3623, T.cl_Format, T.n_Format_depth, rfl, _, _, rfl, rfl, _, _, rfl, rfl, (shl_side g3636.1 g3636.2.1 g3636.2.2.1 g3636.2.2.2), _, rfl, _, _, _, rfl, h3623, G3626, _, _, v1872, rfl, S3621.sG, (hide_nil h3623), cW_callN hw (fun v3637 hw H3638 e3639 => ?_) trivial⟩
                have S3640 := S3621.same e3639
                refine ⟨rfl, rfl, G3626, _, _, _, _, _, _, _, _, _, rfl, S3640.sG, (Rp.hide_nil (rp_mk_list (S3640.sG _ _ h3634) (RpAll.mono S3640.sG d3635))), (Rp.hide_nil (rp_mk_list (S3640.sG _ _ (eG3627 _ _ (eG3602 _ _ hg3545))) (RpAll.mono S3640.sG (RpAll.mono eG3627 (RpAll.mono eG3602 (RpAll.mono eG3544 (RpAll.mono eG3537 (RpAll.mono eG3234 d1977)))))))), cW_call hw (fun v3641 hw v3644 H3642 G3645 e3643 eG3646 sG3647 hn3648 r3649 => ?_) (fun e he => (hE e he).elim)⟩
                have S3650 := S3640.step e3643 eG3646 sG3647 hn3648
                obtain ⟨a3651, vs3652, rfl, h3653, d3654⟩ := rp_list r3649
                obtain ⟨g3655, hw⟩ := cW_grd hw
                have h3656 := (e3643 _ _ (e3639 _ _ h3625))
                refine ⟨_, _, _, rfl, rfl, h3656, (app_len (RpAll.mono eG3646 (RpAll.mono eG3627 d3600)) g3655), ?_⟩
                generalize g3657 : upd H3642 p3559 _ = H3658
                obtain ⟨x3659, h3660⟩ := gen_mut g3657
                have h3661 : H3658 p3559 = some (.lst (vs3587 ++ [V.ref a3651])) := h3660
                have S3662 := S3650.mut1 x3659 (.tail _ (.tail _ (.tail _ (.head _)))) h3661
                have d3663 : RpAll G3645 (vs3587 ++ [V.ref a3651]) (((due_3586) ++ [v3641] : (List (List (List Int)))).map (encL (encL PyData.int))) := app_map (RpAll.mono eG3646 (RpAll.mono eG3627 d3600)) (RpAll.one (rp_mk_list h3653 d3654))
                have hw := cW_bnd hw
                have hw := cW_ok hw
                have hw := hK3606 _ hw
                have h3665 := (x3659 _ _ (e3643 _ _ (e3639 _ _ h3622)) (ne_of_none (e3552 _ _ h3531) n3560))
                have h3666 := (x3659 _ _ (e3643 _ _ (e3639 _ _ h3623)) (ne_of_none (e3552 _ _ h3532) n3560))
                have h3667 := (x3659 _ _ (e3643 _ _ (e3639 _ _ h3624)) (ne_of_none (e3552 _ _ h3533) n3560))
                exact ⟨((due_3586) ++ [v3641]), _, _, _, _, rfl, (Same.trans (Same.trans eG3602 eG3627) eG3646), S3662, h3665, h3666, h3667, h3661, d3663, hw⟩
            · intro σ H3668 hw
              obtain ⟨due_3586, vs3587, u3588, u3589, G3675, rfl, eG3676, S3669, h3670, h3671, h3672, h3673, d3674, hw⟩ := hw
              have hw := hK3585 _ (cW_forS0 (rng_len _ _).symm hw)
              have hw : cW (F_law_r19 ((1 + ((itD (v1827) (4)) % 5))) ((⟨v1872, v1892.slots, v1892.rows, v1892.deblock, v1892.offset, v1892.layers⟩ : St_Settings)) (offsets_1922) (planes_3247) ((PyData.shown ((encL encD) ([((encL (encL (encL PyData.int))) (planes_3247)), ((encL encD) (offsets_1922))])))) (due_3586)) _ EE := hw
              unfold F_law_r19 at hw
              refine ⟨_, rfl, _, rfl, _, rfl, rfl, rfl, G3675, _, _, _, _, (⟨v1872, v1892.slots, v1892.rows, v1892.deblock, v1892.offset, v1892.layers⟩ : St_Settings), _, _, _, _, rfl, S3669.sG, (hide_nil h3672), (hide_nil h3671), (Rp.hide_nil (rp_mk_list (S3669.sG _ _ (eG3676 _ _ (eG3544 _ _ h3540))) (RpAll.mono S3669.sG (RpAll.mono eG3676 (RpAll.mono eG3544 d3541))))), (Rp.hide_nil (rp_mk_list (S3669.sG _ _ (eG3676 _ _ hg3545)) (RpAll.mono S3669.sG (RpAll.mono eG3676 (RpAll.mono eG3544 (RpAll.mono eG3537 (RpAll.mono eG3234 d1977))))))), cW_call hw (fun v3678 hw H3679 a3681 vs3682 L3683 G3684 n3685 nb3686 nd3687 e3680 eG3688 sG3689 hn3690 ga3691 gL3692 h3693 w3694 => ?_) (fun e he => (hE e he).elim)⟩
              have fr3695 := S3669.free n3685
              have S3696 : Sep _ _ _ _ H3679 (a3681 :: (L3683 ++ (p1830 :: (x1861 :: (x1880 :: (p3559 :: [])))))) := Sep.steptree S3669 e3680 eG3688 sG3689 hn3690 (a3681 :: L3683) (all_cons ⟨n3685, ga3691, some_ne h3693⟩ (fun b hb => ⟨nb3686 b hb, gL3692 b hb, OwAll.there w3694 b hb⟩))
              refine ⟨_, rfl, _, rfl, ?_⟩
              have r3697 : Rp G3684 (V.ref a3538) (encD ((encL (encL (encL PyData.int))) (planes_3247))) := (rp_mk_list (eG3688 _ _ (eG3676 _ _ (eG3544 _ _ h3540))) (RpAll.mono eG3688 (RpAll.mono eG3676 (RpAll.mono eG3544 d3541))))
              have r3698 : Rp G3684 (V.ref p1897) (encD ((encL encD) (offsets_1922))) := (rp_mk_list (eG3688 _ _ (eG3676 _ _ hg3545)) (RpAll.mono eG3688 (RpAll.mono eG3676 (RpAll.mono eG3544 (RpAll.mono eG3537 (RpAll.mono eG3234 d1977))))))
              refine ⟨(by show 2 ≤ sizeLine; decide), fun p3699 n3700 => ?_⟩
              generalize g3701 : upd H3679 p3699 _ = H3702
              obtain ⟨e3703, h3704⟩ := gen_new n3700 g3701
              have h3705 : H3702 p3699 = some (.lst ([(V.ref a3538), (V.ref p1897)])) := h3704
              have fr3706 := S3696.free n3700
              have S3707 := S3696.new n3700 e3703 h3705 fr3706
              have d3708 : RpAll G3684 ([(V.ref a3538), (V.ref p1897)]) (([((encL (encL (encL PyData.int))) (planes_3247)), ((encL encD) (offsets_1922))] : (List PyData)).map encD) := (RpAll.cons r3697 (RpAll.cons r3698 RpAll.nil))
              obtain ⟨g3709, hw⟩ := cW_grd hw
              refine ⟨_, ((encL encD) ([((encL (encL (encL PyData.int))) (planes_3247)), ((encL encD) (offsets_1922))])), rfl, (rp_mk_list h3705 (RpAll.mono S3707.sG d3708)), g3709, _, rfl, rfl, _, rfl, ?_⟩
              refine iteN (fun c3710 => ?_) (fun c3710 => ?_)
              · have hw := cW_neg c3710 hw
                refine iteT ?_
                have hw := cW_ok hw
                exact eq_bl (k _) (hK0 _ hw).symm
              · have hw := cW_pos c3710 hw
                have h3711 := (e3703 _ _ h3693)
                refine ⟨_, rfl, _, _, _, _, _, rfl, (.ty _), (.base (.lst h3711)), rfl, _, rfl, ?_⟩
                refine iteF ?_
                have w3712 : OwAll G3684 H3702 L3683 (vs3682) ((v3678 : (List (List (List Int)))).map (oL (oL oI))) := (OwAll.mono (Same.refl _) (keeps_same e3703) w3694)
                have h3713 := (e3703 _ _ (e3680 _ _ h3673))
                refine ⟨_, rfl, _, rfl, _, _, (rp_mk_list h3711 (OwAll.rpA w3712 (encO_L (encO_L encO_I)) S3707.sG)), (rp_mk_list h3713 (RpAll.mono S3707.sG (RpAll.mono eG3688 d3674))), _, rfl, ?_⟩
                refine iteN (fun c3714 => ?_) (fun c3714 => ?_)
                · have hw := cW_neg c3714 hw
                  have hw := cW_ok hw
                  exact eq_bl (k _) (hK0 _ hw).symm
                · have hw := cW_pos c3714 hw
                  have h3715 := (e3703 _ _ (e3680 _ _ h3671))
                  refine ⟨_, rfl, _, _, _, rfl, h3715, G3684, _, _, v1872, rfl, S3707.sG, (hide_nil h3715), cW_callN hw (fun v3716 hw H3717 e3718 => ?_) trivial⟩
                  have S3719 := S3707.same e3718
                  obtain ⟨g3720, hw⟩ := cW_grd hw
                  obtain ⟨K3726, hK3727, hw⟩ := cW_push hw
                  refine ⟨_, rfl, g3720.1, g3720.2, for_range (lo := 0) (n := Int.toNat (v3716)) (fun i σ H' => ∃ (u3728 : Option V) (told_3729 : (List (List (List Int)))) (vs3730 : List V) (L3731 : List Addr) (u3732 : Option V) (G' : Hp), σ = [some (V.ref a_script), some (V.ref p1830), some (V.int (width_1844)), some (V.int (height_1845)), some (V.ref x1861), some (V.int ((1 + ((itD (v1827) (4)) % 5)))), some (V.ref x1880), some (V.ref p1897), u1924, some (V.ref a3538), some (V.str ((PyData.shown ((encL encD) ([((encL (encL (encL PyData.int))) (planes_3247)), ((encL encD) (offsets_1922))]))))), some (V.ref p3559), u3728, u3589, some (V.ref a3681), u3732, none, none, none, none, none, none] ∧ Same G3684 G' ∧ Sep [] H H G' H' (p1830 :: (x1861 :: (x1880 :: (p3559 :: (a3681 :: (L3731 ++ [])))))) ∧ H' p1830 = some (.lst ((v1827 : (List Int)).map V.int)) ∧ H' x1861 = some (.ins AD.c_Format dx1862 [("width", V.int (v1872.width)), ("height", V.int (v1872.height)), ("depth", V.int (v1872.depth)), ("chroma", V.int (v1872.chroma))]) ∧ H' x1880 = some (.ins AD.c_Settings dx1881 [("fmt", V.ref x1861), ("slots", V.int (v1892.slots)), ("rows", V.int (v1892.rows)), ("deblock", V.bl (v1892.deblock)), ("offset", V.bl (v1892.offset)), ("layers", V.int (v1892.layers))]) ∧ H' p3559 = some (.lst (vs3587)) ∧ H' a3681 = some (.lst (vs3730)) ∧ (∀ b ∈ L3731, b ≠ p1830) ∧ (∀ b ∈ L3731, b ≠ x1861) ∧ (∀ b ∈ L3731, b ≠ x1880) ∧ (∀ b ∈ L3731, b ≠ p3559) ∧ (∀ b ∈ L3731, b ≠ a3681) ∧ OwAll G' H' L3731 (vs3730) ((told_3729 : (List (List (List Int)))).map (oL (oL oI))) ∧ cW (forS (List.drop i (rng (0) (Int.toNat (v3716)))) told_3729 (fun s x => F_law_b21  s x)) K3726 EE) ?_ ?_ ?_⟩
                  · have h3733 := (e3718 _ _ (e3703 _ _ (e3680 _ _ h3670)))
                    have h3734 := (e3718 _ _ h3715)
                    have h3735 := (e3718 _ _ (e3703 _ _ (e3680 _ _ h3672)))
                    have h3736 := (e3718 _ _ h3713)
                    have h3737 := (e3718 _ _ h3711)
                    have w3738 : OwAll G3684 H3717 L3683 (vs3682) ((v3678 : (List (List (List Int)))).map (oL (oL oI))) := (OwAll.mono (Same.refl _) (keeps_same e3718) w3712)
                    exact ⟨_, (v3678), (vs3682), L3683, _, _, rfl, (Same.refl _), (S3719.sub (all_cons (.tail _ (.tail _ (List.mem_append_right _ (.head _)))) (all_cons (.tail _ (.tail _ (List.mem_append_right _ (.tail _ (.head _))))) (all_cons (.tail _ (.tail _ (List.mem_append_right _ (.tail _ (.tail _ (.head _)))))) (all_cons (.tail _ (.tail _ (List.mem_append_right _ (.tail _ (.tail _ (.tail _ (.head _))))))) (all_cons (.tail _ (.head _)) (all_app ((fun b hb => (.tail _ (.tail _ (List.mem_append_left _ hb)))) : ∀ b ∈ L3683, b ∈ (p3699 :: (a3681 :: (L3683 ++ (p1830 :: (x1861 :: (x1880 :: (p3559 :: [])))))))) all_nil))))))), h3733, h3734, h3735, h3736, h3737, (new_ne2 nb3686 (S3669.ow _ (.head _)).2.1), (new_ne2 nb3686 (S3669.ow _ (.tail _ (.head _))).2.1), (new_ne2 nb3686 (S3669.ow _ (.tail _ (.tail _ (.head _)))).2.1), (new_ne2 nb3686 (S3669.ow _ (.tail _ (.tail _ (.tail _ (.head _))))).2.1), nd3687, w3738, hw⟩
                  · intro i σ H3739 hi hw
                    obtain ⟨u3728, told_3729, vs3730, L3731, u3732, G3752, rfl, eG3753, S3740, h3741, h3742, h3743, h3744, h3745, ne3746, ne3747, ne3748, ne3749, ne3750, w3751, hw⟩ := hw
                    have hw := cW_forS (rng_get hi) hw
                    generalize (0 + (i : Int)) = x3754 at hw ⊢
                    have hw : cW (F_law_b21  (told_3729) (x3754)) _ EE := hw
                    unfold F_law_b21 at hw
                    obtain ⟨K3756, hK3757, hw⟩ := cW_name hw
                    obtain ⟨g3759, hw⟩ := cW_grd hw
                    obtain ⟨v3760, L3761, a3762, w3763, hs3764, up3765, gr3766⟩ := OwAll.partM (k := x3754) w3751 g3759
                    obtain ⟨b3767, vs3768, L3769, rfl, rfl, h3770, w3771, nb3772⟩ := Ow.toList w3763
                    obtain ⟨g3773, hw⟩ := cW_grd hw
                    obtain ⟨K3775, hK3776, hw⟩ := cW_push hw
                    refine ⟨_, rfl, _, rfl, _, _, _, _, rfl, rfl, (SqL.of h3745), a3762, _, _, _, rfl, (SqL.of h3770), (by rw [(OwAll.rpA w3771 (encO_L encO_I) S3740.sG).len, List.length_map]), _, rfl, g3773.1, g3773.2, for_range (lo := 0) (n := Int.toNat (((((itD (told_3729) (x3754))) : (List (List Int))).length : Int))) (fun i σ H' => ∃ (told_3777 : (List (List (List Int)))) (vs3778 : List V) (L3779 : List Addr) (u3780 : Option V) (G' : Hp), σ = [some (V.ref a_script), some (V.ref p1830), some (V.int (width_1844)), some (V.int (height_1845)), some (V.ref x1861), some (V.int ((1 + ((itD (v1827) (4)) % 5)))), some (V.ref x1880), some (V.ref p1897), u1924, some (V.ref a3538), some (V.str ((PyData.shown ((encL encD) ([((encL (encL (encL PyData.int))) (planes_3247)), ((encL encD) (offsets_1922))]))))), some (V.ref p3559), some (V.int (x3754)), u3589, some (V.ref a3681), u3780, none, none, none, none, none, none] ∧ Same G3752 G' ∧ Sep [] H H G' H' (p1830 :: (x1861 :: (x1880 :: (p3559 :: (a3681 :: (L3779 ++ [])))))) ∧ H' p1830 = some (.lst ((v1827 : (List Int)).map V.int)) ∧ H' x1861 = some (.ins AD.c_Format dx1862 [("width", V.int (v1872.width)), ("height", V.int (v1872.height)), ("depth", V.int (v1872.depth)), ("chroma", V.int (v1872.chroma))]) ∧ H' x1880 = some (.ins AD.c_Settings dx1881 [("fmt", V.ref x1861), ("slots", V.int (v1892.slots)), ("rows", V.int (v1892.rows)), ("deblock", V.bl (v1892.deblock)), ("offset", V.bl (v1892.offset)), ("layers", V.int (v1892.layers))]) ∧ H' p3559 = some (.lst (vs3587)) ∧ H' a3681 = some (.lst (vs3778)) ∧ (∀ b ∈ L3779, b ≠ p1830) ∧ (∀ b ∈ L3779, b ≠ x1861) ∧ (∀ b ∈ L3779, b ≠ x1880) ∧ (∀ b ∈ L3779, b ≠ p3559) ∧ (∀ b ∈ L3779, b ≠ a3681) ∧ OwAll G' H' L3779 (vs3778) ((told_3777 : (List (List (List Int)))).map (oL (oL oI))) ∧ cW (forS (List.drop i (rng (0) (Int.toNat (((((itD (told_3729) (x3754))) : (List (List Int))).length : Int))))) told_3777 (fun s x => F_law_b22 (x3754) s x)) K3775 EE) ?_ ?_ ?_⟩
                    · exact ⟨(told_3729), (vs3730), L3731, _, _, rfl, (Same.refl _), (S3740.sub (all_cons (.head _) (all_cons (.tail _ (.head _)) (all_cons (.tail _ (.tail _ (.head _))) (all_cons (.tail _ (.tail _ (.tail _ (.head _)))) (all_cons (.tail _ (.tail _ (.tail _ (.tail _ (.head _))))) (all_app ((fun b hb => (.tail _ (.tail _ (.tail _ (.tail _ (.tail _ (List.mem_append_left _ hb))))))) : ∀ b ∈ L3731, b ∈ (p1830 :: (x1861 :: (x1880 :: (p3559 :: (a3681 :: (L3731 ++ []))))))) all_nil))))))), h3741, h3742, h3743, h3744, h3745, ne3746, ne3747, ne3748, ne3749, ne3750, w3751, hw⟩
                    · intro i σ H3781 hi hw
                      obtain ⟨told_3777, vs3778, L3779, u3780, G3794, rfl, eG3795, S3782, h3783, h3784, h3785, h3786, h3787, ne3788, ne3789, ne3790, ne3791, ne3792, w3793, hw⟩ := hw
                      have hw := cW_forS (rng_get hi) hw
                      generalize (0 + (i : Int)) = x3796 at hw ⊢
                      have hw : cW (F_law_b22 (x3754) (told_3777) (x3796)) _ EE := hw
                      unfold F_law_b22 at hw
                      obtain ⟨K3798, hK3799, hw⟩ := cW_name hw
                      obtain ⟨g3801, hw⟩ := cW_grd hw
                      obtain ⟨v3802, L3803, a3804, w3805, hs3806, up3807, gr3808⟩ := OwAll.partM (k := x3754) w3793 g3801
                      obtain ⟨b3809, vs3810, L3811, rfl, rfl, h3812, w3813, nb3814⟩ := Ow.toList w3805
                      obtain ⟨g3815, hw⟩ := cW_grd hw
                      obtain ⟨v3816, L3817, a3818, w3819, hs3820, up3821, gr3822⟩ := OwAll.partM (k := x3796) w3813 g3815
                      obtain ⟨b3823, rfl, rfl, h3824⟩ := Ow.toInts w3819
                      obtain ⟨g3825, hw⟩ := cW_grd hw
                      refine ⟨_, rfl, _, rfl, _, rfl, _, _, _, _, rfl, rfl, (SqL.of h3787), a3804, _, rfl, _, _, _, _, rfl, rfl, (SqL.of h3812), a3818, _, _, _, _, rfl, rfl, h3824, (ixN_map g3825), ?_⟩
                      generalize g3826 : upd H3781 b3823 _ = H3827
                      obtain ⟨x3828, h3829⟩ := gen_mut g3826
                      have h3830 : H3827 b3823 = some (.lst ((setL ((itD ((itD (told_3777) (x3754))) (x3796))) (0) ((-1)) : (List Int)).map V.int)) := set_map h3829
                      have S3831 := S3782.mut1 x3828 (((fun b hb => (((fun b hb => (.tail _ (.tail _ (.tail _ (.tail _ (.tail _ (List.mem_append_left _ hb))))))) : ∀ b ∈ L3779, b ∈ (p1830 :: (x1861 :: (x1880 :: (p3559 :: (a3681 :: (L3779 ++ []))))))) : ∀ b ∈ L3779, b ∈ (p1830 :: (x1861 :: (x1880 :: (p3559 :: (a3681 :: (L3779 ++ []))))))) b ((fun c hc => hs3806 c (List.mem_cons_of_mem _ hc)) b hb)) : ∀ b ∈ L3811, b ∈ (p1830 :: (x1861 :: (x1880 :: (p3559 :: (a3681 :: (L3779 ++ []))))))) _ (hs3820 _ List.mem_cons_self)) h3830
                      have w3832 : OwAll G3794 H3827 L3811 (vs3810) ((setL ((itD (told_3777) (x3754))) (x3796) (setL ((itD ((itD (told_3777) (x3754))) (x3796))) (0) ((-1))) : (List (List Int))).map (oL oI)) := upd_tree up3821 x3828 List.mem_cons_self (Ow.ints h3830)
                      have hw := cW_bnd hw
                      have h3834 := (x3828 _ _ h3812 (nb3814 _ (hs3820 _ List.mem_cons_self)).symm)
                      have w3835 : OwAll G3794 H3827 L3779 (vs3778) ((setL (told_3777) (x3754) (setL ((itD (told_3777) (x3754))) (x3796) (setL ((itD ((itD (told_3777) (x3754))) (x3796))) (0) ((-1)))) : (List (List (List Int)))).map (oL (oL oI))) := upd_tree up3807 x3828 (List.mem_cons_of_mem _ (hs3820 _ List.mem_cons_self)) (Ow.list h3834 w3832 (nb3814 : ∀ b ∈ L3811, b ≠ b3809))
                      have hw := cW_bnd hw
                      have hw := cW_ok hw
                      have hw := hK3799 _ hw
                      have h3837 := (x3828 _ _ h3783 ((((fun b hb => (ne3788 : ∀ b ∈ L3779, b ≠ p1830) b ((fun c hc => hs3806 c (List.mem_cons_of_mem _ hc)) b hb)) : ∀ b ∈ L3811, b ≠ p1830) _ (hs3820 _ List.mem_cons_self))).symm)
                      have h3838 := (x3828 _ _ h3784 ((((fun b hb => (ne3789 : ∀ b ∈ L3779, b ≠ x1861) b ((fun c hc => hs3806 c (List.mem_cons_of_mem _ hc)) b hb)) : ∀ b ∈ L3811, b ≠ x1861) _ (hs3820 _ List.mem_cons_self))).symm)
                      have h3839 := (x3828 _ _ h3785 ((((fun b hb => (ne3790 : ∀ b ∈ L3779, b ≠ x1880) b ((fun c hc => hs3806 c (List.mem_cons_of_mem _ hc)) b hb)) : ∀ b ∈ L3811, b ≠ x1880) _ (hs3820 _ List.mem_cons_self))).symm)
                      have h3840 := (x3828 _ _ h3786 ((((fun b hb => (ne3791 : ∀ b ∈ L3779, b ≠ p3559) b ((fun c hc => hs3806 c (List.mem_cons_of_mem _ hc)) b hb)) : ∀ b ∈ L3811, b ≠ p3559) _ (hs3820 _ List.mem_cons_self))).symm)
                      have h3841 := (x3828 _ _ h3787 ((((fun b hb => (ne3792 : ∀ b ∈ L3779, b ≠ a3681) b ((fun c hc => hs3806 c (List.mem_cons_of_mem _ hc)) b hb)) : ∀ b ∈ L3811, b ≠ a3681) _ (hs3820 _ List.mem_cons_self))).symm)
                      exact ⟨(setL (told_3777) (x3754) (setL ((itD (told_3777) (x3754))) (x3796) (setL ((itD ((itD (told_3777) (x3754))) (x3796))) (0) ((-1))))), (vs3778), L3779, _, _, rfl, eG3795, (S3831.sub (all_cons (.head _) (all_cons (.tail _ (.head _)) (all_cons (.tail _ (.tail _ (.head _))) (all_cons (.tail _ (.tail _ (.tail _ (.head _)))) (all_cons (.tail _ (.tail _ (.tail _ (.tail _ (.head _))))) (all_app ((fun b hb => (.tail _ (.tail _ (.tail _ (.tail _ (.tail _ (List.mem_append_left _ hb))))))) : ∀ b ∈ L3779, b ∈ (p1830 :: (x1861 :: (x1880 :: (p3559 :: (a3681 :: (L3779 ++ []))))))) all_nil))))))), h3837, h3838, h3839, h3840, h3841, ne3788, ne3789, ne3790, ne3791, ne3792, w3835, hw⟩
                    · intro σ H3842 hw
                      obtain ⟨told_3777, vs3778, L3779, u3780, G3855, rfl, eG3856, S3843, h3844, h3845, h3846, h3847, h3848, ne3849, ne3850, ne3851, ne3852, ne3853, w3854, hw⟩ := hw
                      have hw := hK3776 _ (cW_forS0 (rng_len _ _).symm hw)
                      have hw : cW (F_law_r22  (told_3777)) _ EE := hw
                      unfold F_law_r22 at hw
                      have hw := cW_ok hw
                      have hw := hK3757 _ hw
                      exact ⟨_, (told_3777), (vs3778), L3779, _, _, rfl, (Same.trans eG3753 eG3856), (S3843.sub (all_cons (.head _) (all_cons (.tail _ (.head _)) (all_cons (.tail _ (.tail _ (.head _))) (all_cons (.tail _ (.tail _ (.tail _ (.head _)))) (all_cons (.tail _ (.tail _ (.tail _ (.tail _ (.head _))))) (all_app ((fun b hb => (.tail _ (.tail _ (.tail _ (.tail _ (.tail _ (List.mem_append_left _ hb))))))) : ∀ b ∈ L3779, b ∈ (p1830 :: (x1861 :: (x1880 :: (p3559 :: (a3681 :: (L3779 ++ []))))))) all_nil))))))), h3844, h3845, h3846, h3847, h3848, ne3849, ne3850, ne3851, ne3852, ne3853, w3854, hw⟩
                  · intro σ H3858 hw
                    obtain ⟨u3728, told_3729, vs3730, L3731, u3732, G3871, rfl, eG3872, S3859, h3860, h3861, h3862, h3863, h3864, ne3865, ne3866, ne3867, ne3868, ne3869, w3870, hw⟩ := hw
                    have hw := hK3727 _ (cW_forS0 (rng_len _ _).symm hw)
                    have hw : cW (F_law_r21 ((1 + ((itD (v1827) (4)) % 5))) ((⟨v1872, v1892.slots, v1892.rows, v1892.deblock, v1892.offset, v1892.layers⟩ : St_Settings)) (offsets_1922) (planes_3247) ((PyData.shown ((encL encD) ([((encL (encL (encL PyData.int))) (planes_3247)), ((encL encD) (offsets_1922))])))) (told_3729)) _ EE := hw
                    unfold F_law_r21 at hw
                    obtain ⟨K3875, hK3876, hw⟩ := cW_push hw
                    refine ⟨_, rfl, _, rfl, ⟨_, (SqL.of (S3859.sG _ _ (eG3872 _ _ (eG3688 _ _ (eG3676 _ _ (eG3544 _ _ h3540))))))⟩, fun D3877 n3878 => lc_list (K := K) (a := a3538) (xs := vs3539) (fun i1 H' => ∃ (G' : Hp) (acc3880 : (List (List (List Int)))) (vs3881 : List V), Same G3871 G' ∧ Sep [] H H G' H' (D3877 :: (a3681 :: (p1830 :: (x1861 :: (x1880 :: (p3559 :: (L3731 ++ []))))))) ∧ H' a3681 = some (.lst (vs3730)) ∧ H' p1830 = some (.lst ((v1827 : (List Int)).map V.int)) ∧ H' x1861 = some (.ins AD.c_Format dx1862 [("width", V.int (v1872.width)), ("height", V.int (v1872.height)), ("depth", V.int (v1872.depth)), ("chroma", V.int (v1872.chroma))]) ∧ H' x1880 = some (.ins AD.c_Settings dx1881 [("fmt", V.ref x1861), ("slots", V.int (v1892.slots)), ("rows", V.int (v1892.rows)), ("deblock", V.bl (v1892.deblock)), ("offset", V.bl (v1892.offset)), ("layers", V.int (v1892.layers))]) ∧ H' p3559 = some (.lst (vs3587)) ∧ H' D3877 = some (.lst vs3881) ∧ OwAll G' H' L3731 (vs3730) ((told_3729 : (List (List (List Int)))).map (oL (oL oI))) ∧ RpAll G' vs3881 ((acc3880 : (List (List (List Int)))).map (encL (encL PyData.int))) ∧ Same H3858 H' ∧ cW (mapA (List.drop i1 (planes_3247)) acc3880 (fun x => noEr (F_law_c23  x))) K3875 EE) ?_ ?_ ?_ ?_⟩
                    · generalize g3882 : upd H3858 D3877 _ = H3883
                      obtain ⟨e3884, h3885⟩ := gen_new n3878 g3882
                      have fr3886 := S3859.free n3878
                      have S3887 := S3859.new n3878 e3884 h3885 fr3886
                      have h3888 := (e3884 _ _ h3864)
                      have h3889 := (e3884 _ _ h3860)
                      have h3890 := (e3884 _ _ h3861)
                      have h3891 := (e3884 _ _ h3862)
                      have h3892 := (e3884 _ _ h3863)
                      have w3893 : OwAll G3871 H3883 L3731 (vs3730) ((told_3729 : (List (List (List Int)))).map (oL (oL oI))) := (OwAll.mono (Same.refl _) (keeps_same e3884) w3870)
                      exact ⟨_, [], [], Same.refl _, (S3887.sub (all_cons (.head _) (all_cons (.tail _ (.tail _ (.tail _ (.tail _ (.tail _ (.head _)))))) (all_cons (.tail _ (.head _)) (all_cons (.tail _ (.tail _ (.head _))) (all_cons (.tail _ (.tail _ (.tail _ (.head _)))) (all_cons (.tail _ (.tail _ (.tail _ (.tail _ (.head _))))) (all_app ((fun b hb => (.tail _ (.tail _ (.tail _ (.tail _ (.tail _ (.tail _ (List.mem_append_left _ hb)))))))) : ∀ b ∈ L3731, b ∈ (D3877 :: (p1830 :: (x1861 :: (x1880 :: (p3559 :: (a3681 :: (L3731 ++ [])))))))) all_nil)))))))), h3888, h3889, h3890, h3891, h3892, h3885, w3893, RpAll.nil, e3884, hw⟩
                    · intro i1 H3894 _ hw
                      obtain ⟨G3897, acc3899, vs3900, eG3898, S3895, h3906, h3907, h3908, h3909, h3910, h3896, w3911, d3901, eo3905, hw⟩ := hw
                      exact (SqL.of (S3895.sG _ _ (eG3898 _ _ (eG3872 _ _ (eG3688 _ _ (eG3676 _ _ (eG3544 _ _ h3540)))))))
                    · intro i1 x H3912 hj hw
                      obtain ⟨G3915, acc3917, vs3918, eG3916, S3913, h3924, h3925, h3926, h3927, h3928, h3914, w3929, d3919, eo3923, hw⟩ := hw
                      obtain ⟨x3930, hx, r3931⟩ := RpAll.get (RpAll.mono eG3916 (RpAll.mono eG3872 (RpAll.mono eG3688 (RpAll.mono eG3676 (RpAll.mono eG3544 d3541))))) hj
                      obtain ⟨a3932, vs3933, rfl, h3934, d3935⟩ := rp_list r3931
                      obtain ⟨z3936, hw⟩ := cW_mapA hx hw
                      have hw := cW_noEr hw
                      have hw : cW (F_law_c23  (x3930)) _ (fun _ => False) := hw
                      unfold F_law_c23 at hw
                      refine ⟨rfl, ?_⟩
                      refine tyes_go ?_
                      obtain ⟨g3938, hw⟩ := cW_grd hw
                      obtain ⟨K3941, hK3942, hw⟩ := cW_push hw
                      refine ⟨_, rfl, _, _, _, rfl, (SqL.of (S3913.sG _ _ h3934)), (by rw [d3935.len, List.length_map]), _, rfl, g3938.1, g3938.2, fun D3943 n3944 => lc_range (lo := 0) (n := Int.toNat ((((x3930) : (List (List Int))).length : Int))) (fun i2 H' => ∃ (G' : Hp) (acc3946 : (List (List Int))) (vs3947 : List V), Same G3915 G' ∧ Sep [] H H G' H' (D3943 :: (a3681 :: (p1830 :: (x1861 :: (x1880 :: (p3559 :: (D3877 :: (L3731 ++ [])))))))) ∧ H' a3681 = some (.lst (vs3730)) ∧ H' p1830 = some (.lst ((v1827 : (List Int)).map V.int)) ∧ H' x1861 = some (.ins AD.c_Format dx1862 [("width", V.int (v1872.width)), ("height", V.int (v1872.height)), ("depth", V.int (v1872.depth)), ("chroma", V.int (v1872.chroma))]) ∧ H' x1880 = some (.ins AD.c_Settings dx1881 [("fmt", V.ref x1861), ("slots", V.int (v1892.slots)), ("rows", V.int (v1892.rows)), ("deblock", V.bl (v1892.deblock)), ("offset", V.bl (v1892.offset)), ("layers", V.int (v1892.layers))]) ∧ H' p3559 = some (.lst (vs3587)) ∧ H' D3877 = some (.lst (vs3918)) ∧ H' D3943 = some (.lst vs3947) ∧ OwAll G' H' L3731 (vs3730) ((told_3729 : (List (List (List Int)))).map (oL (oL oI))) ∧ RpAll G' vs3947 ((acc3946 : (List (List Int))).map (encL PyData.int)) ∧ Same H3912 H' ∧ cW (mapA (List.drop i2 (rng (0) (Int.toNat ((((x3930) : (List (List Int))).length : Int))))) acc3946 (fun x => noEr (F_law_c24 (x3930) x))) K3941 (fun _ => False)) ?_ ?_ ?_⟩
                      · generalize g3948 : upd H3912 D3943 _ = H3949
                        obtain ⟨e3950, h3951⟩ := gen_new n3944 g3948
                        have fr3952 := S3913.free n3944
                        have S3953 := S3913.new n3944 e3950 h3951 fr3952
                        have h3954 := (e3950 _ _ h3924)
                        have h3955 := (e3950 _ _ h3925)
                        have h3956 := (e3950 _ _ h3926)
                        have h3957 := (e3950 _ _ h3927)
                        have h3958 := (e3950 _ _ h3928)
                        have h3959 := (e3950 _ _ h3914)
                        have w3960 : OwAll G3915 H3949 L3731 (vs3730) ((told_3729 : (List (List (List Int)))).map (oL (oL oI))) := (OwAll.mono (Same.refl _) (keeps_same e3950) w3929)
                        exact ⟨_, [], [], Same.refl _, (S3953.sub (all_cons (.head _) (all_cons (.tail _ (.tail _ (.head _))) (all_cons (.tail _ (.tail _ (.tail _ (.head _)))) (all_cons (.tail _ (.tail _ (.tail _ (.tail _ (.head _))))) (all_cons (.tail _ (.tail _ (.tail _ (.tail _ (.tail _ (.head _)))))) (all_cons (.tail _ (.tail _ (.tail _ (.tail _ (.tail _ (.tail _ (.head _))))))) (all_cons (.tail _ (.head _)) (all_app ((fun b hb => (.tail _ (.tail _ (.tail _ (.tail _ (.tail _ (.tail _ (.tail _ (List.mem_append_left _ hb))))))))) : ∀ b ∈ L3731, b ∈ (D3943 :: (D3877 :: (a3681 :: (p1830 :: (x1861 :: (x1880 :: (p3559 :: (L3731 ++ []))))))))) all_nil))))))))), h3954, h3955, h3956, h3957, h3958, h3959, h3951, w3960, RpAll.nil, e3950, hw⟩
                      · intro i2 H3961 hi hw
                        obtain ⟨G3964, acc3966, vs3967, eG3965, S3962, h3973, h3974, h3975, h3976, h3977, h3978, h3963, w3979, d3968, eo3972, hw⟩ := hw
                        obtain ⟨z3980, hw⟩ := cW_mapA (rng_get hi) hw
                        generalize (0 + (i2 : Int)) = x3981 at hw ⊢
                        have hw := cW_noEr hw
                        have hw : cW (F_law_c24 (x3930) (x3981)) _ (fun _ => False) := hw
                        unfold F_law_c24 at hw
                        refine ⟨rfl, ?_⟩
                        refine tyes_go ?_
                        obtain ⟨g3983, hw⟩ := cW_grd hw
                        obtain ⟨v3984, a3985, r3986⟩ := RpAll.ixD (k := (((((x3930) : (List (List Int))).length : Int) - 1) - x3981)) (RpAll.mono eG3965 d3935) g3983
                        obtain ⟨a3987, rfl, h3988⟩ := rp_ints r3986
                        refine ⟨_, rfl, _, rfl, _, _, _, rfl, (SqL.of (S3962.sG _ _ (eG3965 _ _ h3934))), (by rw [(RpAll.mono eG3965 d3935).len, List.length_map]), _, _, rfl, rfl, _, rfl, _, _, rfl, rfl, _, _, _, _, rfl, rfl, (SqL.of (S3962.sG _ _ (eG3965 _ _ h3934))), a3985, _, _, rfl, (SqL.of (S3962.sG _ _ h3988)), fun p3989 n3990 => ?_⟩
                        generalize g3991 : upd H3961 p3989 _ = H3992
                        obtain ⟨e3993, h3994⟩ := gen_new n3990 g3991
                        have h3995 : H3992 p3989 = some (.lst (((itD (x3930) ((((((x3930) : (List (List Int))).length : Int) - 1) - x3981))) : (List Int)).map V.int)) := h3994
                        have fr3996 := S3962.free n3990
                        have S3997 := S3962.new n3990 e3993 h3995 fr3996
                        obtain ⟨G3998, eG3999, hg4000, S4001⟩ := Sep.freeze (O' := (D3943 :: (a3681 :: (p1830 :: (x1861 :: (x1880 :: (p3559 :: (D3877 :: (L3731 ++ []))))))))) S3997 (.head _) h3995 fr3996 ((all_cons ⟨(.tail _ (.head _)), (ne_of_none h3963 n3990)⟩ (all_cons ⟨(.tail _ (.tail _ (.head _))), (ne_of_none h3973 n3990)⟩ (all_cons ⟨(.tail _ (.tail _ (.tail _ (.head _)))), (ne_of_none h3974 n3990)⟩ (all_cons ⟨(.tail _ (.tail _ (.tail _ (.tail _ (.head _))))), (ne_of_none h3975 n3990)⟩ (all_cons ⟨(.tail _ (.tail _ (.tail _ (.tail _ (.tail _ (.head _)))))), (ne_of_none h3976 n3990)⟩ (all_cons ⟨(.tail _ (.tail _ (.tail _ (.tail _ (.tail _ (.tail _ (.head _))))))), (ne_of_none h3977 n3990)⟩ (all_cons ⟨(.tail _ (.tail _ (.tail _ (.tail _ (.tail _ (.tail _ (.tail _ (.head _)))))))), (ne_of_none h3978 n3990)⟩ (all_app (fun b hb => ⟨((fun b hb => (.tail _ (.tail _ (.tail _ (.tail _ (.tail _ (.tail _ (.tail _ (.tail _ (List.mem_append_left _ hb)))))))))) : ∀ b ∈ L3731, b ∈ (p3989 :: (D3943 :: (a3681 :: (p1830 :: (x1861 :: (x1880 :: (p3559 :: (D3877 :: (L3731 ++ [])))))))))) b hb, (there_ne (fun b_ hb_ => (S3962.ow b_ (((fun b hb => (.tail _ (.tail _ (.tail _ (.tail _ (.tail _ (.tail _ (.tail _ (List.mem_append_left _ hb))))))))) : ∀ b ∈ L3731, b ∈ (D3943 :: (a3681 :: (p1830 :: (x1861 :: (x1880 :: (p3559 :: (D3877 :: (L3731 ++ []))))))))) b_ hb_)).2.1) n3990) b hb⟩) all_nil)))))))))
                        have h4002 := (e3993 _ _ h3963)
                        refine ⟨_, h4002, (app_len (RpAll.mono eG3999 d3968) z3980), ?_⟩
                        generalize g4003 : upd H3992 D3943 _ = H4004
                        obtain ⟨x4005, h4006⟩ := gen_mut g4003
                        have S4007 := S4001.mut1 x4005 (.head _) h4006
                        have hw := cW_ok hw
                        have h4008 := (x4005 _ _ (e3993 _ _ h3973) (ne_of_none h3924 n3944))
                        have h4009 := (x4005 _ _ (e3993 _ _ h3974) (ne_of_none h3925 n3944))
                        have h4010 := (x4005 _ _ (e3993 _ _ h3975) (ne_of_none h3926 n3944))
                        have h4011 := (x4005 _ _ (e3993 _ _ h3976) (ne_of_none h3927 n3944))
                        have h4012 := (x4005 _ _ (e3993 _ _ h3977) (ne_of_none h3928 n3944))
                        have h4013 := (x4005 _ _ (e3993 _ _ h3978) (ne_of_none h3914 n3944))
                        have w4014 : OwAll G3998 H4004 L3731 (vs3730) ((told_3729 : (List (List (List Int)))).map (oL (oL oI))) := (OwAll.mono eG3999 keeps_refl (OwAll.mono (Same.refl _) (keeps_mut x4005 ((there_ne (fun b_ hb_ => (S3913.ow b_ (((fun b hb => (.tail _ (.tail _ (.tail _ (.tail _ (.tail _ (.tail _ (List.mem_append_left _ hb)))))))) : ∀ b ∈ L3731, b ∈ (D3877 :: (a3681 :: (p1830 :: (x1861 :: (x1880 :: (p3559 :: (L3731 ++ [])))))))) b_ hb_)).2.1) n3944) : ∀ b ∈ L3731, b ≠ D3943)) (OwAll.mono (Same.refl _) (keeps_same e3993) w3979)))
                        exact ⟨_, (acc3966 ++ [(itD (x3930) ((((((x3930) : (List (List Int))).length : Int) - 1) - x3981)))]), _, (Same.trans eG3965 eG3999), S4007, h4008, h4009, h4010, h4011, h4012, h4013, h4006, w4014, (app_map (RpAll.mono eG3999 d3968) (RpAll.one (rp_mk_ints hg4000))), (same_mut (Same.trans eo3972 e3993) x4005 n3944), hw⟩
                      intro H4015 hw
                      obtain ⟨G4018, acc4020, vs4021, eG4019, S4016, h4027, h4028, h4029, h4030, h4031, h4032, h4017, w4033, d4022, eo4026, hw⟩ := hw
                      have hw := hK3942 _ (cW_mapA0 (rng_len _ _).symm hw)
                      have fr4034 := S3913.free n3944
                      obtain ⟨G4035, eG4036, hg4037, S4038⟩ := Sep.freeze (O' := (a3681 :: (p1830 :: (x1861 :: (x1880 :: (p3559 :: (D3877 :: (L3731 ++ [])))))))) S4016 (.head _) h4017 fr4034 ((all_cons ⟨(.tail _ (.head _)), (ne_of_none h3924 n3944)⟩ (all_cons ⟨(.tail _ (.tail _ (.head _))), (ne_of_none h3925 n3944)⟩ (all_cons ⟨(.tail _ (.tail _ (.tail _ (.head _)))), (ne_of_none h3926 n3944)⟩ (all_cons ⟨(.tail _ (.tail _ (.tail _ (.tail _ (.head _))))), (ne_of_none h3927 n3944)⟩ (all_cons ⟨(.tail _ (.tail _ (.tail _ (.tail _ (.tail _ (.head _)))))), (ne_of_none h3928 n3944)⟩ (all_cons ⟨(.tail _ (.tail _ (.tail _ (.tail _ (.tail _ (.tail _ (.head _))))))), (ne_of_none h3914 n3944)⟩ (all_app (fun b hb => ⟨((fun b hb => (.tail _ (.tail _ (.tail _ (.tail _ (.tail _ (.tail _ (.tail _ (List.mem_append_left _ hb))))))))) : ∀ b ∈ L3731, b ∈ (D3943 :: (a3681 :: (p1830 :: (x1861 :: (x1880 :: (p3559 :: (D3877 :: (L3731 ++ []))))))))) b hb, (there_ne (fun b_ hb_ => (S3913.ow b_ (((fun b hb => (.tail _ (.tail _ (.tail _ (.tail _ (.tail _ (.tail _ (List.mem_append_left _ hb)))))))) : ∀ b ∈ L3731, b ∈ (D3877 :: (a3681 :: (p1830 :: (x1861 :: (x1880 :: (p3559 :: (L3731 ++ [])))))))) b_ hb_)).2.1) n3944) b hb⟩) all_nil))))))))
                      refine ⟨_, h4032, (app_len (RpAll.mono eG4036 (RpAll.mono eG4019 d3919)) z3936), ?_⟩
                      generalize g4039 : upd H4015 D3877 _ = H4040
                      obtain ⟨x4041, h4042⟩ := gen_mut g4039
                      have S4043 := S4038.mut1 x4041 (.tail _ (.tail _ (.tail _ (.tail _ (.tail _ (.head _)))))) h4042
                      have hw := cW_ok hw
                      have h4044 := (x4041 _ _ h4027 (ne_of_none h3864 n3878))
                      have h4045 := (x4041 _ _ h4028 (ne_of_none h3860 n3878))
                      have h4046 := (x4041 _ _ h4029 (ne_of_none h3861 n3878))
                      have h4047 := (x4041 _ _ h4030 (ne_of_none h3862 n3878))
                      have h4048 := (x4041 _ _ h4031 (ne_of_none h3863 n3878))
                      have w4049 : OwAll G4035 H4040 L3731 (vs3730) ((told_3729 : (List (List (List Int)))).map (oL (oL oI))) := (OwAll.mono eG4036 keeps_refl (OwAll.mono (Same.refl _) (keeps_mut x4041 ((there_ne (fun b_ hb_ => (S3859.ow b_ (((fun b hb => (.tail _ (.tail _ (.tail _ (.tail _ (.tail _ (List.mem_append_left _ hb))))))) : ∀ b ∈ L3731, b ∈ (p1830 :: (x1861 :: (x1880 :: (p3559 :: (a3681 :: (L3731 ++ []))))))) b_ hb_)).2.1) n3878) : ∀ b ∈ L3731, b ≠ D3877)) w4033))
                      exact ⟨_, (acc3917 ++ [acc4020]), _, (Same.trans (Same.trans eG3916 eG4019) eG4036), (S4043.sub (all_cons (.tail _ (.tail _ (.tail _ (.tail _ (.tail _ (.head _)))))) (all_cons (.head _) (all_cons (.tail _ (.head _)) (all_cons (.tail _ (.tail _ (.head _))) (all_cons (.tail _ (.tail _ (.tail _ (.head _)))) (all_cons (.tail _ (.tail _ (.tail _ (.tail _ (.head _))))) (all_app ((fun b hb => (.tail _ (.tail _ (.tail _ (.tail _ (.tail _ (.tail _ (List.mem_append_left _ hb)))))))) : ∀ b ∈ L3731, b ∈ (a3681 :: (p1830 :: (x1861 :: (x1880 :: (p3559 :: (D3877 :: (L3731 ++ [])))))))) all_nil)))))))), h4044, h4045, h4046, h4047, h4048, h4042, w4049, (app_map (RpAll.mono eG4036 (RpAll.mono eG4019 d3919)) (RpAll.one (rp_mk_list hg4037 (RpAll.mono eG4036 d4022)))), (same_mut (Same.trans eo3923 eo4026) x4041 n3878), hw⟩
                    intro H4050 hw
                    obtain ⟨G4053, acc4055, vs4056, eG4054, S4051, h4062, h4063, h4064, h4065, h4066, h4052, w4067, d4057, eo4061, hw⟩ := hw
                    have hw := hK3876 _ (cW_mapA0 (by rw [(RpAll.mono eG4054 (RpAll.mono eG3872 (RpAll.mono eG3688 (RpAll.mono eG3676 (RpAll.mono eG3544 d3541))))).len, List.length_map]) hw)
                    have fr4068 := S3859.free n3878
                    refine ⟨_, rfl, _, rfl, _, rfl, rfl, rfl, G4053, _, _, _, _, (⟨v1872, v1892.slots, v1892.rows, v1892.deblock, v1892.offset, v1892.layers⟩ : St_Settings), _, _, _, _, rfl, S4051.sG, (hide_nil h4065), (hide_nil h4064), (Rp.hide_nil (rp_mk_list h4052 (RpAll.mono S4051.sG d4057))), (Rp.hide_nil (rp_mk_list (S4051.sG _ _ (eG4054 _ _ (eG3872 _ _ (eG3688 _ _ (eG3676 _ _ hg3545))))) (RpAll.mono S4051.sG (RpAll.mono eG4054 (RpAll.mono eG3872 (RpAll.mono eG3688 (RpAll.mono eG3676 (RpAll.mono eG3544 (RpAll.mono eG3537 (RpAll.mono eG3234 d1977)))))))))), cW_call hw (fun v4069 hw H4070 a4072 vs4073 L4074 G4075 n4076 nb4077 nd4078 e4071 eG4079 sG4080 hn4081 ga4082 gL4083 h4084 w4085 => ?_) (fun e he => (hE e he).elim)⟩
                    have fr4086 := S4051.free n4076
                    have S4087 : Sep _ _ _ _ H4070 (a4072 :: (L4074 ++ (D3877 :: (a3681 :: (p1830 :: (x1861 :: (x1880 :: (p3559 :: (L3731 ++ []))))))))) := Sep.steptree S4051 e4071 eG4079 sG4080 hn4081 (a4072 :: L4074) (all_cons ⟨n4076, ga4082, some_ne h4084⟩ (fun b hb => ⟨nb4077 b hb, gL4083 b hb, OwAll.there w4085 b hb⟩))
                    have h4088 := (e4071 _ _ h4064)
                    refine ⟨_, rfl, _, _, _, rfl, h4088, G4075, _, _, v1872, rfl, S4087.sG, (hide_nil h4088), cW_callN hw (fun v4089 hw H4090 e4091 => ?_) trivial⟩
                    have S4092 := S4087.same e4091
                    obtain ⟨g4093, hw⟩ := cW_grd hw
                    obtain ⟨K4102, hK4103, hw⟩ := cW_push hw
                    refine ⟨_, rfl, g4093.1, g4093.2, for_range (lo := 0) (n := Int.toNat (v4089)) (fun i σ H' => ∃ (u4104 : Option V) (u4105 : Option V) (G' : Hp), σ = [some (V.ref a_script), some (V.ref p1830), some (V.int (width_1844)), some (V.int (height_1845)), some (V.ref x1861), some (V.int ((1 + ((itD (v1827) (4)) % 5)))), some (V.ref x1880), some (V.ref p1897), u1924, some (V.ref a3538), some (V.str ((PyData.shown ((encL encD) ([((encL (encL (encL PyData.int))) (planes_3247)), ((encL encD) (offsets_1922))]))))), some (V.ref p3559), u4104, u4105, some (V.ref a3681), u3732, some (V.ref D3877), some (V.ref a4072), none, none, none, none] ∧ Same G4075 G' ∧ Sep [] H H G' H' (p1830 :: (x1861 :: (x1880 :: (p3559 :: (a3681 :: (D3877 :: (a4072 :: (L3731 ++ (L4074 ++ []))))))))) ∧ H' p1830 = some (.lst ((v1827 : (List Int)).map V.int)) ∧ H' x1861 = some (.ins AD.c_Format dx1862 [("width", V.int (v1872.width)), ("height", V.int (v1872.height)), ("depth", V.int (v1872.depth)), ("chroma", V.int (v1872.chroma))]) ∧ H' x1880 = some (.ins AD.c_Settings dx1881 [("fmt", V.ref x1861), ("slots", V.int (v1892.slots)), ("rows", V.int (v1892.rows)), ("deblock", V.bl (v1892.deblock)), ("offset", V.bl (v1892.offset)), ("layers", V.int (v1892.layers))]) ∧ H' p3559 = some (.lst (vs3587)) ∧ H' a3681 = some (.lst (vs3730)) ∧ H' D3877 = some (.lst (vs4056)) ∧ H' a4072 = some (.lst (vs4073)) ∧ OwAll G' H' L3731 (vs3730) ((told_3729 : (List (List (List Int)))).map (oL (oL oI))) ∧ OwAll G' H' L4074 (vs4073) ((v4069 : (List (List (List Int)))).map (oL (oL oI))) ∧ cW (forR (List.drop i (rng (0) (Int.toNat (v4089)))) () (fun s x => F_law_b25 (v1872) ((1 + ((itD (v1827) (4)) % 5))) (offsets_1922) (acc4055) (v4069)  x)) K4102 EE) ?_ ?_ ?_⟩
                    · have h4106 := (e4091 _ _ (e4071 _ _ h4063))
                      have h4107 := (e4091 _ _ h4088)
                      have h4108 := (e4091 _ _ (e4071 _ _ h4065))
                      have h4109 := (e4091 _ _ (e4071 _ _ h4066))
                      have h4110 := (e4091 _ _ (e4071 _ _ h4062))
                      have h4111 := (e4091 _ _ (e4071 _ _ h4052))
                      have h4112 := (e4091 _ _ h4084)
                      have w4113 : OwAll G4075 H4090 L3731 (vs3730) ((told_3729 : (List (List (List Int)))).map (oL (oL oI))) := (OwAll.mono eG4079 keeps_refl (OwAll.mono (Same.refl _) (keeps_same e4091) (OwAll.mono (Same.refl _) (keeps_same e4071) w4067)))
                      have w4114 : OwAll G4075 H4090 L4074 (vs4073) ((v4069 : (List (List (List Int)))).map (oL (oL oI))) := (OwAll.mono (Same.refl _) (keeps_same e4091) w4085)
                      exact ⟨_, _, _, rfl, (Same.refl _), (S4092.sub (all_cons (.tail _ (List.mem_append_right _ (.tail _ (.tail _ (.head _))))) (all_cons (.tail _ (List.mem_append_right _ (.tail _ (.tail _ (.tail _ (.head _)))))) (all_cons (.tail _ (List.mem_append_right _ (.tail _ (.tail _ (.tail _ (.tail _ (.head _))))))) (all_cons (.tail _ (List.mem_append_right _ (.tail _ (.tail _ (.tail _ (.tail _ (.tail _ (.head _)))))))) (all_cons (.tail _ (List.mem_append_right _ (.tail _ (.head _)))) (all_cons (.tail _ (List.mem_append_right _ (.head _))) (all_cons (.head _) (all_app ((fun b hb => (.tail _ (List.mem_append_right _ (.tail _ (.tail _ (.tail _ (.tail _ (.tail _ (.tail _ (List.mem_append_left _ hb)))))))))) : ∀ b ∈ L3731, b ∈ (a4072 :: (L4074 ++ (D3877 :: (a3681 :: (p1830 :: (x1861 :: (x1880 :: (p3559 :: (L3731 ++ [])))))))))) (all_app ((fun b hb => (.tail _ (List.mem_append_left _ hb))) : ∀ b ∈ L4074, b ∈ (a4072 :: (L4074 ++ (D3877 :: (a3681 :: (p1830 :: (x1861 :: (x1880 :: (p3559 :: (L3731 ++ [])))))))))) all_nil)))))))))), h4106, h4107, h4108, h4109, h4110, h4111, h4112, w4113, w4114, hw⟩
                    · intro i σ H4115 hi hw
                      obtain ⟨u4104, u4105, G4126, rfl, eG4127, S4116, h4117, h4118, h4119, h4120, h4121, h4122, h4123, w4124, w4125, hw⟩ := hw
                      have hw := cW_forR (rng_get hi) hw
                      generalize (0 + (i : Int)) = x4128 at hw ⊢
                      have hw : cW (F_law_b25 (v1872) ((1 + ((itD (v1827) (4)) % 5))) (offsets_1922) (acc4055) (v4069)  (x4128)) _ EE := hw
                      unfold F_law_b25 at hw
                      obtain ⟨K4129, hK4130, hw⟩ := cW_name hw
                      refine ⟨_, rfl, _, _, rfl, rfl, _, rfl, ?_⟩
                      refine iteD (fun c4132 => ?_) (fun c4132 => ?_)
                      · have hw := cW_pos c4132 hw
                        refine ⟨_, rfl, _, _, _, _, _, rfl, h4118, T.cl_Format, T.n_Format_chroma, rfl, _, _, rfl, rfl, _, rfl, ?_⟩
                        refine iteD (fun c4133 => ?_) (fun c4133 => ?_)
                        · have hw := cW_pos c4133 hw
                          obtain ⟨g4134, hw⟩ := cW_grd hw
                          obtain ⟨v4135, L4136, a4137, w4138, hs4139, up4140, gr4141⟩ := OwAll.partM (k := x4128) w4125 g4134
                          obtain ⟨b4142, vs4143, L4144, rfl, rfl, h4145, w4146, nb4147⟩ := Ow.toList w4138
                          obtain ⟨g4148, hw⟩ := cW_grd hw
                          obtain ⟨v4149, a4150, r4151⟩ := RpAll.ixD (k := x4128) (RpAll.mono eG4127 (RpAll.mono eG4079 d4057)) g4148
                          obtain ⟨a4152, vs4153, rfl, h4154, d4155⟩ := rp_list r4151
                          obtain ⟨g4156, hw⟩ := cW_grd hw
                          refine ⟨_, rfl, _, rfl, _, _, _, _, rfl, rfl, (SqL.of h4123), a4137, _, rfl, _, rfl, _, _, _, _, rfl, rfl, (SqL.of h4122), a4150, _, rfl, _, rfl, _, rfl, _, rfl, _, rfl, _, _, _, _, _, rfl, h4118, T.cl_Format, T.n_Format_depth, rfl, _, _, rfl, rfl, _, _, rfl, rfl, (shl_side g4156.1 g4156.2.1 g4156.2.2.1 g4156.2.2.2), _, rfl, _, _, _, rfl, h4118, G4126, _, _, v1872, rfl, S4116.sG, (hide_nil h4118), cW_callN hw (fun v4157 hw H4158 e4159 => ?_) trivial⟩
                          have S4160 := S4116.same e4159
                          refine ⟨rfl, rfl, G4126, _, _, _, _, _, _, _, _, _, rfl, S4160.sG, (Rp.hide_nil (rp_mk_list (S4160.sG _ _ h4154) (RpAll.mono S4160.sG d4155))), (Rp.hide_nil (rp_mk_list (S4160.sG _ _ (eG4127 _ _ (eG4079 _ _ (eG4054 _ _ (eG3872 _ _ (eG3688 _ _ (eG3676 _ _ hg3545))))))) (RpAll.mono S4160.sG (RpAll.mono eG4127 (RpAll.mono eG4079 (RpAll.mono eG4054 (RpAll.mono eG3872 (RpAll.mono eG3688 (RpAll.mono eG3676 (RpAll.mono eG3544 (RpAll.mono eG3537 (RpAll.mono eG3234 d1977)))))))))))), cW_call hw (fun v4161 hw v4164 H4162 G4165 e4163 eG4166 sG4167 hn4168 r4169 => ?_) (fun e he => (hE e he).elim)⟩
                          have S4170 := S4160.step e4163 eG4166 sG4167 hn4168
                          obtain ⟨a4171, vs4172, rfl, h4173, d4174⟩ := rp_list r4169
                          have h4175 := (e4163 _ _ (e4159 _ _ h4145))
                          have w4176 : OwAll G4165 H4162 L4144 (vs4143) (((itD (v4069) (x4128)) : (List (List Int))).map (oL oI)) := (OwAll.mono eG4166 keeps_refl (OwAll.mono (Same.refl _) (keeps_same e4163) (OwAll.mono (Same.refl _) (keeps_same e4159) w4146)))
                          refine ⟨_, _, (rp_mk_list h4175 (OwAll.rpA w4176 (encO_L encO_I) S4170.sG)), (rp_mk_list (S4170.sG _ _ h4173) (RpAll.mono S4170.sG d4174)), _, rfl, ?_⟩
                          refine iteN (fun c4177 => ?_) (fun c4177 => ?_)
                          · have hw := cW_neg c4177 hw
                            have hw := cW_ok hw
                            have hw := hK4130 (.rt _) hw
                            have hw := hK4103 (.rt _) hw
                            have hw := cW_ok hw
                            exact eq_bl (k _) (hK0 _ hw).symm
                          · have hw := cW_pos c4177 hw
                            have hw := cW_ok hw
                            have hw := hK4130 _ hw
                            have h4178 := (e4163 _ _ (e4159 _ _ h4117))
                            have h4179 := (e4163 _ _ (e4159 _ _ h4118))
                            have h4180 := (e4163 _ _ (e4159 _ _ h4119))
                            have h4181 := (e4163 _ _ (e4159 _ _ h4120))
                            have h4182 := (e4163 _ _ (e4159 _ _ h4121))
                            have h4183 := (e4163 _ _ (e4159 _ _ h4122))
                            have h4184 := (e4163 _ _ (e4159 _ _ h4123))
                            have w4185 : OwAll G4165 H4162 L3731 (vs3730) ((told_3729 : (List (List (List Int)))).map (oL (oL oI))) := (OwAll.mono eG4166 keeps_refl (OwAll.mono (Same.refl _) (keeps_same e4163) (OwAll.mono (Same.refl _) (keeps_same e4159) w4124)))
                            have w4186 : OwAll G4165 H4162 L4074 (vs4073) ((v4069 : (List (List (List Int)))).map (oL (oL oI))) := (OwAll.mono eG4166 keeps_refl (OwAll.mono (Same.refl _) (keeps_same e4163) (OwAll.mono (Same.refl _) (keeps_same e4159) w4125)))
                            exact ⟨_, _, _, rfl, (Same.trans eG4127 eG4166), S4170, h4178, h4179, h4180, h4181, h4182, h4183, h4184, w4185, w4186, hw⟩
                        · have hw := cW_neg c4133 hw
                          obtain ⟨g4187, hw⟩ := cW_grd hw
                          obtain ⟨v4188, L4189, a4190, w4191, hs4192, up4193, gr4194⟩ := OwAll.partM (k := x4128) w4125 g4187
                          obtain ⟨b4195, vs4196, L4197, rfl, rfl, h4198, w4199, nb4200⟩ := Ow.toList w4191
                          obtain ⟨g4201, hw⟩ := cW_grd hw
                          obtain ⟨v4202, a4203, r4204⟩ := RpAll.ixD (k := x4128) (RpAll.mono eG4127 (RpAll.mono eG4079 d4057)) g4201
                          obtain ⟨a4205, vs4206, rfl, h4207, d4208⟩ := rp_list r4204
                          obtain ⟨g4209, hw⟩ := cW_grd hw
                          refine ⟨_, rfl, _, rfl, _, _, _, _, rfl, rfl, (SqL.of h4123), a4190, _, rfl, _, rfl, _, _, _, _, rfl, rfl, (SqL.of h4122), a4203, _, rfl, _, rfl, _, rfl, _, rfl, _, rfl, _, _, _, _, _, rfl, h4118, T.cl_Format, T.n_Format_depth, rfl, _, _, rfl, rfl, _, _, rfl, rfl, (shl_side g4209.1 g4209.2.1 g4209.2.2.1 g4209.2.2.2), _, rfl, _, _, _, rfl, h4118, G4126, _, _, v1872, rfl, S4116.sG, (hide_nil h4118), cW_callN hw (fun v4210 hw H4211 e4212 => ?_) trivial⟩
                          have S4213 := S4116.same e4212
                          refine ⟨rfl, rfl, G4126, _, _, _, _, _, _, _, _, _, rfl, S4213.sG, (Rp.hide_nil (rp_mk_list (S4213.sG _ _ h4207) (RpAll.mono S4213.sG d4208))), (Rp.hide_nil (rp_mk_list (S4213.sG _ _ (eG4127 _ _ (eG4079 _ _ (eG4054 _ _ (eG3872 _ _ (eG3688 _ _ (eG3676 _ _ hg3545))))))) (RpAll.mono S4213.sG (RpAll.mono eG4127 (RpAll.mono eG4079 (RpAll.mono eG4054 (RpAll.mono eG3872 (RpAll.mono eG3688 (RpAll.mono eG3676 (RpAll.mono eG3544 (RpAll.mono eG3537 (RpAll.mono eG3234 d1977)))))))))))), cW_call hw (fun v4214 hw v4217 H4215 G4218 e4216 eG4219 sG4220 hn4221 r4222 => ?_) (fun e he => (hE e he).elim)⟩
                          have S4223 := S4213.step e4216 eG4219 sG4220 hn4221
                          obtain ⟨a4224, vs4225, rfl, h4226, d4227⟩ := rp_list r4222
                          have h4228 := (e4216 _ _ (e4212 _ _ h4198))
                          have w4229 : OwAll G4218 H4215 L4197 (vs4196) (((itD (v4069) (x4128)) : (List (List Int))).map (oL oI)) := (OwAll.mono eG4219 keeps_refl (OwAll.mono (Same.refl _) (keeps_same e4216) (OwAll.mono (Same.refl _) (keeps_same e4212) w4199)))
                          refine ⟨_, _, (rp_mk_list h4228 (OwAll.rpA w4229 (encO_L encO_I) S4223.sG)), (rp_mk_list (S4223.sG _ _ h4226) (RpAll.mono S4223.sG d4227)), _, rfl, ?_⟩
                          refine iteN (fun c4230 => ?_) (fun c4230 => ?_)
                          · have hw := cW_neg c4230 hw
                            have hw := cW_ok hw
                            have hw := hK4130 (.rt _) hw
                            have hw := hK4103 (.rt _) hw
                            have hw := cW_ok hw
                            exact eq_bl (k _) (hK0 _ hw).symm
                          · have hw := cW_pos c4230 hw
                            have hw := cW_ok hw
                            have hw := hK4130 _ hw
                            have h4231 := (e4216 _ _ (e4212 _ _ h4117))
                            have h4232 := (e4216 _ _ (e4212 _ _ h4118))
                            have h4233 := (e4216 _ _ (e4212 _ _ h4119))
                            have h4234 := (e4216 _ _ (e4212 _ _ h4120))
                            have h4235 := (e4216 _ _ (e4212 _ _ h4121))
                            have h4236 := (e4216 _ _ (e4212 _ _ h4122))
                            have h4237 := (e4216 _ _ (e4212 _ _ h4123))
                            have w4238 : OwAll G4218 H4215 L3731 (vs3730) ((told_3729 : (List (List (List Int)))).map (oL (oL oI))) := (OwAll.mono eG4219 keeps_refl (OwAll.mono (Same.refl _) (keeps_same e4216) (OwAll.mono (Same.refl _) (keeps_same e4212) w4124)))
                            have w4239 : OwAll G4218 H4215 L4074 (vs4073) ((v4069 : (List (List (List Int)))).map (oL (oL oI))) := (OwAll.mono eG4219 keeps_refl (OwAll.mono (Same.refl _) (keeps_same e4216) (OwAll.mono (Same.refl _) (keeps_same e4212) w4125)))
                            exact ⟨_, _, _, rfl, (Same.trans eG4127 eG4219), S4223, h4231, h4232, h4233, h4234, h4235, h4236, h4237, w4238, w4239, hw⟩
                      · have hw := cW_neg c4132 hw
                        refine iteF ?_
                        obtain ⟨g4240, hw⟩ := cW_grd hw
                        obtain ⟨v4241, L4242, a4243, w4244, hs4245, up4246, gr4247⟩ := OwAll.partM (k := x4128) w4125 g4240
                        obtain ⟨b4248, vs4249, L4250, rfl, rfl, h4251, w4252, nb4253⟩ := Ow.toList w4244
                        obtain ⟨g4254, hw⟩ := cW_grd hw
                        obtain ⟨v4255, a4256, r4257⟩ := RpAll.ixD (k := x4128) (RpAll.mono eG4127 (RpAll.mono eG4079 d4057)) g4254
                        obtain ⟨a4258, vs4259, rfl, h4260, d4261⟩ := rp_list r4257
                        obtain ⟨g4262, hw⟩ := cW_grd hw
                        refine ⟨_, rfl, _, rfl, _, _, _, _, rfl, rfl, (SqL.of h4123), a4243, _, rfl, _, rfl, _, _, _, _, rfl, rfl, (SqL.of h4122), a4256, _, rfl, _, rfl, _, rfl, _, rfl, _, rfl, _, _, _, _, _, rfl, h4118, T.cl_Format, T.n_Format_depth, rfl, _, _, rfl, rfl, _, _, rfl, rfl, (shl_side g4262.1 g4262.2.1 g4262.2.2.1 g4262.2.2.2), _, rfl, _, _, _, rfl, h4118, G4126, _, _, v1872, rfl, S4116.sG, (hide_nil h4118), cW_callN hw (fun v4263 hw H4264 e4265 => ?_) trivial⟩
                        have S4266 := S4116.same e4265
                        refine ⟨rfl, rfl, G4126, _, _, _, _, _, _, _, _, _, rfl, S4266.sG, (Rp.hide_nil (rp_mk_list (S4266.sG _ _ h4260) (RpAll.mono S4266.sG d4261))), (Rp.hide_nil (rp_mk_list (S4266.sG _ _ (eG4127 _ _ (eG4079 _ _ (eG4054 _ _ (eG3872 _ _ (eG3688 _ _ (eG3676 _ _ hg3545))))))) (RpAll.mono S4266.sG (RpAll.mono eG4127 (RpAll.mono eG4079 (RpAll.mono eG4054 (RpAll.mono eG3872 (RpAll.mono eG3688 (RpAll.mono eG3676 (RpAll.mono eG3544 (RpAll.mono eG3537 (RpAll.mono eG3234 d1977)))))))))))), cW_call hw (fun v4267 hw v4270 H4268 G4271 e4269 eG4272 sG4273 hn4274 r4275 => ?_) (fun e he => (hE e he).elim)⟩
                        have S4276 := S4266.step e4269 eG4272 sG4273 hn4274
                        obtain ⟨a4277, vs4278, rfl, h4279, d4280⟩ := rp_list r4275
                        have h4281 := (e4269 _ _ (e4265 _ _ h4251))
                        have w4282 : OwAll G4271 H4268 L4250 (vs4249) (((itD (v4069) (x4128)) : (List (List Int))).map (oL oI)) := (OwAll.mono eG4272 keeps_refl (OwAll.mono (Same.refl _) (keeps_same e4269) (OwAll.mono (Same.refl _) (keeps_same e4265) w4252)))
                        refine ⟨_, _, (rp_mk_list h4281 (OwAll.rpA w4282 (encO_L encO_I) S4276.sG)), (rp_mk_list (S4276.sG _ _ h4279) (RpAll.mono S4276.sG d4280)), _, rfl, ?_⟩
                        refine iteN (fun c4283 => ?_) (fun c4283 => ?_)
                        · have hw := cW_neg c4283 hw
                          have hw := cW_ok hw
                          have hw := hK4130 (.rt _) hw
                          have hw := hK4103 (.rt _) hw
                          have hw := cW_ok hw
                          exact eq_bl (k _) (hK0 _ hw).symm
                        · have hw := cW_pos c4283 hw
                          have hw := cW_ok hw
                          have hw := hK4130 _ hw
                          have h4284 := (e4269 _ _ (e4265 _ _ h4117))
                          have h4285 := (e4269 _ _ (e4265 _ _ h4118))
                          have h4286 := (e4269 _ _ (e4265 _ _ h4119))
                          have h4287 := (e4269 _ _ (e4265 _ _ h4120))
                          have h4288 := (e4269 _ _ (e4265 _ _ h4121))
                          have h4289 := (e4269 _ _ (e4265 _ _ h4122))
                          have h4290 := (e4269 _ _ (e4265 _ _ h4123))
                          have w4291 : OwAll G4271 H4268 L3731 (vs3730) ((told_3729 : (List (List (List Int)))).map (oL (oL oI))) := (OwAll.mono eG4272 keeps_refl (OwAll.mono (Same.refl _) (keeps_same e4269) (OwAll.mono (Same.refl _) (keeps_same e4265) w4124)))
                          have w4292 : OwAll G4271 H4268 L4074 (vs4073) ((v4069 : (List (List (List Int)))).map (oL (oL oI))) := (OwAll.mono eG4272 keeps_refl (OwAll.mono (Same.refl _) (keeps_same e4269) (OwAll.mono (Same.refl _) (keeps_same e4265) w4125)))
                          exact ⟨_, _, _, rfl, (Same.trans eG4127 eG4272), S4276, h4284, h4285, h4286, h4287, h4288, h4289, h4290, w4291, w4292, hw⟩
                    · intro σ H4293 hw
                      obtain ⟨u4104, u4105, G4304, rfl, eG4305, S4294, h4295, h4296, h4297, h4298, h4299, h4300, h4301, w4302, w4303, hw⟩ := hw
                      have hw := cW_aftgo (hK4103 _ (cW_forR0 (rng_len _ _).symm hw))
                      have hw : cW (F_law_r25 (offsets_1922) (planes_3247) ((PyData.shown ((encL encD) ([((encL (encL (encL PyData.int))) (planes_3247)), ((encL encD) (offsets_1922))])))) ) _ EE := hw
                      unfold F_law_r25 at hw
                      refine ⟨_, rfl, _, rfl, ?_⟩
                      have r4306 : Rp G4304 (V.ref a3538) (encD ((encL (encL (encL PyData.int))) (planes_3247))) := (rp_mk_list (eG4305 _ _ (eG4079 _ _ (eG4054 _ _ (eG3872 _ _ (eG3688 _ _ (eG3676 _ _ (eG3544 _ _ h3540))))))) (RpAll.mono eG4305 (RpAll.mono eG4079 (RpAll.mono eG4054 (RpAll.mono eG3872 (RpAll.mono eG3688 (RpAll.mono eG3676 (RpAll.mono eG3544 d3541))))))))
                      have r4307 : Rp G4304 (V.ref p1897) (encD ((encL encD) (offsets_1922))) := (rp_mk_list (eG4305 _ _ (eG4079 _ _ (eG4054 _ _ (eG3872 _ _ (eG3688 _ _ (eG3676 _ _ hg3545)))))) (RpAll.mono eG4305 (RpAll.mono eG4079 (RpAll.mono eG4054 (RpAll.mono eG3872 (RpAll.mono eG3688 (RpAll.mono eG3676 (RpAll.mono eG3544 (RpAll.mono eG3537 (RpAll.mono eG3234 d1977))))))))))
                      refine ⟨(by show 2 ≤ sizeLine; decide), fun p4308 n4309 => ?_⟩
                      generalize g4310 : upd H4293 p4308 _ = H4311
                      obtain ⟨e4312, h4313⟩ := gen_new n4309 g4310
                      have h4314 : H4311 p4308 = some (.lst ([(V.ref a3538), (V.ref p1897)])) := h4313
                      have fr4315 := S4294.free n4309
                      have S4316 := S4294.new n4309 e4312 h4314 fr4315
                      have d4317 : RpAll G4304 ([(V.ref a3538), (V.ref p1897)]) (([((encL (encL (encL PyData.int))) (planes_3247)), ((encL encD) (offsets_1922))] : (List PyData)).map encD) := (RpAll.cons r4306 (RpAll.cons r4307 RpAll.nil))
                      obtain ⟨g4318, hw⟩ := cW_grd hw
                      refine ⟨_, ((encL encD) ([((encL (encL (encL PyData.int))) (planes_3247)), ((encL encD) (offsets_1922))])), rfl, (rp_mk_list h4314 (RpAll.mono S4316.sG d4317)), g4318, _, rfl, rfl, ?_⟩
                      have hw := cW_ok hw
                      exact eq_bl (k _) (hK0 _ hw).symm
end
def spL (K : PySem.W.Frag) : Sp := fun vs H Q _ => ∃ (a_script : Addr) (script : List Int), vs = [.ref a_script] ∧ SqL K H a_script (script.map V.int) ∧ script.length ≤ 63 ∧ ∀ H', Q (.bl true) H'
def adK (K : PySem.W.Frag) : Ads := ⟨He.ga K "Format", He.ga K "Settings", He.ga K "CodecError", He.ga K "BadFormat", He.ga K "OutOfRange", He.ga K "BadHeader", He.ga K "STEPS", itK (fun K => He.ga K "STEPS") 0 K, itK (fun K => He.ga K "STEPS") 1 K, itK (fun K => He.ga K "STEPS") 2 K, itK (fun K => He.ga K "STEPS") 3 K, 0⟩
abbrev dk0 : He5.DefA := ⟨fun K => He.ga K "_law_digits", "_law_digits", "_law_digits", defArgs s__law_digits, defBody s__law_digits, defScope s__law_digits, [], []⟩
abbrev dk1 : He5.DefA := ⟨fun K => He.ma K (He.ga K "Format") "__init__", "__init__", "Format.__init__", defArgs s_Format___init__, defBody s_Format___init__, defScope s_Format___init__, [], [("depth", .int 8), ("chroma", .int 0)]⟩
abbrev dk2 : He5.DefA := ⟨fun K => He.ga K "_require", "_require", "_require", defArgs s__require, defBody s__require, defScope s__require, [], []⟩
abbrev dk3 : He5.DefA := ⟨fun K => He.ma K (He.ga K "Settings") "__init__", "__init__", "Settings.__init__", defArgs s_Settings___init__, defBody s_Settings___init__, defScope s_Settings___init__, [], [("slots", .int 1), ("rows", .int 1), ("deblock", .bl false), ("offset", .bl false), ("layers", .int 1)]⟩
abbrev dk4 : He5.DefA := ⟨fun K => prA "Format" "planes" K, "planes", "Format.planes", defArgs s_Format_planes, defBody s_Format_planes, defScope s_Format_planes, [], []⟩
abbrev dk5 : He5.DefA := ⟨fun K => He.ma K (He.ga K "Format") "blocks", "blocks", "Format.blocks", defArgs s_Format_blocks, defBody s_Format_blocks, defScope s_Format_blocks, [], []⟩
abbrev dk6 : He5.DefA := ⟨fun K => He.ma K (He.ga K "Format") "_plane_size", "_plane_size", "Format._plane_size", defArgs s_Format__plane_size, defBody s_Format__plane_size, defScope s_Format__plane_size, [], []⟩
abbrev dk7 : He5.DefA := ⟨fun K => He.ma K (He.ga K "Format") "coded_size", "coded_size", "Format.coded_size", defArgs s_Format_coded_size, defBody s_Format_coded_size, defScope s_Format_coded_size, [], []⟩
abbrev dk8 : He5.DefA := ⟨fun K => He.ga K "_law_planes", "_law_planes", "_law_planes", defArgs s__law_planes, defBody s__law_planes, defScope s__law_planes, [], []⟩
abbrev dk9 : He5.DefA := ⟨fun K => He.ga K "copy_planes", "copy_planes", "copy_planes", defArgs s_copy_planes, defBody s_copy_planes, defScope s_copy_planes, [], []⟩
abbrev dk10 : He5.DefA := ⟨fun K => He.ga K "block_side", "block_side", "block_side", defArgs s_block_side, defBody s_block_side, defScope s_block_side, [], []⟩
abbrev dk11 : He5.DefA := ⟨fun K => He.ma K (He.ga K "Settings") "slices", "slices", "Settings.slices", defArgs s_Settings_slices, defBody s_Settings_slices, defScope s_Settings_slices, [], []⟩
abbrev dk12 : He5.DefA := ⟨fun K => He.ma K (He.ga K "Settings") "slice_rows", "slice_rows", "Settings.slice_rows", defArgs s_Settings_slice_rows, defBody s_Settings_slice_rows, defScope s_Settings_slice_rows, [], []⟩
abbrev dk13 : He5.DefA := ⟨fun K => He.ga K "slice_span", "slice_span", "slice_span", defArgs s_slice_span, defBody s_slice_span, defScope s_slice_span, [], []⟩
abbrev dk14 : He5.DefA := ⟨fun K => He.ga K "clip", "clip", "clip", defArgs s_clip, defBody s_clip, defScope s_clip, [], []⟩
abbrev dk15 : He5.DefA := ⟨fun K => He.ga K "_sign", "_sign", "_sign", defArgs s__sign, defBody s__sign, defScope s__sign, [], []⟩
abbrev dk16 : He5.DefA := ⟨fun K => prA "Format" "top" K, "top", "Format.top", defArgs s_Format_top, defBody s_Format_top, defScope s_Format_top, [], []⟩
abbrev dk17 : He5.DefA := ⟨fun K => He.ga K "_filtered_row", "_filtered_row", "_filtered_row", defArgs s__filtered_row, defBody s__filtered_row, defScope s__filtered_row, [], []⟩
abbrev dk18 : He5.DefA := ⟨fun K => He.ga K "_filter_slice", "_filter_slice", "_filter_slice", defArgs s__filter_slice, defBody s__filter_slice, defScope s__filter_slice, [], []⟩
abbrev dk19 : He5.DefA := ⟨fun K => He.ga K "apply_offsets", "apply_offsets", "apply_offsets", defArgs s_apply_offsets, defBody s_apply_offsets, defScope s_apply_offsets, [], []⟩
abbrev dk20 : He5.DefA := ⟨fun K => He.ga K "_law_cell", "_law_cell", "_law_cell", defArgs s__law_cell, defBody s__law_cell, defScope s__law_cell, [], []⟩
abbrev dk21 : He5.DefA := ⟨fun K => He.ga K "_law_items", "_law_items", "_law_items", defArgs s__law_items, defBody s__law_items, defScope s__law_items, [], []⟩
abbrev dk22 : He5.DefA := ⟨fun K => He.ga K "_law_sign", "_law_sign", "_law_sign", defArgs s__law_sign, defBody s__law_sign, defScope s__law_sign, [], []⟩
abbrev dk23 : He5.DefA := ⟨fun K => He.ga K "_law_sample", "_law_sample", "_law_sample", defArgs s__law_sample, defBody s__law_sample, defScope s__law_sample, [], []⟩
abbrev dk24 : He5.DefA := ⟨fun K => He.ga K "_law_due", "_law_due", "_law_due", defArgs s__law_due, defBody s__law_due, defScope s__law_due, [], []⟩
abbrev dk25 : He5.DefA := ⟨fun K => He.ga K "law", "law", "law", defArgs s_law, defBody s_law, defScope s_law, [], []⟩
def fa0 : List FaK := [(fun K => (He.Fa.free "int").ok K), (fun K => (He.Fa.free "range").ok K), (fun K => (He.Fa.int "BLOCK" 8).ok K), (fun K => (He.Fa.free "list").ok K), (fun K => (He.Fa.free "min").ok K), (fun K => (He.Fa.free "max").ok K), (tupK (itK (fun K => He.ga K "STEPS") 3) [.int (-1), .int 1]), (tupK (itK (fun K => He.ga K "STEPS") 2) [.int (-1), .int (-1)]), (tupK (itK (fun K => He.ga K "STEPS") 1) [.int 0, .int (-1)]), (tupK (itK (fun K => He.ga K "STEPS") 0) [.int (-1), .int 0]), (fun K => (He.Fa.glo "STEPS").ok K), (tupK (fun K => He.ga K "STEPS") [.adr (itK (fun K => He.ga K "STEPS") 0), .adr (itK (fun K => He.ga K "STEPS") 1), .adr (itK (fun K => He.ga K "STEPS") 2), .adr (itK (fun K => He.ga K "STEPS") 3)]), (fun K => (He.Fa.free "abs").ok K), (fun K => (He.Fa.free "len").ok K), (fun K => (He.Fa.int "LEAST_DEPTH" 8).ok K), (fun K => (He.Fa.free "enumerate").ok K), (fun K => (He.Fa.free "repr").ok K), (fun K => (He.Fa.free "isinstance").ok K), (fun K => (He.Fa.cls "Format").ok K), (fun K => (He.Fa.noat "Format" "width").ok K), (fun K => (He.Fa.noat "Format" "height").ok K), (fun K => (He.Fa.noat "Format" "depth").ok K), (fun K => (He.Fa.noat "Format" "chroma").ok K), (fun K => (He.Fa.cls "Settings").ok K), (fun K => (He.Fa.noat "Settings" "fmt").ok K), (fun K => (He.Fa.noat "Settings" "slots").ok K), (fun K => (He.Fa.noat "Settings" "rows").ok K), (fun K => (He.Fa.noat "Settings" "deblock").ok K), (fun K => (He.Fa.noat "Settings" "offset").ok K), (fun K => (He.Fa.noat "Settings" "layers").ok K)]
def fa1 : List FaK := [(fun K => (He.Fa.exc "BadFormat").ok K), (fun K => (He.Fa.glo "BadFormat").ok K), (fun K => (He.Fa.exc "BadHeader").ok K), (fun K => (He.Fa.glo "BadHeader").ok K), (fun K => (He.Fa.exc "OutOfRange").ok K), (fun K => (He.Fa.glo "OutOfRange").ok K), (fun K => (He.Fa.glo "_law_digits").ok K), (fun K => (He.Fa.mkr "Format").ok K), (fun K => (He.Fa.glo "Format").ok K), (fun K => (He.Fa.glo "_require").ok K), (fun K => (He.Fa.mkr "Settings").ok K), (fun K => (He.Fa.glo "Settings").ok K), (prpB "Format" "planes"), (fun K => (He.Fa.meth "Format" "blocks").ok K), (fun K => (He.Fa.meth "Format" "_plane_size").ok K), (fun K => (He.Fa.meth "Format" "coded_size").ok K), (fun K => (He.Fa.glo "_law_planes").ok K), (fun K => (He.Fa.glo "copy_planes").ok K), (fun K => (He.Fa.glo "block_side").ok K), (fun K => (He.Fa.meth "Settings" "slices").ok K), (fun K => (He.Fa.meth "Settings" "slice_rows").ok K), (fun K => (He.Fa.glo "slice_span").ok K), (fun K => (He.Fa.glo "clip").ok K), (fun K => (He.Fa.glo "_sign").ok K), (prpB "Format" "top"), (fun K => (He.Fa.glo "_filtered_row").ok K), (fun K => (He.Fa.glo "_filter_slice").ok K), (fun K => (He.Fa.glo "apply_offsets").ok K), (fun K => (He.Fa.glo "_law_cell").ok K), (fun K => (He.Fa.glo "_law_items").ok K)]
def fa2 : List FaK := [(fun K => (He.Fa.glo "_law_sign").ok K), (fun K => (He.Fa.glo "_law_sample").ok K), (fun K => (He.Fa.glo "_law_due").ok K), (fun K => (He.Fa.glo "law").ok K)]
def fas : List (List FaK) := [fa0, fa1, fa2]
def fn0 : List He5.DefA := [dk0, dk1, dk2, dk3, dk4, dk5, dk6, dk7, dk8, dk9, dk10, dk11, dk12, dk13, dk14, dk15, dk16, dk17, dk18, dk19, dk20, dk21, dk22, dk23, dk24, dk25]
def fns : List He5.DefA := fn0
def tbs : List He.Tab := []
def nms0 : List Str := ["_wall", "__name__", "clip", "CodecError", "BadFormat", "OutOfRange", "BadHeader", "BLOCK", "Format", "copy_planes", "block_side", "slice_span", "STEPS", "LEAST_DEPTH", "apply_offsets", "_filter_slice", "_filtered_row", "_sign", "Settings", "_require", "_law_cell", "_law_digits", "_law_planes", "_law_items", "_law_sign", "_law_sample", "_law_due"]
def nms : List Str := nms0
abbrev RowK : PySem.W.OpenRow := PySem.W.OpenLaw.row PySem.Challenge.rw_thaumatrope_k58_whole_pictures_offset
abbrev hkK : PySem.W.Hook := hookK 6 fas fns tbs
def obK (s : PySem.W.SharedT) : AlK := obsKG 6 fas fns tbs (HandSHeadRun.getT s)
theorem obK_eq (s : PySem.W.SharedT) : obK s = hkK.obs s.abs := obsKG_eq (HandSHeadRun.getT_eq s)
theorem runK0 (w : World) : HandSHeadRun.RunEq RowK (PySem.W.view RowK.prog [33]) hkK obK 20000 nms (w.withFollow "special-get-raises" false) := by
  intro os
  kernel_rfl
theorem runK1 (w : World) : HandSHeadRun.RunEq RowK (PySem.W.view RowK.prog [33]) hkK obK 20000 nms (w.withFollow "special-get-raises" true) := by
  intro os
  kernel_rfl
theorem runK (w : World) : HandSHeadRun.RunEq RowK (PySem.W.view RowK.prog [33]) hkK obK 20000 nms w := PySem.W.byRow2 "special-get-raises" runK0 runK1 w
section
variable {P : Program} {w : World} {K : PySem.W.Frag} {h : Heap} {mg : Str → Option Value} (X : K.In h) (G : h.Ns mainGlobals mg) (c : SaysK fas fns tbs w K)
include X G c
theorem T_ : Txt w K mg (adK K) := ⟨He.free_ok X G (c.fact 0 0 (l := fa0) (f := (fun K => (He.Fa.free "int").ok K)) rfl rfl), He.free_ok X G (c.fact 0 1 (l := fa0) (f := (fun K => (He.Fa.free "range").ok K)) rfl rfl), (Exists.elim (He.int_ok X G (c.fact 0 2 (l := fa0) (f := (fun K => (He.Fa.int "BLOCK" 8).ok K)) rfl rfl)) fun t e => ⟨_, e, ⟨t, rfl⟩⟩), He.free_ok X G (c.fact 0 3 (l := fa0) (f := (fun K => (He.Fa.free "list").ok K)) rfl rfl), He.free_ok X G (c.fact 0 4 (l := fa0) (f := (fun K => (He.Fa.free "min").ok K)) rfl rfl), He.free_ok X G (c.fact 0 5 (l := fa0) (f := (fun K => (He.Fa.free "max").ok K)) rfl rfl), ⟨_, (He.glo_ok X G (c.fact 0 10 (l := fa0) (f := (fun K => (He.Fa.glo "STEPS").ok K)) rfl rfl)), rfl⟩, fun H => tupK_ok (c.fact 0 11 (l := fa0) (f := (tupK (fun K => He.ga K "STEPS") [.adr (itK (fun K => He.ga K "STEPS") 0), .adr (itK (fun K => He.ga K "STEPS") 1), .adr (itK (fun K => He.ga K "STEPS") 2), .adr (itK (fun K => He.ga K "STEPS") 3)])) rfl rfl) H, (F2.at (P := fun (a : Addr) (xs : List Int) => ∀ H, SqT K H a (xs.map V.int)) (.cons (fun H => by exact tupK_ok (c.fact 0 9 (l := fa0) (f := (tupK (itK (fun K => He.ga K "STEPS") 0) [.int (-1), .int 0])) rfl rfl) H) (.cons (fun H => by exact tupK_ok (c.fact 0 8 (l := fa0) (f := (tupK (itK (fun K => He.ga K "STEPS") 1) [.int 0, .int (-1)])) rfl rfl) H) (.cons (fun H => by exact tupK_ok (c.fact 0 7 (l := fa0) (f := (tupK (itK (fun K => He.ga K "STEPS") 2) [.int (-1), .int (-1)])) rfl rfl) H) (.cons (fun H => by exact tupK_ok (c.fact 0 6 (l := fa0) (f := (tupK (itK (fun K => He.ga K "STEPS") 3) [.int (-1), .int 1])) rfl rfl) H) .nil))))), He.free_ok X G (c.fact 0 12 (l := fa0) (f := (fun K => (He.Fa.free "abs").ok K)) rfl rfl), He.free_ok X G (c.fact 0 13 (l := fa0) (f := (fun K => (He.Fa.free "len").ok K)) rfl rfl), (Exists.elim (He.int_ok X G (c.fact 0 14 (l := fa0) (f := (fun K => (He.Fa.int "LEAST_DEPTH" 8).ok K)) rfl rfl)) fun t e => ⟨_, e, ⟨t, rfl⟩⟩), He.free_ok X G (c.fact 0 15 (l := fa0) (f := (fun K => (He.Fa.free "enumerate").ok K)) rfl rfl), He.free_ok X G (c.fact 0 16 (l := fa0) (f := (fun K => (He.Fa.free "repr").ok K)) rfl rfl), He.free_ok X G (c.fact 0 17 (l := fa0) (f := (fun K => (He.Fa.free "isinstance").ok K)) rfl rfl), He.cls_ok (c.fact 0 18 (l := fa0) (f := (fun K => (He.Fa.cls "Format").ok K)) rfl rfl), He.noat_ok (c.fact 0 19 (l := fa0) (f := (fun K => (He.Fa.noat "Format" "width").ok K)) rfl rfl), He.noat_ok (c.fact 0 20 (l := fa0) (f := (fun K => (He.Fa.noat "Format" "height").ok K)) rfl rfl), He.noat_ok (c.fact 0 21 (l := fa0) (f := (fun K => (He.Fa.noat "Format" "depth").ok K)) rfl rfl), He.noat_ok (c.fact 0 22 (l := fa0) (f := (fun K => (He.Fa.noat "Format" "chroma").ok K)) rfl rfl), He.cls_ok (c.fact 0 23 (l := fa0) (f := (fun K => (He.Fa.cls "Settings").ok K)) rfl rfl), He.noat_ok (c.fact 0 24 (l := fa0) (f := (fun K => (He.Fa.noat "Settings" "fmt").ok K)) rfl rfl), He.noat_ok (c.fact 0 25 (l := fa0) (f := (fun K => (He.Fa.noat "Settings" "slots").ok K)) rfl rfl), He.noat_ok (c.fact 0 26 (l := fa0) (f := (fun K => (He.Fa.noat "Settings" "rows").ok K)) rfl rfl), He.noat_ok (c.fact 0 27 (l := fa0) (f := (fun K => (He.Fa.noat "Settings" "deblock").ok K)) rfl rfl), He.noat_ok (c.fact 0 28 (l := fa0) (f := (fun K => (He.Fa.noat "Settings" "offset").ok K)) rfl rfl), He.noat_ok (c.fact 0 29 (l := fa0) (f := (fun K => (He.Fa.noat "Settings" "layers").ok K)) rfl rfl), (He.glo_ok X G (c.fact 1 1 (l := fa1) (f := (fun K => (He.Fa.glo "BadFormat").ok K)) rfl rfl)), (He.exc_ok (c.fact 1 0 (l := fa1) (f := (fun K => (He.Fa.exc "BadFormat").ok K)) rfl rfl)).1, (He.exc_ok (c.fact 1 0 (l := fa1) (f := (fun K => (He.Fa.exc "BadFormat").ok K)) rfl rfl)).2.1, (He.exc_ok (c.fact 1 0 (l := fa1) (f := (fun K => (He.Fa.exc "BadFormat").ok K)) rfl rfl)).2.2.1, (He.exc_ok (c.fact 1 0 (l := fa1) (f := (fun K => (He.Fa.exc "BadFormat").ok K)) rfl rfl)).2.2.2, (He.glo_ok X G (c.fact 1 3 (l := fa1) (f := (fun K => (He.Fa.glo "BadHeader").ok K)) rfl rfl)), (He.exc_ok (c.fact 1 2 (l := fa1) (f := (fun K => (He.Fa.exc "BadHeader").ok K)) rfl rfl)).1, (He.exc_ok (c.fact 1 2 (l := fa1) (f := (fun K => (He.Fa.exc "BadHeader").ok K)) rfl rfl)).2.1, (He.exc_ok (c.fact 1 2 (l := fa1) (f := (fun K => (He.Fa.exc "BadHeader").ok K)) rfl rfl)).2.2.1, (He.exc_ok (c.fact 1 2 (l := fa1) (f := (fun K => (He.Fa.exc "BadHeader").ok K)) rfl rfl)).2.2.2, (He.glo_ok X G (c.fact 1 5 (l := fa1) (f := (fun K => (He.Fa.glo "OutOfRange").ok K)) rfl rfl)), (He.exc_ok (c.fact 1 4 (l := fa1) (f := (fun K => (He.Fa.exc "OutOfRange").ok K)) rfl rfl)).1, (He.exc_ok (c.fact 1 4 (l := fa1) (f := (fun K => (He.Fa.exc "OutOfRange").ok K)) rfl rfl)).2.1, (He.exc_ok (c.fact 1 4 (l := fa1) (f := (fun K => (He.Fa.exc "OutOfRange").ok K)) rfl rfl)).2.2.1, (He.exc_ok (c.fact 1 4 (l := fa1) (f := (fun K => (He.Fa.exc "OutOfRange").ok K)) rfl rfl)).2.2.2⟩
theorem D_0 : DefX K mg "_law_digits" s__law_digits ["cell", "base", "most"] pats__law_digits := by
  obtain ⟨fd0, F0⟩ : ∃ fd, FunD K "_law_digits" "_law_digits" (defArgs s__law_digits) (defBody s__law_digits) (defScope s__law_digits) [] [] (He.ga K "_law_digits") fd := c.def_ 0 (d := dk0) rfl
  obtain ⟨kV, dc, pm, an, cd, ct, rfl⟩ := fnD_ex F0
  exact ⟨_, _, _, _, F0, (He.glo_ok X G (c.fact 1 6 (l := fa1) (f := (fun K => (He.Fa.glo "_law_digits").ok K)) rfl rfl)), (all_consQ (Bnd.all fun us ws vs zs l1 l2 r rz => by
      obtain ⟨u0, u1, u2, rfl⟩ := len3 (r.length.symm.trans l1)
      obtain rfl := len0 (rz.length.symm.trans l2)
      cases r with | cons r0 r =>
        cases r with | cons r1 r =>
          cases r with | cons r2 r =>
            cases r
            cases rz
            exact ⟨[u0, u1, u2], rfl, (.cons r0 (.cons r1 (.cons r2 .nil)))⟩) all_nilQ)⟩
theorem D_1 : InitX K mg (He.ga K "Format") "Format" "Format.__init__" s_Format___init__ ["self", "width", "height", "depth", "chroma"] pats_Format___init__ := by
  obtain ⟨fd0, F1⟩ : ∃ fd, FunD K "__init__" "Format.__init__" (defArgs s_Format___init__) (defBody s_Format___init__) (defScope s_Format___init__) [] [("depth", V.int 8), ("chroma", V.int 0)] (He.ma K (He.ga K "Format") "__init__") fd := c.def_ 1 (d := dk1) rfl
  obtain ⟨kV, dc, pm, an, cd, ct, rfl⟩ := fnD_ex F1
  exact ⟨_, _, _, _, F1, He.mkr_ok (c.fact 1 7 (l := fa1) (f := (fun K => (He.Fa.mkr "Format").ok K)) rfl rfl), (He.glo_ok X G (c.fact 1 8 (l := fa1) (f := (fun K => (He.Fa.glo "Format").ok K)) rfl rfl)), (all_consQ (Bnd.all fun us ws vs zs l1 l2 r rz => by
      obtain ⟨u0, u1, u2, rfl⟩ := len3 (r.length.symm.trans l1)
      obtain ⟨w0, w1, rfl⟩ := len2 (rz.length.symm.trans l2)
      cases r with | cons r0 r =>
        cases r with | cons r1 r =>
          cases r with | cons r2 r =>
            cases r
            cases rz with | cons q0 rz =>
              cases rz with | cons q1 rz =>
                cases rz
                exact ⟨[u0, u1, u2, w0, w1], rfl, (.cons r0 (.cons r1 (.cons r2 (.cons q0 (.cons q1 .nil)))))⟩) all_nilQ)⟩
theorem D_2 : DefX K mg "_require" s__require ["holds", "text"] pats__require := by
  obtain ⟨fd0, F2⟩ : ∃ fd, FunD K "_require" "_require" (defArgs s__require) (defBody s__require) (defScope s__require) [] [] (He.ga K "_require") fd := c.def_ 2 (d := dk2) rfl
  obtain ⟨kV, dc, pm, an, cd, ct, rfl⟩ := fnD_ex F2
  exact ⟨_, _, _, _, F2, (He.glo_ok X G (c.fact 1 9 (l := fa1) (f := (fun K => (He.Fa.glo "_require").ok K)) rfl rfl)), (all_consQ (Bnd.all fun us ws vs zs l1 l2 r rz => by
      obtain ⟨u0, u1, rfl⟩ := len2 (r.length.symm.trans l1)
      obtain rfl := len0 (rz.length.symm.trans l2)
      cases r with | cons r0 r =>
        cases r with | cons r1 r =>
          cases r
          cases rz
          exact ⟨[u0, u1], rfl, (.cons r0 (.cons r1 .nil))⟩) all_nilQ)⟩
theorem D_3 : InitX K mg (He.ga K "Settings") "Settings" "Settings.__init__" s_Settings___init__ ["self", "fmt", "slots", "rows", "deblock", "offset", "layers"] pats_Settings___init__ := by
  obtain ⟨fd0, F3⟩ : ∃ fd, FunD K "__init__" "Settings.__init__" (defArgs s_Settings___init__) (defBody s_Settings___init__) (defScope s_Settings___init__) [] [("slots", V.int 1), ("rows", V.int 1), ("deblock", V.bl false), ("offset", V.bl false), ("layers", V.int 1)] (He.ma K (He.ga K "Settings") "__init__") fd := c.def_ 3 (d := dk3) rfl
  obtain ⟨kV, dc, pm, an, cd, ct, rfl⟩ := fnD_ex F3
  exact ⟨_, _, _, _, F3, He.mkr_ok (c.fact 1 10 (l := fa1) (f := (fun K => (He.Fa.mkr "Settings").ok K)) rfl rfl), (He.glo_ok X G (c.fact 1 11 (l := fa1) (f := (fun K => (He.Fa.glo "Settings").ok K)) rfl rfl)), (all_consQ (Exists.elim (FunD.kbinds0 F3 2 ["rows", "offset"] [("slots", V.int 1), ("deblock", V.bl false), ("layers", V.int 1)] (fun {α} => gk_Settings___init___0 (α := α)) (by simp) (by simp) (fun r s q => gkrel_Settings___init___0 r s q) (fun D doc pm an cdv ct us mv ws h1 h2 h3 => by
        obtain ⟨u0, u1, rfl⟩ := len2 h1
        obtain ⟨m0, m1, m2, rfl⟩ := len3 h2
        obtain ⟨w0, w1, rfl⟩ := len2 h3
        exact ⟨_, _, _, _, _, _, rfl, rfl, ⟨_, _, _, _, _, _, rfl, rfl, ⟨_, _, _, _, _, _, rfl, rfl, rfl⟩⟩⟩)) fun _ hb => Bnd.of_kbn hb) (all_consQ (Exists.elim (FunD.kbinds0 F3 2 ["rows"] [("slots", V.int 1), ("deblock", V.bl false), ("offset", V.bl false), ("layers", V.int 1)] (fun {α} => gk_Settings___init___1 (α := α)) (by simp) (by simp) (fun r s q => gkrel_Settings___init___1 r s q) (fun D doc pm an cdv ct us mv ws h1 h2 h3 => by
        obtain ⟨u0, u1, rfl⟩ := len2 h1
        obtain ⟨m0, m1, m2, m3, rfl⟩ := len4 h2
        obtain ⟨w0, rfl⟩ := len1 h3
        exact ⟨_, _, _, _, _, _, rfl, rfl, ⟨_, _, _, _, _, _, rfl, rfl, ⟨_, _, _, _, _, _, rfl, rfl, ⟨_, _, _, _, _, _, rfl, rfl, rfl⟩⟩⟩⟩)) fun _ hb => Bnd.of_kbn hb) all_nilQ))⟩
theorem D_4 : PropX K (He.ga K "Format") "Format.planes" "planes" s_Format_planes ["self"] pats_Format_planes := by
  obtain ⟨fd0, F4⟩ : ∃ fd, FunD K "planes" "Format.planes" (defArgs s_Format_planes) (defBody s_Format_planes) (defScope s_Format_planes) [] [] (prA "Format" "planes" K) fd := c.def_ 4 (d := dk4) rfl
  obtain ⟨kV, dc, pm, an, cd, ct, rfl⟩ := fnD_ex F4
  obtain ⟨e1, e2, e3, rs, e4⟩ := prpB_ok (c.fact 1 12 (l := fa1) (f := (prpB "Format" "planes")) rfl rfl)
  exact ⟨_, _, _, _, _, F4, ⟨e1, e2, e3, _, e4⟩, FunD.bindsN F4 (fun _ _ _ _ _ _ us h => by obtain ⟨u0, rfl⟩ := len1 h; rfl)⟩
theorem D_5 : MethX K (He.ga K "Format") "Format.blocks" "blocks" s_Format_blocks ["self"] pats_Format_blocks := by
  obtain ⟨fd0, F5⟩ : ∃ fd, FunD K "blocks" "Format.blocks" (defArgs s_Format_blocks) (defBody s_Format_blocks) (defScope s_Format_blocks) [] [] (He.ma K (He.ga K "Format") "blocks") fd := c.def_ 5 (d := dk5) rfl
  obtain ⟨kV, dc, pm, an, cd, ct, rfl⟩ := fnD_ex F5
  exact ⟨_, _, _, _, F5, He.meth_ok (c.fact 1 13 (l := fa1) (f := (fun K => (He.Fa.meth "Format" "blocks").ok K)) rfl rfl), (all_consQ (Bnd.all fun us ws vs zs l1 l2 r rz => by
      obtain ⟨u0, rfl⟩ := len1 (r.length.symm.trans l1)
      obtain rfl := len0 (rz.length.symm.trans l2)
      cases r with | cons r0 r =>
        cases r
        cases rz
        exact ⟨[u0], rfl, (.cons r0 .nil)⟩) all_nilQ)⟩
theorem D_6 : MethX K (He.ga K "Format") "Format._plane_size" "_plane_size" s_Format__plane_size ["self", "plane", "width", "height"] pats_Format__plane_size := by
  obtain ⟨fd0, F6⟩ : ∃ fd, FunD K "_plane_size" "Format._plane_size" (defArgs s_Format__plane_size) (defBody s_Format__plane_size) (defScope s_Format__plane_size) [] [] (He.ma K (He.ga K "Format") "_plane_size") fd := c.def_ 6 (d := dk6) rfl
  obtain ⟨kV, dc, pm, an, cd, ct, rfl⟩ := fnD_ex F6
  exact ⟨_, _, _, _, F6, He.meth_ok (c.fact 1 14 (l := fa1) (f := (fun K => (He.Fa.meth "Format" "_plane_size").ok K)) rfl rfl), (all_consQ (Bnd.all fun us ws vs zs l1 l2 r rz => by
      obtain ⟨u0, u1, u2, u3, rfl⟩ := len4 (r.length.symm.trans l1)
      obtain rfl := len0 (rz.length.symm.trans l2)
      cases r with | cons r0 r =>
        cases r with | cons r1 r =>
          cases r with | cons r2 r =>
            cases r with | cons r3 r =>
              cases r
              cases rz
              exact ⟨[u0, u1, u2, u3], rfl, (.cons r0 (.cons r1 (.cons r2 (.cons r3 .nil))))⟩) all_nilQ)⟩
theorem D_7 : MethX K (He.ga K "Format") "Format.coded_size" "coded_size" s_Format_coded_size ["self", "plane"] pats_Format_coded_size := by
  obtain ⟨fd0, F7⟩ : ∃ fd, FunD K "coded_size" "Format.coded_size" (defArgs s_Format_coded_size) (defBody s_Format_coded_size) (defScope s_Format_coded_size) [] [] (He.ma K (He.ga K "Format") "coded_size") fd := c.def_ 7 (d := dk7) rfl
  obtain ⟨kV, dc, pm, an, cd, ct, rfl⟩ := fnD_ex F7
  exact ⟨_, _, _, _, F7, He.meth_ok (c.fact 1 15 (l := fa1) (f := (fun K => (He.Fa.meth "Format" "coded_size").ok K)) rfl rfl), (all_consQ (Bnd.all fun us ws vs zs l1 l2 r rz => by
      obtain ⟨u0, u1, rfl⟩ := len2 (r.length.symm.trans l1)
      obtain rfl := len0 (rz.length.symm.trans l2)
      cases r with | cons r0 r =>
        cases r with | cons r1 r =>
          cases r
          cases rz
          exact ⟨[u0, u1], rfl, (.cons r0 (.cons r1 .nil))⟩) all_nilQ)⟩
theorem D_8 : DefX K mg "_law_planes" s__law_planes ["cell", "fmt", "top"] pats__law_planes := by
  obtain ⟨fd0, F8⟩ : ∃ fd, FunD K "_law_planes" "_law_planes" (defArgs s__law_planes) (defBody s__law_planes) (defScope s__law_planes) [] [] (He.ga K "_law_planes") fd := c.def_ 8 (d := dk8) rfl
  obtain ⟨kV, dc, pm, an, cd, ct, rfl⟩ := fnD_ex F8
  exact ⟨_, _, _, _, F8, (He.glo_ok X G (c.fact 1 16 (l := fa1) (f := (fun K => (He.Fa.glo "_law_planes").ok K)) rfl rfl)), (all_consQ (Bnd.all fun us ws vs zs l1 l2 r rz => by
      obtain ⟨u0, u1, u2, rfl⟩ := len3 (r.length.symm.trans l1)
      obtain rfl := len0 (rz.length.symm.trans l2)
      cases r with | cons r0 r =>
        cases r with | cons r1 r =>
          cases r with | cons r2 r =>
            cases r
            cases rz
            exact ⟨[u0, u1, u2], rfl, (.cons r0 (.cons r1 (.cons r2 .nil)))⟩) all_nilQ)⟩
theorem D_9 : DefX K mg "copy_planes" s_copy_planes ["planes"] pats_copy_planes := by
  obtain ⟨fd0, F9⟩ : ∃ fd, FunD K "copy_planes" "copy_planes" (defArgs s_copy_planes) (defBody s_copy_planes) (defScope s_copy_planes) [] [] (He.ga K "copy_planes") fd := c.def_ 9 (d := dk9) rfl
  obtain ⟨kV, dc, pm, an, cd, ct, rfl⟩ := fnD_ex F9
  exact ⟨_, _, _, _, F9, (He.glo_ok X G (c.fact 1 17 (l := fa1) (f := (fun K => (He.Fa.glo "copy_planes").ok K)) rfl rfl)), (all_consQ (Bnd.all fun us ws vs zs l1 l2 r rz => by
      obtain ⟨u0, rfl⟩ := len1 (r.length.symm.trans l1)
      obtain rfl := len0 (rz.length.symm.trans l2)
      cases r with | cons r0 r =>
        cases r
        cases rz
        exact ⟨[u0], rfl, (.cons r0 .nil)⟩) all_nilQ)⟩
theorem D_10 : DefX K mg "block_side" s_block_side ["fmt", "plane"] pats_block_side := by
  obtain ⟨fd0, F10⟩ : ∃ fd, FunD K "block_side" "block_side" (defArgs s_block_side) (defBody s_block_side) (defScope s_block_side) [] [] (He.ga K "block_side") fd := c.def_ 10 (d := dk10) rfl
  obtain ⟨kV, dc, pm, an, cd, ct, rfl⟩ := fnD_ex F10
  exact ⟨_, _, _, _, F10, (He.glo_ok X G (c.fact 1 18 (l := fa1) (f := (fun K => (He.Fa.glo "block_side").ok K)) rfl rfl)), (all_consQ (Bnd.all fun us ws vs zs l1 l2 r rz => by
      obtain ⟨u0, u1, rfl⟩ := len2 (r.length.symm.trans l1)
      obtain rfl := len0 (rz.length.symm.trans l2)
      cases r with | cons r0 r =>
        cases r with | cons r1 r =>
          cases r
          cases rz
          exact ⟨[u0, u1], rfl, (.cons r0 (.cons r1 .nil))⟩) all_nilQ)⟩
theorem D_11 : MethX K (He.ga K "Settings") "Settings.slices" "slices" s_Settings_slices ["self"] pats_Settings_slices := by
  obtain ⟨fd0, F11⟩ : ∃ fd, FunD K "slices" "Settings.slices" (defArgs s_Settings_slices) (defBody s_Settings_slices) (defScope s_Settings_slices) [] [] (He.ma K (He.ga K "Settings") "slices") fd := c.def_ 11 (d := dk11) rfl
  obtain ⟨kV, dc, pm, an, cd, ct, rfl⟩ := fnD_ex F11
  exact ⟨_, _, _, _, F11, He.meth_ok (c.fact 1 19 (l := fa1) (f := (fun K => (He.Fa.meth "Settings" "slices").ok K)) rfl rfl), (all_consQ (Bnd.all fun us ws vs zs l1 l2 r rz => by
      obtain ⟨u0, rfl⟩ := len1 (r.length.symm.trans l1)
      obtain rfl := len0 (rz.length.symm.trans l2)
      cases r with | cons r0 r =>
        cases r
        cases rz
        exact ⟨[u0], rfl, (.cons r0 .nil)⟩) all_nilQ)⟩
theorem D_12 : MethX K (He.ga K "Settings") "Settings.slice_rows" "slice_rows" s_Settings_slice_rows ["self", "index"] pats_Settings_slice_rows := by
  obtain ⟨fd0, F12⟩ : ∃ fd, FunD K "slice_rows" "Settings.slice_rows" (defArgs s_Settings_slice_rows) (defBody s_Settings_slice_rows) (defScope s_Settings_slice_rows) [] [] (He.ma K (He.ga K "Settings") "slice_rows") fd := c.def_ 12 (d := dk12) rfl
  obtain ⟨kV, dc, pm, an, cd, ct, rfl⟩ := fnD_ex F12
  exact ⟨_, _, _, _, F12, He.meth_ok (c.fact 1 20 (l := fa1) (f := (fun K => (He.Fa.meth "Settings" "slice_rows").ok K)) rfl rfl), (all_consQ (Bnd.all fun us ws vs zs l1 l2 r rz => by
      obtain ⟨u0, u1, rfl⟩ := len2 (r.length.symm.trans l1)
      obtain rfl := len0 (rz.length.symm.trans l2)
      cases r with | cons r0 r =>
        cases r with | cons r1 r =>
          cases r
          cases rz
          exact ⟨[u0, u1], rfl, (.cons r0 (.cons r1 .nil))⟩) all_nilQ)⟩
theorem D_13 : DefX K mg "slice_span" s_slice_span ["settings", "index", "plane"] pats_slice_span := by
  obtain ⟨fd0, F13⟩ : ∃ fd, FunD K "slice_span" "slice_span" (defArgs s_slice_span) (defBody s_slice_span) (defScope s_slice_span) [] [] (He.ga K "slice_span") fd := c.def_ 13 (d := dk13) rfl
  obtain ⟨kV, dc, pm, an, cd, ct, rfl⟩ := fnD_ex F13
  exact ⟨_, _, _, _, F13, (He.glo_ok X G (c.fact 1 21 (l := fa1) (f := (fun K => (He.Fa.glo "slice_span").ok K)) rfl rfl)), (all_consQ (Bnd.all fun us ws vs zs l1 l2 r rz => by
      obtain ⟨u0, u1, u2, rfl⟩ := len3 (r.length.symm.trans l1)
      obtain rfl := len0 (rz.length.symm.trans l2)
      cases r with | cons r0 r =>
        cases r with | cons r1 r =>
          cases r with | cons r2 r =>
            cases r
            cases rz
            exact ⟨[u0, u1, u2], rfl, (.cons r0 (.cons r1 (.cons r2 .nil)))⟩) all_nilQ)⟩
theorem D_14 : DefX K mg "clip" s_clip ["value", "low", "high"] pats_clip := by
  obtain ⟨fd0, F14⟩ : ∃ fd, FunD K "clip" "clip" (defArgs s_clip) (defBody s_clip) (defScope s_clip) [] [] (He.ga K "clip") fd := c.def_ 14 (d := dk14) rfl
  obtain ⟨kV, dc, pm, an, cd, ct, rfl⟩ := fnD_ex F14
  exact ⟨_, _, _, _, F14, (He.glo_ok X G (c.fact 1 22 (l := fa1) (f := (fun K => (He.Fa.glo "clip").ok K)) rfl rfl)), (all_consQ (Bnd.all fun us ws vs zs l1 l2 r rz => by
      obtain ⟨u0, u1, u2, rfl⟩ := len3 (r.length.symm.trans l1)
      obtain rfl := len0 (rz.length.symm.trans l2)
      cases r with | cons r0 r =>
        cases r with | cons r1 r =>
          cases r with | cons r2 r =>
            cases r
            cases rz
            exact ⟨[u0, u1, u2], rfl, (.cons r0 (.cons r1 (.cons r2 .nil)))⟩) all_nilQ)⟩
theorem D_15 : DefX K mg "_sign" s__sign ["number"] pats__sign := by
  obtain ⟨fd0, F15⟩ : ∃ fd, FunD K "_sign" "_sign" (defArgs s__sign) (defBody s__sign) (defScope s__sign) [] [] (He.ga K "_sign") fd := c.def_ 15 (d := dk15) rfl
  obtain ⟨kV, dc, pm, an, cd, ct, rfl⟩ := fnD_ex F15
  exact ⟨_, _, _, _, F15, (He.glo_ok X G (c.fact 1 23 (l := fa1) (f := (fun K => (He.Fa.glo "_sign").ok K)) rfl rfl)), (all_consQ (Bnd.all fun us ws vs zs l1 l2 r rz => by
      obtain ⟨u0, rfl⟩ := len1 (r.length.symm.trans l1)
      obtain rfl := len0 (rz.length.symm.trans l2)
      cases r with | cons r0 r =>
        cases r
        cases rz
        exact ⟨[u0], rfl, (.cons r0 .nil)⟩) all_nilQ)⟩
theorem D_16 : PropX K (He.ga K "Format") "Format.top" "top" s_Format_top ["self"] pats_Format_top := by
  obtain ⟨fd0, F16⟩ : ∃ fd, FunD K "top" "Format.top" (defArgs s_Format_top) (defBody s_Format_top) (defScope s_Format_top) [] [] (prA "Format" "top" K) fd := c.def_ 16 (d := dk16) rfl
  obtain ⟨kV, dc, pm, an, cd, ct, rfl⟩ := fnD_ex F16
  obtain ⟨e1, e2, e3, rs, e4⟩ := prpB_ok (c.fact 1 24 (l := fa1) (f := (prpB "Format" "top")) rfl rfl)
  exact ⟨_, _, _, _, _, F16, ⟨e1, e2, e3, _, e4⟩, FunD.bindsN F16 (fun _ _ _ _ _ _ us h => by obtain ⟨u0, rfl⟩ := len1 h; rfl)⟩
theorem D_17 : DefX K mg "_filtered_row" s__filtered_row ["fmt", "plane", "y", "item"] pats__filtered_row := by
  obtain ⟨fd0, F17⟩ : ∃ fd, FunD K "_filtered_row" "_filtered_row" (defArgs s__filtered_row) (defBody s__filtered_row) (defScope s__filtered_row) [] [] (He.ga K "_filtered_row") fd := c.def_ 17 (d := dk17) rfl
  obtain ⟨kV, dc, pm, an, cd, ct, rfl⟩ := fnD_ex F17
  exact ⟨_, _, _, _, F17, (He.glo_ok X G (c.fact 1 25 (l := fa1) (f := (fun K => (He.Fa.glo "_filtered_row").ok K)) rfl rfl)), (all_consQ (Bnd.all fun us ws vs zs l1 l2 r rz => by
      obtain ⟨u0, u1, u2, u3, rfl⟩ := len4 (r.length.symm.trans l1)
      obtain rfl := len0 (rz.length.symm.trans l2)
      cases r with | cons r0 r =>
        cases r with | cons r1 r =>
          cases r with | cons r2 r =>
            cases r with | cons r3 r =>
              cases r
              cases rz
              exact ⟨[u0, u1, u2, u3], rfl, (.cons r0 (.cons r1 (.cons r2 (.cons r3 .nil))))⟩) all_nilQ)⟩
theorem D_18 : DefX K mg "_filter_slice" s__filter_slice ["settings", "index", "items", "planes", "filtered"] pats__filter_slice := by
  obtain ⟨fd0, F18⟩ : ∃ fd, FunD K "_filter_slice" "_filter_slice" (defArgs s__filter_slice) (defBody s__filter_slice) (defScope s__filter_slice) [] [] (He.ga K "_filter_slice") fd := c.def_ 18 (d := dk18) rfl
  obtain ⟨kV, dc, pm, an, cd, ct, rfl⟩ := fnD_ex F18
  exact ⟨_, _, _, _, F18, (He.glo_ok X G (c.fact 1 26 (l := fa1) (f := (fun K => (He.Fa.glo "_filter_slice").ok K)) rfl rfl)), (all_consQ (Bnd.all fun us ws vs zs l1 l2 r rz => by
      obtain ⟨u0, u1, u2, u3, u4, rfl⟩ := len5 (r.length.symm.trans l1)
      obtain rfl := len0 (rz.length.symm.trans l2)
      cases r with | cons r0 r =>
        cases r with | cons r1 r =>
          cases r with | cons r2 r =>
            cases r with | cons r3 r =>
              cases r with | cons r4 r =>
                cases r
                cases rz
                exact ⟨[u0, u1, u2, u3, u4], rfl, (.cons r0 (.cons r1 (.cons r2 (.cons r3 (.cons r4 .nil)))))⟩) all_nilQ)⟩
theorem D_19 : DefX K mg "apply_offsets" s_apply_offsets ["settings", "planes", "offsets"] pats_apply_offsets := by
  obtain ⟨fd0, F19⟩ : ∃ fd, FunD K "apply_offsets" "apply_offsets" (defArgs s_apply_offsets) (defBody s_apply_offsets) (defScope s_apply_offsets) [] [] (He.ga K "apply_offsets") fd := c.def_ 19 (d := dk19) rfl
  obtain ⟨kV, dc, pm, an, cd, ct, rfl⟩ := fnD_ex F19
  exact ⟨_, _, _, _, F19, (He.glo_ok X G (c.fact 1 27 (l := fa1) (f := (fun K => (He.Fa.glo "apply_offsets").ok K)) rfl rfl)), (all_consQ (Bnd.all fun us ws vs zs l1 l2 r rz => by
      obtain ⟨u0, u1, u2, rfl⟩ := len3 (r.length.symm.trans l1)
      obtain rfl := len0 (rz.length.symm.trans l2)
      cases r with | cons r0 r =>
        cases r with | cons r1 r =>
          cases r with | cons r2 r =>
            cases r
            cases rz
            exact ⟨[u0, u1, u2], rfl, (.cons r0 (.cons r1 (.cons r2 .nil)))⟩) all_nilQ)⟩
theorem D_20 : DefX K mg "_law_cell" s__law_cell ["script", "k"] pats__law_cell := by
  obtain ⟨fd0, F20⟩ : ∃ fd, FunD K "_law_cell" "_law_cell" (defArgs s__law_cell) (defBody s__law_cell) (defScope s__law_cell) [] [] (He.ga K "_law_cell") fd := c.def_ 20 (d := dk20) rfl
  obtain ⟨kV, dc, pm, an, cd, ct, rfl⟩ := fnD_ex F20
  exact ⟨_, _, _, _, F20, (He.glo_ok X G (c.fact 1 28 (l := fa1) (f := (fun K => (He.Fa.glo "_law_cell").ok K)) rfl rfl)), (all_consQ (Bnd.all fun us ws vs zs l1 l2 r rz => by
      obtain ⟨u0, u1, rfl⟩ := len2 (r.length.symm.trans l1)
      obtain rfl := len0 (rz.length.symm.trans l2)
      cases r with | cons r0 r =>
        cases r with | cons r1 r =>
          cases r
          cases rz
          exact ⟨[u0, u1], rfl, (.cons r0 (.cons r1 .nil))⟩) all_nilQ)⟩
theorem D_21 : DefX K mg "_law_items" s__law_items ["cell", "planes"] pats__law_items := by
  obtain ⟨fd0, F21⟩ : ∃ fd, FunD K "_law_items" "_law_items" (defArgs s__law_items) (defBody s__law_items) (defScope s__law_items) [] [] (He.ga K "_law_items") fd := c.def_ 21 (d := dk21) rfl
  obtain ⟨kV, dc, pm, an, cd, ct, rfl⟩ := fnD_ex F21
  exact ⟨_, _, _, _, F21, (He.glo_ok X G (c.fact 1 29 (l := fa1) (f := (fun K => (He.Fa.glo "_law_items").ok K)) rfl rfl)), (all_consQ (Bnd.all fun us ws vs zs l1 l2 r rz => by
      obtain ⟨u0, u1, rfl⟩ := len2 (r.length.symm.trans l1)
      obtain rfl := len0 (rz.length.symm.trans l2)
      cases r with | cons r0 r =>
        cases r with | cons r1 r =>
          cases r
          cases rz
          exact ⟨[u0, u1], rfl, (.cons r0 (.cons r1 .nil))⟩) all_nilQ)⟩
theorem D_22 : DefX K mg "_law_sign" s__law_sign ["number"] pats__law_sign := by
  obtain ⟨fd0, F22⟩ : ∃ fd, FunD K "_law_sign" "_law_sign" (defArgs s__law_sign) (defBody s__law_sign) (defScope s__law_sign) [] [] (He.ga K "_law_sign") fd := c.def_ 22 (d := dk22) rfl
  obtain ⟨kV, dc, pm, an, cd, ct, rfl⟩ := fnD_ex F22
  exact ⟨_, _, _, _, F22, (He.glo_ok X G (c.fact 2 0 (l := fa2) (f := (fun K => (He.Fa.glo "_law_sign").ok K)) rfl rfl)), (all_consQ (Bnd.all fun us ws vs zs l1 l2 r rz => by
      obtain ⟨u0, rfl⟩ := len1 (r.length.symm.trans l1)
      obtain rfl := len0 (rz.length.symm.trans l2)
      cases r with | cons r0 r =>
        cases r
        cases rz
        exact ⟨[u0], rfl, (.cons r0 .nil)⟩) all_nilQ)⟩
theorem D_23 : DefX K mg "_law_sample" s__law_sample ["rows", "x", "y", "item", "unit", "top"] pats__law_sample := by
  obtain ⟨fd0, F23⟩ : ∃ fd, FunD K "_law_sample" "_law_sample" (defArgs s__law_sample) (defBody s__law_sample) (defScope s__law_sample) [] [] (He.ga K "_law_sample") fd := c.def_ 23 (d := dk23) rfl
  obtain ⟨kV, dc, pm, an, cd, ct, rfl⟩ := fnD_ex F23
  exact ⟨_, _, _, _, F23, (He.glo_ok X G (c.fact 2 1 (l := fa2) (f := (fun K => (He.Fa.glo "_law_sample").ok K)) rfl rfl)), (all_consQ (Bnd.all fun us ws vs zs l1 l2 r rz => by
      obtain ⟨u0, u1, u2, u3, u4, u5, rfl⟩ := len6 (r.length.symm.trans l1)
      obtain rfl := len0 (rz.length.symm.trans l2)
      cases r with | cons r0 r =>
        cases r with | cons r1 r =>
          cases r with | cons r2 r =>
            cases r with | cons r3 r =>
              cases r with | cons r4 r =>
                cases r with | cons r5 r =>
                  cases r
                  cases rz
                  exact ⟨[u0, u1, u2, u3, u4, u5], rfl, (.cons r0 (.cons r1 (.cons r2 (.cons r3 (.cons r4 (.cons r5 .nil))))))⟩) all_nilQ)⟩
theorem D_24 : DefX K mg "_law_due" s__law_due ["rows", "small", "high", "offsets", "plane", "unit", "top"] pats__law_due := by
  obtain ⟨fd0, F24⟩ : ∃ fd, FunD K "_law_due" "_law_due" (defArgs s__law_due) (defBody s__law_due) (defScope s__law_due) [] [] (He.ga K "_law_due") fd := c.def_ 24 (d := dk24) rfl
  obtain ⟨kV, dc, pm, an, cd, ct, rfl⟩ := fnD_ex F24
  exact ⟨_, _, _, _, F24, (He.glo_ok X G (c.fact 2 2 (l := fa2) (f := (fun K => (He.Fa.glo "_law_due").ok K)) rfl rfl)), (all_consQ (Bnd.all fun us ws vs zs l1 l2 r rz => by
      obtain ⟨u0, u1, u2, u3, u4, u5, u6, rfl⟩ := len7 (r.length.symm.trans l1)
      obtain rfl := len0 (rz.length.symm.trans l2)
      cases r with | cons r0 r =>
        cases r with | cons r1 r =>
          cases r with | cons r2 r =>
            cases r with | cons r3 r =>
              cases r with | cons r4 r =>
                cases r with | cons r5 r =>
                  cases r with | cons r6 r =>
                    cases r
                    cases rz
                    exact ⟨[u0, u1, u2, u3, u4, u5, u6], rfl, (.cons r0 (.cons r1 (.cons r2 (.cons r3 (.cons r4 (.cons r5 (.cons r6 .nil)))))))⟩) all_nilQ)⟩
theorem R__law_digits (base : Heap) : CalX P w K mg base 1 "_law_digits" (sp__law_digits K (adK K)) pats__law_digits := ok__law_digits (AD := adK K) (D_0 X G c) (T_ X G c) 
theorem R_Format___init__ (base : Heap) : MakX P w K mg base 1 "Format" (adK K).c_Format (sp_Format___init__ K (adK K)) pats_Format___init__ := ok_Format___init__ (AD := adK K) (D_1 X G c) (T_ X G c) 
theorem R__require (base : Heap) : CalX P w K mg base 1 "_require" (sp__require K (adK K)) pats__require := ok__require (AD := adK K) (D_2 X G c) (T_ X G c) 
theorem R_Settings___init__ (base : Heap) : MakX P w K mg base 2 "Settings" (adK K).c_Settings (sp_Settings___init__ K (adK K)) pats_Settings___init__ := ok_Settings___init__ (AD := adK K) (D_3 X G c) (T_ X G c) (R__require X G c base)
theorem R_Format_planes (base : Heap) : PropY P w K mg base 1 (adK K).c_Format "planes" (sp_Format_planes K (adK K)) pats_Format_planes := ok_Format_planes (AD := adK K) (D_4 X G c) (T_ X G c) 
theorem R_Format_blocks (base : Heap) : MetX P w K mg base 1 (adK K).c_Format "blocks" (sp_Format_blocks K (adK K)) pats_Format_blocks := ok_Format_blocks (AD := adK K) (D_5 X G c) (T_ X G c) 
theorem R_Format__plane_size (base : Heap) : MetX P w K mg base 3 (adK K).c_Format "_plane_size" (sp_Format__plane_size K (adK K)) pats_Format__plane_size := ok_Format__plane_size (AD := adK K) (D_6 X G c) (T_ X G c) (R_Format_planes X G c base)
theorem R_Format_coded_size (base : Heap) : MetX P w K mg base 4 (adK K).c_Format "coded_size" (sp_Format_coded_size K (adK K)) pats_Format_coded_size := ok_Format_coded_size (AD := adK K) (D_7 X G c) (T_ X G c) (R_Format_blocks X G c base) (R_Format__plane_size X G c base)
theorem R__law_planes (base : Heap) : CalX P w K mg base 5 "_law_planes" (sp__law_planes K (adK K)) pats__law_planes := ok__law_planes (AD := adK K) (D_8 X G c) (T_ X G c) (R_Format_coded_size X G c base) (R__law_digits X G c base) (R_Format_planes X G c base)
theorem R_copy_planes (base : Heap) : CalX P w K mg base 1 "copy_planes" (sp_copy_planes K (adK K)) pats_copy_planes := ok_copy_planes (AD := adK K) (D_9 X G c) (T_ X G c) 
theorem R_block_side (base : Heap) : CalX P w K mg base 1 "block_side" (sp_block_side K (adK K)) pats_block_side := ok_block_side (AD := adK K) (D_10 X G c) (T_ X G c) 
theorem R_Settings_slices (base : Heap) : MetX P w K mg base 2 (adK K).c_Settings "slices" (sp_Settings_slices K (adK K)) pats_Settings_slices := ok_Settings_slices (AD := adK K) (D_11 X G c) (T_ X G c) (R_Format_blocks X G c base)
theorem R_Settings_slice_rows (base : Heap) : MetX P w K mg base 3 (adK K).c_Settings "slice_rows" (sp_Settings_slice_rows K (adK K)) pats_Settings_slice_rows := ok_Settings_slice_rows (AD := adK K) (D_12 X G c) (T_ X G c) (R_Settings_slices X G c base) (R_Format_blocks X G c base)
theorem R_slice_span (base : Heap) : CalX P w K mg base 4 "slice_span" (sp_slice_span K (adK K)) pats_slice_span := ok_slice_span (AD := adK K) (D_13 X G c) (T_ X G c) (R_Settings_slice_rows X G c base) (R_block_side X G c base)
theorem R_clip (base : Heap) : CalX P w K mg base 1 "clip" (sp_clip K (adK K)) pats_clip := ok_clip (AD := adK K) (D_14 X G c) (T_ X G c) 
theorem R__sign (base : Heap) : CalX P w K mg base 1 "_sign" (sp__sign K (adK K)) pats__sign := ok__sign (AD := adK K) (D_15 X G c) (T_ X G c) 
theorem R_Format_top (base : Heap) : PropY P w K mg base 1 (adK K).c_Format "top" (sp_Format_top K (adK K)) pats_Format_top := ok_Format_top (AD := adK K) (D_16 X G c) (T_ X G c) 
theorem R__filtered_row (base : Heap) : CalX P w K mg base 3 "_filtered_row" (sp__filtered_row K (adK K)) pats__filtered_row := ok__filtered_row (AD := adK K) (D_17 X G c) (T_ X G c) (R__sign X G c base) (R_clip X G c base) (R_Format_top X G c base)
theorem R__filter_slice (base : Heap) : CalX P w K mg base 5 "_filter_slice" (sp__filter_slice K (adK K)) pats__filter_slice := ok__filter_slice (AD := adK K) (D_18 X G c) (T_ X G c) (R_slice_span X G c base) (R__filtered_row X G c base)
theorem R_apply_offsets (base : Heap) : CalX P w K mg base 6 "apply_offsets" (sp_apply_offsets K (adK K)) pats_apply_offsets := ok_apply_offsets (AD := adK K) (D_19 X G c) (T_ X G c) (R_copy_planes X G c base) (R__filter_slice X G c base)
theorem R__law_cell (base : Heap) : CalX P w K mg base 1 "_law_cell" (sp__law_cell K (adK K)) pats__law_cell := ok__law_cell (AD := adK K) (D_20 X G c) (T_ X G c) 
theorem R__law_items (base : Heap) : CalX P w K mg base 2 "_law_items" (sp__law_items K (adK K)) pats__law_items := ok__law_items (AD := adK K) (D_21 X G c) (T_ X G c) (R__law_digits X G c base)
theorem R__law_sign (base : Heap) : CalX P w K mg base 1 "_law_sign" (sp__law_sign K (adK K)) pats__law_sign := ok__law_sign (AD := adK K) (D_22 X G c) (T_ X G c) 
theorem R__law_sample (base : Heap) : CalX P w K mg base 2 "_law_sample" (sp__law_sample K (adK K)) pats__law_sample := ok__law_sample (AD := adK K) (D_23 X G c) (T_ X G c) (R__law_sign X G c base)
theorem R__law_due (base : Heap) : CalX P w K mg base 3 "_law_due" (sp__law_due K (adK K)) pats__law_due := ok__law_due (AD := adK K) (D_24 X G c) (T_ X G c) (R__law_sample X G c base)
theorem law_fact {fa : Addr} (hfa : mg "law" = some (.ref fa)) :
    ∃ fd : FuncData, (∀ (s : Shared) (v : Value), BindsTo s fd ⟨[v], []⟩ [("script", v)]) ∧ ∀ base : Heap, K.In base → base.Ns mainGlobals mg → FnG P w K mg base CX0 7 fa fd ["script"] (spL K) := by
  have e := hfa.symm.trans (He.glo_ok X G (c.fact 2 3 (l := fa2) (f := (fun K => (He.Fa.glo "law").ok K)) rfl rfl))
  cases e
  obtain ⟨fd0, F25⟩ : ∃ fd, FunD K "law" "law" (defArgs s_law) (defBody s_law) (defScope s_law) [] [] (He.ga K "law") fd := c.def_ 25 (d := dk25) rfl
  have b := FunD.bindsA (ps := ["script"]) F25 fun _ _ _ _ _ _ us hl => match us, hl with | [_], _ => rfl
  refine ⟨fd0, fun s v => b s [v] rfl, fun base _ _ => (ok_law (AD := adK K) F25 (T_ X G c) (R__law_digits X G c base) (R__law_cell X G c base) (R_Format___init__ X G c base) (R_Settings___init__ X G c base) (R__law_items X G c base) (R_Format_planes X G c base) (R_Settings_slices X G c base) (R__law_planes X G c base) (R_Format_top X G c base) (R__law_due X G c base) (R_apply_offsets X G c base)).imp ?_⟩
  rintro vs H Q E ⟨a, xs, rfl, hs, hl, q⟩
  exact ⟨a, xs, rfl, hs, by rw [law_true xs hl]; exact cW_mk rfl, q⟩
end
end Vx
open PySem PySem.W PySem.Calls PyProof.Rows
set_option maxRecDepth 100000 in
set_option maxHeartbeats 0 in
theorem PySem.Challenge.cw_thaumatrope_k58_whole_pictures_offset_holds : PySem.Challenge.rw_thaumatrope_k58_whole_pictures_offset.Holds := by
  w_on; o_law
  refine HandSHeadRun.head_any (r := (PySem.W.OpenLaw.row PySem.Challenge.rw_thaumatrope_k58_whole_pictures_offset)) (q := view (PySem.W.OpenLaw.row PySem.Challenge.rw_thaumatrope_k58_whole_pictures_offset).prog [33]) (H := Vx.hkK) (ob := Vx.obK) (M := 20000) (loose := Vx.nms) (d := HandSHeadRun.topDef (PySem.W.OpenLaw.row PySem.Challenge.rw_thaumatrope_k58_whole_pictures_offset).prog 33) (kwd := []) Vx.obK_eq
    (by kernel_rfl) (fun s => by kernel_rfl) Vx.runK (by kernel_rfl) (by kernel_rfl) (by kernel_rfl) (by rfl) (by first | assumption | decide +kernel) (by decide +kernel) ⟨rfl, rfl, rfl, rfl, rfl, by decide +kernel⟩ ?hw ?hc
  case hw => w_witness2
  case hc =>
    refine Vx.walkK (l := PySem.Challenge.rw_thaumatrope_k58_whole_pictures_offset) (n := 63) (k := 7) (x := "script") rfl (by decide) (by kernel_rfl) ⟨rfl, by decide, by decide⟩ ?F
    intro w mg fa h Y G hmg0
    obtain ⟨K, KX, c⟩ := Y
    have hmg : mg ("law" : PySem.Str) = some (.ref fa) := by
      have e : (HandSHeadRun.topDef (PySem.W.OpenLaw.row PySem.Challenge.rw_thaumatrope_k58_whole_pictures_offset).prog 33).name = ("law" : PySem.Str) := by kernel_rfl
      rw [← e]
      exact hmg0
    obtain ⟨fd, hb, hF⟩ := Vx.law_fact (P := (PySem.W.OpenLaw.row PySem.Challenge.rw_thaumatrope_k58_whole_pictures_offset).prog) KX G c hmg
    exact ⟨K, fd, KX, hb, hF⟩
