import PyProof.Rows.All
import Wide.All
import OpenK.AllK
import Wide.FinOn
import HandS.ForMost
import HandS.Codes
import HandS.Steps
import HandS.IsInst
import HandS.Property
import HandS.Wide
import HandS.WideBits
import HandS.Exc
import HandS.Defaults
import HandS.ExcOwn
import HandS.TryOnly
import HandS.WordsExc
import HandS.ExcIs
import HandS.MakeKwOnly
import HandS.RaiseMore
import HandS.Style
import HandS.Zip
import HandS.Iter
import HandS.Walk
import HandS.More
import HandS.SetFor
import HandS.Strs
import HandS.SortInts
import PySem.Challenge.RW_thaumatrope_k34_any_octets_read_as_motio
set_option Elab.async false
set_option linter.all false
set_option maxRecDepth 100000
set_option maxHeartbeats 8000000
namespace Vx
open PySem PySem.Spec PyProof.Rows L2

/-! ### heaps -/
def SameX (m : Addr) (H H' : Hp) : Prop := ∀ b o, H b = some o → b ≠ m → H' b = some o
theorem gen_new {H H' : Hp} {p : Addr} {o : HO} (n : H p = none) (h : upd H p o = H') : Same H H' ∧ H' p = some o := by
  subst h
  exact ⟨fun b u e => by rw [upd_ne (ne_of_none e n)]; exact e, upd_same⟩
theorem gen_mut {H H' : Hp} {m : Addr} {o : HO} (h : upd H m o = H') : SameX m H H' ∧ H' m = some o := by
  subst h
  exact ⟨fun b u e n => by rw [upd_ne n]; exact e, upd_same⟩
theorem same_mut {H0 H H' : Hp} {m : Addr} (B : Same H0 H) (x : SameX m H H') (f : H0 m = none) : Same H0 H' :=
  fun b o e => x b o (B b o e) (ne_of_none e f)
theorem map_get {xs : List Int} {i : Nat} {x : V} (h : (xs.map V.int)[i]? = some x) : ∃ o, xs[i]? = some o ∧ x = .int o := by
  rw [List.getElem?_map] at h
  cases e : xs[i]? with
  | none => rw [e] at h; cases h
  | some z => rw [e] at h; exact ⟨z, rfl, (Option.some.inj h).symm⟩
theorem get_len {α : Type} {xs : List α} {i : Nat} {x : α} (h : xs[i]? = some x) : i < xs.length := (List.getElem?_eq_some_iff.mp h).1
theorem eq_int {Q : VK} {H : Hp} {a b : Int} (h : Q (.int a) H) (e : a = b) : Q (.int b) H := e ▸ h
theorem eq_bl {Q : VK} {H : Hp} {a b : Bool} (h : Q (.bl a) H) (e : a = b) : Q (.bl b) H := e ▸ h
theorem small {n : Nat} (h : n ≤ 1000000) : n < sizeLine := Nat.lt_of_le_of_lt h (by decide)
theorem smallE {n : Nat} (h : n ≤ 1000000) : n ≤ sizeLine := Nat.le_of_lt (small h)
theorem snoc_int {xs : List Int} {y : Int} {H : Hp} {p : Addr} (h : H p = some (.lst (xs.map V.int ++ [V.int y]))) : H p = some (.lst ((xs ++ [y]).map V.int)) := by
  rw [List.map_append]; exact h
theorem cat_int {xs ys : List Int} {H : Hp} {p : Addr} (h : H p = some (.lst (xs.map V.int ++ ys.map V.int))) : H p = some (.lst ((xs ++ ys).map V.int)) := by
  rw [List.map_append]; exact h
theorem cast_lst {xs ys : List Int} {H : Hp} {p : Addr} (h : H p = some (.lst (xs.map V.int))) (e : xs = ys) : H p = some (.lst (ys.map V.int)) := e ▸ h

/-! ### tests -/
theorem dT {p : Prop} [Decidable p] (h : decide p = true) : p := of_decide_eq_true h
theorem dF {p : Prop} [Decidable p] (h : ¬ decide p = true) : ¬ p := fun x => h (decide_eq_true x)
theorem iteD {p A B : Prop} [Decidable p] (h1 : p → A) (h2 : ¬ p → B) : if decide p = true then A else B := by
  by_cases h : p
  · rw [if_pos (decide_eq_true h)]; exact h1 h
  · rw [if_neg (fun x => h (of_decide_eq_true x))]; exact h2 h
theorem iteN {p A B : Prop} [Decidable p] (h1 : ¬ p → A) (h2 : p → B) : if (!decide p) = true then A else B := by
  by_cases h : p
  · rw [decide_eq_true h]; exact iteF (h2 h)
  · rw [decide_eq_false h]; exact iteT (h1 h)
theorem iteB {b : Bool} {A B : Prop} (h1 : b = true → A) (h2 : b = false → B) : if b = true then A else B := by
  cases b with
  | true => exact iteT (h1 rfl)
  | false => exact iteF (h2 rfl)
theorem iteBN {b : Bool} {A B : Prop} (h1 : b = false → A) (h2 : b = true → B) : if (!b) = true then A else B := by
  cases b with
  | true => exact iteF (h2 rfl)
  | false => exact iteT (h1 rfl)
theorem iteDT {p A B : Prop} [Decidable p] (h : p) (k : A) : if decide p = true then A else B := by
  rw [if_pos (decide_eq_true h)]; exact k
theorem iteDF {p A B : Prop} [Decidable p] (h : ¬ p) (k : B) : if decide p = true then A else B := by
  rw [if_neg (fun x => h (of_decide_eq_true x))]; exact k
theorem iteNT {p A B : Prop} [Decidable p] (h : ¬ p) (k : A) : if (!decide p) = true then A else B := iteN (fun _ => k) (fun x => (h x).elim)
theorem iteNF {p A B : Prop} [Decidable p] (h : p) (k : B) : if (!decide p) = true then A else B := iteN (fun x => (x h).elim) (fun _ => k)

/-! ### equality of lists of ints -/
theorem eqvAll_ints : ∀ xs ys : List Int, PyData.eqvAll (xs.map PyData.int) (ys.map PyData.int) = decide (xs = ys)
  | [], [] => by simp [PyData.eqvAll]
  | [], y :: ys => by simp [PyData.eqvAll]
  | x :: xs, [] => by simp [PyData.eqvAll]
  | x :: xs, y :: ys => by
    have ih := eqvAll_ints xs ys
    simp only [List.map_cons, PyData.eqvAll, PyData.eqv, ih]
    by_cases h : x = y <;> by_cases h2 : xs = ys <;> simp [h, h2]
end Vx

namespace Vx
open PySem PySem.Spec PyProof.Rows L2
section
variable {X : Cx}
def rEqLi (K : PySem.W.Frag) : R2 := fun x y H Q => ∃ (a b : Addr) (xs ys : List Int), x = .ref a ∧ y = .ref b ∧ SqL K H a (xs.map V.int) ∧ SqL K H b (ys.map V.int) ∧ Q (.bl (decide (xs = ys))) H
def rNeLi (K : PySem.W.Frag) : R2 := fun x y H Q => ∃ (a b : Addr) (xs ys : List Int), x = .ref a ∧ y = .ref b ∧ SqL K H a (xs.map V.int) ∧ SqL K H b (ys.map V.int) ∧ Q (.bl (!decide (xs = ys))) H
theorem dpAll_ints {K : PySem.W.Frag} {H : Hp} : ∀ xs : List Int, DpAll K H (xs.map V.int) (xs.map PyData.int)
  | [] => .nil
  | x :: xs => .cons (.int x) (dpAll_ints xs)
theorem dp_ints {K : PySem.W.Frag} {H : Hp} {a : Addr} {xs : List Int} (h : SqL K H a (xs.map V.int)) : Dp K H (.ref a) (.list (xs.map PyData.int)) := .lst h (dpAll_ints xs)
theorem canLay_ints : ∀ xs : List Int, PyData.canLayAll0 (xs.map PyData.int) = true
  | [] => by simp [PyData.canLayAll0]
  | x :: xs => by simp [PyData.canLayAll0, PyData.canLay0, canLay_ints xs]
theorem depth_ints : ∀ xs : List Int, PyData.depthAll (xs.map PyData.int) = 0
  | [] => by simp [PyData.depthAll]
  | x :: xs => by simp [PyData.depthAll, PyData.depth, depth_ints xs]
theorem shaped_ints (xs : List Int) : SeqAt.shaped (.list (xs.map PyData.int)) = true := by
  unfold SeqAt.shaped
  simp [PyData.canLay0, canLay_ints, PyData.depth, depth_ints]
theorem eqv_ints (xs ys : List Int) : PyData.eqv (.list (xs.map PyData.int)) (.list (ys.map PyData.int)) = decide (xs = ys) := by
  simp only [PyData.eqv]
  exact eqvAll_ints xs ys
theorem op_eqLi (hu : X.A.units + 64 < cLine) : OpR X (compareOp .Eq) (rEqLi X.K) := by
  intro pins s σ H x y v u Q I rx ry h
  obtain ⟨a, b, xs, ys, rfl, rfl, h1, h2, q⟩ := h
  exact op_eqD hu pins s σ H _ _ v u Q I rx ry ⟨_, _, dp_ints h1, dp_ints h2, shaped_ints xs, shaped_ints ys, by rw [eqv_ints]; exact q⟩
theorem op_neLi (hu : X.A.units + 64 < cLine) : OpR X (compareOp .NotEq) (rNeLi X.K) := by
  intro pins s σ H x y v u Q I rx ry h
  obtain ⟨a, b, xs, ys, rfl, rfl, h1, h2, q⟩ := h
  exact op_neD hu pins s σ H _ _ v u Q I rx ry ⟨_, _, dp_ints h1, dp_ints h2, shaped_ints xs, shaped_ints ys, by rw [eqv_ints]; exact q⟩

/-! ### items, slices, repetition, comprehensions of ints -/
def itI (xs : List Int) (i : Int) : Int := (atI xs i).getD 0
theorem atI_int {xs : List Int} {i : Int} (h : -(xs.length : Int) ≤ i ∧ i < xs.length) : atI (xs.map V.int) i = some (.int (itI xs i)) := by
  unfold itI atI
  rw [List.length_map]
  have hk : ∃ j, ixN xs.length i = some j ∧ j < xs.length := by
    unfold ixN
    by_cases h0 : 0 ≤ i
    · refine ⟨i.toNat, ?_, by omega⟩
      rw [if_pos h0, if_pos h.2]
    · refine ⟨(i + xs.length).toNat, ?_, by omega⟩
      rw [if_neg h0, if_pos h.1]
  obtain ⟨j, e, hj⟩ := hk
  rw [e]
  show (xs.map V.int)[j]? = some (V.int ((xs[j]?).getD 0))
  rw [List.getElem?_map, List.getElem?_eq_getElem hj] <;> rfl
def cutI (xs : List Int) (lo hi : Option Int) : List Int := (xs.drop (HT.sIx xs.length 0 lo)).take (HT.sIx xs.length xs.length hi - HT.sIx xs.length 0 lo)
theorem cut_int {xs : List Int} {lo hi : Option Int} {H : Hp} {p : Addr} (h : H p = some (.lst (cutV (xs.map V.int) lo hi))) : H p = some (.lst ((cutI xs lo hi).map V.int)) := by
  rw [h]
  unfold cutV cutI
  rw [List.length_map, List.map_take, List.map_drop]
def rep (xs : List Int) (k : Int) : List Int := (List.replicate k.toNat xs).flatten
theorem rep_int {xs : List Int} {k : Int} {H : Hp} {p : Addr} (h : H p = some (.lst (List.replicate k.toNat (xs.map V.int)).flatten)) : H p = some (.lst ((rep xs k).map V.int)) := by
  rw [h]
  unfold rep
  rw [List.map_flatten, List.map_replicate]
theorem divW_lit {i j : Int} (h : 0 < j) (h2 : j.natAbs.log2 < 9000) : CDivW i j := ⟨h, h2⟩
theorem divW_small {i j : Int} (h : 0 < j) (h2 : j < 2 ^ 128) : CDivW i j := wide_div h (show j.natAbs < 2 ^ 128 by omega) (by decide) (by decide)
theorem comp_list {xs : List Int} {i : Nat} {x y : Int} {f : Int → Int} {H : Hp} {D : Addr} (hi : xs[i]? = some x) (h : H D = some (.lst (((xs.take i).map f).map V.int ++ [V.int y]))) (e : f x = y) : H D = some (.lst (((xs.take (i + 1)).map f).map V.int)) := by
  rw [h, ← e, List.take_succ, hi, List.map_append, List.map_append] <;> rfl
theorem comp_done {xs : List Int} {f : Int → Int} {H : Hp} {D : Addr} (h : H D = some (.lst (((xs.take (xs.map V.int).length).map f).map V.int))) : H D = some (.lst ((xs.map f).map V.int)) := by
  rw [List.length_map, List.take_length] at h
  exact h
theorem comp_range {i : Nat} {y : Int} {f : Nat → Int} {H : Hp} {D : Addr} (h : H D = some (.lst (((List.range i).map f).map V.int ++ [V.int y]))) (e : f i = y) : H D = some (.lst (((List.range (i + 1)).map f).map V.int)) := by
  rw [h, ← e, List.range_succ, List.map_append, List.map_append] <;> rfl
theorem iteBT {b : Bool} {A B : Prop} (h : b = true) (k : A) : if b = true then A else B := by rw [if_pos h]; exact k
theorem iteBF {b : Bool} {A B : Prop} (h : b = false) (k : B) : if b = true then A else B := by rw [if_neg (by rw [h]; decide)]; exact k
theorem take_succ_get {α : Type} {xs : List α} {i : Nat} {x : α} (hi : xs[i]? = some x) : xs.take (i + 1) = xs.take i ++ [x] := by rw [List.take_succ, hi] <;> rfl
end

/-! ### defs of the module, as callers see them -/
section
variable {P : Program} {w : World} {K : PySem.W.Frag} {mg : Str → Option Value} {base : Heap}
structure DefIn (K : PySem.W.Frag) (mg : Str → Option Value) (x : Str) (st : Stmt) (ps : List Str) : Prop where
  ex : ∃ (f : Addr) (fd : FuncData), Fun K x x st f fd ∧ mg x = some (.ref f) ∧ Binds K fd ps []
structure Cal (P : Program) (w : World) (K : PySem.W.Frag) (mg : Str → Option Value) (base : Heap) (k : Nat) (x : Str) (sp : Sp) : Prop where
  ex : ∃ (f : Addr) (fd : FuncData) (ps : List Str), FnOk P w K mg base CX0 k f fd ps sp ∧ mg x = some (.ref f) ∧ PySem.W.keepIn K (.ref f) = true ∧ Binds K fd ps []
theorem DefIn.ok {x : Str} {st : Stmt} {N ps : List Str} {k : Nat} {sp : Sp} (D : DefIn K mg x st ps) (S : FnScope N ps (defScope st)) (len : ∀ vs H Q E, sp vs H Q E → vs.length = ps.length)
    (hbody : ∀ (f : Addr) (cdv : Value) (A : Around) (outer : List Env) (s : Shared) (H : Hp) (vs : List V) (Q : VK) (E : XK), Room k (A.deeper (envOfC x (defScope st) s.heap.objs.size f cdv)) → sp vs H Q E →
      ∃ t, PSs (cxOf CX0 P w K mg base N x (defScope st) f cdv A outer s H E).nox (defBody st) t ∧ t { nx := fun _ H' => Q .non H', rt := Q } (start N vs) H) : Cal P w K mg base (k + 1) x sp := by
  obtain ⟨f, fd, F, hm, b⟩ := D.ex
  exact ⟨f, fd, ps, F.ok S len (fun cdv A outer s H vs Q E hr h => hbody f cdv A outer s H vs Q E hr h), hm, F.kp, b⟩
end
section
variable {X : Cx} {k j : Nat} {x : Str} {sp : Sp} {p pos : Pos} {e : Expr} {es : List Expr} {t : TA}
theorem vx_call (c : Cal X.prog X.w X.K X.mg X.base k x sp) (hr : Room j X.A) (hk : k ≤ j) (hg : Gl X x) (ha : PA X (e :: es) t)
    (hdb : (x == ("__debug__" : Str)) = false := by decide) (he : starEach (e :: es) X.env = (false, eval e X.env) :: starEach es X.env := by rfl) (hpl : (backTo pos (starEach es X.env)).any (·.1) = false := by rfl) :
    PE X (.Call (.Name x p) (e :: es) [] pos) (tCall sp [] E0 t) := by
  obtain ⟨f, fd, ps, F, hm, kp, b⟩ := c.ex
  exact pe_call F (hr.mono hk) hg hm kp b .nil pass0 ha hdb he hpl
end
end Vx

namespace Vx
open PySem PySem.Spec PyProof.Rows L2
section
variable {σ : L2.St} {H : Hp} {ta tb : TE} {x y z : V} {t : TT}
theorem vv_and {a b : Bool} (h1 : Val ta σ H (.bl a)) (h2 : Val tb σ H (.bl b)) : Val (tAndV ta tb) σ H (.bl (a && b)) := fun Q q => h1 _ ⟨a, rfl, by
  cases a with
  | true => exact iteT (h2 Q q)
  | false => exact iteF q⟩
theorem vv_or {a b : Bool} (h1 : Val ta σ H (.bl a)) (h2 : Val tb σ H (.bl b)) : Val (tOrV ta tb) σ H (.bl (a || b)) := fun Q q => h1 _ ⟨a, rfl, by
  cases a with
  | true => exact iteT q
  | false => exact iteF (h2 Q q)⟩
theorem vv_not {a : Bool} (h1 : Val ta σ H (.bl a)) : Val (tNotV ta) σ H (.bl (!a)) := fun Q q => h1 _ ⟨a, rfl, q⟩
theorem vv_un {r : V → Hp → VK → Prop} (ha : Val ta σ H x) (hr : ∀ Q : VK, Q z H → r x H Q) : Val (tUn r ta) σ H z := fun Q q => ha _ (hr Q q)
theorem vv_cmp {p : Int → Int → Bool} (ha : Val ta σ H x) (hb : Val tb σ H y) (hr : ∀ Q : VK, Q z H → ∃ i j, x = .int i ∧ y = .int j ∧ Q (.bl (p i j)) H) : Val (tCmp p ta tb) σ H z := fun Q q => ha _ (hb _ (hr Q q))
theorem vv_call1 {r : List V → Hp → VK → Prop} (ha : Val ta σ H x) (hr : ∀ Q : VK, Q z H → r [x] H Q) : Val (tCB r (tCons ta tNil)) σ H z := fun Q q => ha _ (hr Q q)
theorem vt_cmp {b : Bool} (h : Val ta σ H (.bl b)) : Ans (tB ta) σ H b := fun Q q => h _ ⟨b, rfl, q⟩
theorem vt_val {b : Bool} (h : Val ta σ H (.bl b)) : Ans (tB ta) σ H b := fun Q q => h _ ⟨b, rfl, q⟩
theorem vt_int {i : Int} {K : PySem.W.Frag} (h : Val ta σ H (.int i)) : Ans (fun σ H Q => ta σ H fun x H' => ∃ k, TruV K x H' k ∧ Q k H') σ H (i != 0) := fun Q q => h _ ⟨_, rfl, q⟩
theorem vv_if {p : Prop} [Decidable p] {a b : Int} (ht : Ans t σ H (decide p)) (hx : Val ta σ H (.int a)) (hy : Val tb σ H (.int b)) : Val (tIf t ta tb) σ H (.int (if p then a else b)) := fun Q q => ht _ (by
  by_cases h : p
  · rw [if_pos h] at q; exact iteDT h (hx Q q)
  · rw [if_neg h] at q; exact iteDF h (hy Q q))
theorem vv_ifb {c : Bool} {a b : Int} (ht : Ans t σ H c) (hx : Val ta σ H (.int a)) (hy : Val tb σ H (.int b)) : Val (tIf t ta tb) σ H (.int (if c = true then a else b)) := fun Q q => ht _ (by
  cases c with
  | true => exact iteT (hx Q q)
  | false => exact iteF (hy Q q))
end
end Vx

namespace Vx
open PySem PySem.Spec PyProof.Rows L2
def rLenLi (K : PySem.W.Frag) : List V → Hp → VK → Prop := fun xs H Q => ∃ (p : Addr) (ns : List Int), xs = [.ref p] ∧ SqL K H p (ns.map V.int) ∧ Q (.int (ns.length : Int)) H
theorem call_lenLi {X : Cx} : CallR X (.builtin "len") (rLenLi X.K) := by
  intro pins s σ H xs us Q I r h
  obtain ⟨p, ns, rfl, hs, q⟩ := h
  exact call_len_seq pins s σ H _ us Q I r ⟨p, _, rfl, Or.inl hs, by rw [List.length_map]; exact q⟩
end Vx

namespace Vx
open PySem PySem.Spec PyProof.Rows L2
section
variable {X : Cx} {K : PySem.W.Frag}
theorem ix_listK (hK : X.K = K := by rfl) : IxR X (rIxL K) := hK ▸ ix_list
theorem sl_listK (hK : X.K = K := by rfl) : SlR X (rSlL K) := hK ▸ sl_list
theorem call_lenLiK (hK : X.K = K := by rfl) : CallR X (.builtin "len") (rLenLi K) := hK ▸ call_lenLi
theorem op_eqLiK (hu : X.A.units + 64 < cLine) (hK : X.K = K := by rfl) : OpR X (compareOp .Eq) (rEqLi K) := hK ▸ op_eqLi hu
theorem op_neLiK (hu : X.A.units + 64 < cLine) (hK : X.K = K := by rfl) : OpR X (compareOp .NotEq) (rNeLi K) := hK ▸ op_neLi hu
theorem pi_listK {tg l : Expr} {tl : TE} (hl : PE X l tl) (hK : X.K = K := by rfl) : PI X tg l (iList K tl) := hK ▸ pi_list hl
theorem cr_sumK (hc : X.calm = true) (hK : X.K = K := by rfl) : CallR X (.builtin "sum") (rSum K) := hK ▸ cr_sum hc
theorem cr_maxK (hc : X.calm = true) (hK : X.K = K := by rfl) : CallR X (.builtin "max") (rMax K) := hK ▸ cr_max hc
theorem cr_minK (hc : X.calm = true) (hK : X.K = K := by rfl) : CallR X (.builtin "min") (rMin K) := hK ▸ cr_min hc
end
end Vx

namespace Vx
open PySem PySem.Spec PyProof.Rows L2
theorem tyes_go {σ : L2.St} {H : Hp} {f g : Hp → Prop} (h : f H) : tYes σ H (fun b H3 => if b = true then f H3 else g H3) := by
  show if true = true then f H else g H
  exact iteT h
end Vx

/-! # second part: data of any depth, the stable heap G, the owned addresses O -/
namespace Vx
open PySem PySem.Spec PyProof.Rows L2
mutual
inductive Rp (H : Hp) : V → PyData → Prop
  | non : Rp H .non .none
  | bl (b : Bool) : Rp H (.bl b) (.bool b)
  | int (i : Int) : Rp H (.int i) (.int i)
  | str (x : Str) : Rp H (.str x) (.str x)
  | lst {a : Addr} {xs : List V} {ds : List PyData} : H a = some (.lst xs) → RpAll H xs ds → Rp H (.ref a) (.list ds)
  | tup {a : Addr} {xs : List V} {ds : List PyData} : H a = some (.tup xs) → RpAll H xs ds → Rp H (.ref a) (.tuple ds)
inductive RpAll (H : Hp) : List V → List PyData → Prop
  | nil : RpAll H [] []
  | cons {v : V} {vs : List V} {d : PyData} {ds : List PyData} : Rp H v d → RpAll H vs ds → RpAll H (v :: vs) (d :: ds)
end
mutual
theorem Rp.mono {H H' : Hp} (e : Same H H') : ∀ {v : V} {d : PyData}, Rp H v d → Rp H' v d
  | _, _, .non => .non
  | _, _, .bl b => .bl b
  | _, _, .int i => .int i
  | _, _, .str x => .str x
  | _, _, .lst h r => .lst (e _ _ h) (RpAll.mono e r)
  | _, _, .tup h r => .tup (e _ _ h) (RpAll.mono e r)
theorem RpAll.mono {H H' : Hp} (e : Same H H') : ∀ {vs : List V} {ds : List PyData}, RpAll H vs ds → RpAll H' vs ds
  | _, _, .nil => .nil
  | _, _, .cons a b => .cons (Rp.mono e a) (RpAll.mono e b)
end
mutual
theorem Rp.dp {K : PySem.W.Frag} {H : Hp} : ∀ {v : V} {d : PyData}, Rp H v d → Dp K H v d
  | _, _, .non => .non
  | _, _, .bl b => .bl b
  | _, _, .int i => .int i
  | _, _, .str x => .str x
  | _, _, .lst h r => .lst (SqL.of h) (RpAll.dp r)
  | _, _, .tup h r => .tup (SqT.of h) (RpAll.dp r)
theorem RpAll.dp {K : PySem.W.Frag} {H : Hp} : ∀ {vs : List V} {ds : List PyData}, RpAll H vs ds → DpAll K H vs ds
  | _, _, .nil => .nil
  | _, _, .cons a b => .cons (Rp.dp a) (RpAll.dp b)
end
theorem RpAll.append {H : Hp} : ∀ {xs ys : List V} {ds es : List PyData}, RpAll H xs ds → RpAll H ys es → RpAll H (xs ++ ys) (ds ++ es)
  | _, _, _, _, .nil, s => s
  | _, _, _, _, .cons r t, s => .cons r (RpAll.append t s)
theorem RpAll.ints {H : Hp} : ∀ xs : List Int, RpAll H (xs.map V.int) (xs.map PyData.int)
  | [] => .nil
  | x :: xs => .cons (.int x) (RpAll.ints xs)
theorem RpAll.bls {H : Hp} : ∀ xs : List Bool, RpAll H (xs.map V.bl) (xs.map PyData.bool)
  | [] => .nil
  | x :: xs => .cons (.bl x) (RpAll.bls xs)
theorem RpAll.one {H : Hp} {v : V} {d : PyData} (h : Rp H v d) : RpAll H [v] [d] := .cons h .nil
theorem RpAll.len {H : Hp} : ∀ {vs : List V} {ds : List PyData}, RpAll H vs ds → vs.length = ds.length
  | _, _, .nil => rfl
  | _, _, .cons _ t => by rw [List.length_cons, List.length_cons, RpAll.len t]
theorem RpAll.at {H : Hp} : ∀ {vs : List V} {ds : List PyData} {i : Nat} {v : V}, RpAll H vs ds → vs[i]? = some v → ∃ d, ds[i]? = some d ∧ Rp H v d
  | _, _, _, _, .nil, h => by simp at h
  | _, _, 0, _, .cons r _, h => by
    simp at h
    subst h
    exact ⟨_, rfl, r⟩
  | _, _, i + 1, _, .cons _ t, h => by
    obtain ⟨d, h1, h2⟩ := RpAll.at (i := i) t (by simpa using h)
    exact ⟨d, by simpa using h1, h2⟩
theorem RpAll.at' {H : Hp} : ∀ {vs : List V} {ds : List PyData} {i : Nat} {d : PyData}, RpAll H vs ds → ds[i]? = some d → ∃ v, vs[i]? = some v ∧ Rp H v d
  | _, _, _, _, .nil, h => by simp at h
  | _, _, 0, _, .cons r _, h => by
    simp at h
    subst h
    exact ⟨_, rfl, r⟩
  | _, _, i + 1, _, .cons _ t, h => by
    obtain ⟨v, h1, h2⟩ := RpAll.at' (i := i) t (by simpa using h)
    exact ⟨v, by simpa using h1, h2⟩
theorem RpAll.take {H : Hp} : ∀ (n : Nat) {vs : List V} {ds : List PyData}, RpAll H vs ds → RpAll H (vs.take n) (ds.take n)
  | 0, _, _, _ => by simpa using RpAll.nil
  | n + 1, _, _, .nil => by simpa using RpAll.nil
  | n + 1, _, _, .cons r t => .cons r (RpAll.take n t)
theorem RpAll.drop {H : Hp} : ∀ (n : Nat) {vs : List V} {ds : List PyData}, RpAll H vs ds → RpAll H (vs.drop n) (ds.drop n)
  | 0, _, _, r => r
  | n + 1, _, _, .nil => by simpa using RpAll.nil
  | n + 1, _, _, .cons r t => RpAll.drop n t
theorem RpAll.set {H : Hp} {v : V} {d : PyData} (h : Rp H v d) : ∀ (n : Nat) {vs : List V} {ds : List PyData}, RpAll H vs ds → RpAll H (vs.set n v) (ds.set n d)
  | _, _, _, .nil => .nil
  | 0, _, _, .cons _ t => .cons h t
  | n + 1, _, _, .cons r t => .cons r (RpAll.set h n t)
theorem RpAll.rep {H : Hp} {vs : List V} {ds : List PyData} (h : RpAll H vs ds) : ∀ n : Nat, RpAll H (List.replicate n vs).flatten (List.replicate n ds).flatten
  | 0 => by simpa using RpAll.nil
  | n + 1 => by
    rw [List.replicate_succ, List.flatten_cons, List.replicate_succ, List.flatten_cons]
    exact RpAll.append h (RpAll.rep h n)
theorem RpAll.get {α : Type} {f : α → PyData} {H : Hp} {vs : List V} {xs : List α} {i : Nat} {v : V} (r : RpAll H vs (xs.map f)) (h : vs[i]? = some v) : ∃ x, xs[i]? = some x ∧ Rp H v (f x) := by
  obtain ⟨d, h1, h2⟩ := RpAll.at r h
  rw [List.getElem?_map] at h1
  cases e : xs[i]? with
  | none => rw [e] at h1; cases h1
  | some x =>
    rw [e] at h1
    have : f x = d := Option.some.inj h1
    exact ⟨x, rfl, this ▸ h2⟩
/-- the item at an index, data -/
theorem RpAll.ix {α : Type} {f : α → PyData} {H : Hp} {vs : List V} {xs : List α} {k : Int} (r : RpAll H vs (xs.map f)) (h : -(xs.length : Int) ≤ k ∧ k < xs.length) : ∃ v x, atI vs k = some v ∧ atI xs k = some x ∧ Rp H v (f x) := by
  have hl : vs.length = xs.length := by rw [r.len, List.length_map]
  have hk : ∃ j, ixN xs.length k = some j ∧ j < xs.length := by
    unfold ixN
    by_cases h0 : 0 ≤ k
    · refine ⟨k.toNat, ?_, by omega⟩
      rw [if_pos h0, if_pos h.2]
    · refine ⟨(k + xs.length).toNat, ?_, by omega⟩
      rw [if_neg h0, if_pos h.1]
  obtain ⟨j, e, hj⟩ := hk
  have hx := List.getElem?_eq_getElem hj
  obtain ⟨v, h1, h2⟩ := RpAll.at' (i := j) (d := f xs[j]) r (by rw [List.getElem?_map, hx] <;> rfl)
  refine ⟨v, xs[j], ?_, ?_, h2⟩
  · unfold atI
    rw [hl, e]
    exact h1
  · unfold atI
    rw [e]
    exact hx

/-! ### types -/
def encL {α : Type} (f : α → PyData) (xs : List α) : PyData := .list (xs.map f)
def encT2 {α β : Type} (f : α → PyData) (g : β → PyData) (p : α × β) : PyData := .tuple [f p.1, g p.2]
def encT3 {α β γ : Type} (f : α → PyData) (g : β → PyData) (h : γ → PyData) (p : α × β × γ) : PyData := .tuple [f p.1, g p.2.1, h p.2.2]
def encT4 {α β γ δ : Type} (f : α → PyData) (g : β → PyData) (h : γ → PyData) (i : δ → PyData) (p : α × β × γ × δ) : PyData := .tuple [f p.1, g p.2.1, h p.2.2.1, i p.2.2.2]
structure EncOk {α : Type} [DecidableEq α] (n : Nat) (f : α → PyData) : Prop where
  lay : ∀ x, PyData.canLay0 (f x) = true
  dep : ∀ x, PyData.depth (f x) ≤ n
  eqv : ∀ x y, PyData.eqv (f x) (f y) = decide (x = y)
theorem encOk_int : EncOk 0 PyData.int := ⟨fun _ => by simp [PyData.canLay0], fun _ => by simp [PyData.depth], fun x y => by simp [PyData.eqv]; by_cases h : x = y <;> simp [h]⟩
theorem encOk_bool : EncOk 0 PyData.bool := ⟨fun _ => by simp [PyData.canLay0], fun _ => by simp [PyData.depth], fun x y => by cases x <;> cases y <;> simp [PyData.eqv]⟩
section
variable {α β γ δ : Type} [DecidableEq α] [DecidableEq β] [DecidableEq γ] [DecidableEq δ] {n m l o : Nat} {f : α → PyData} {g : β → PyData} {h : γ → PyData} {i : δ → PyData}
theorem lay_map (ok : EncOk n f) : ∀ xs : List α, PyData.canLayAll0 (xs.map f) = true
  | [] => by simp [PyData.canLayAll0]
  | x :: xs => by simp [PyData.canLayAll0, ok.lay x, lay_map ok xs]
theorem dep_map (ok : EncOk n f) : ∀ xs : List α, PyData.depthAll (xs.map f) ≤ n
  | [] => by simp [PyData.depthAll]
  | x :: xs => by
    have h1 := ok.dep x
    have h2 := dep_map ok xs
    simp only [List.map_cons, PyData.depthAll]
    omega
theorem eqv_map (ok : EncOk n f) : ∀ xs ys : List α, PyData.eqvAll (xs.map f) (ys.map f) = decide (xs = ys)
  | [], [] => by simp [PyData.eqvAll]
  | [], y :: ys => by simp [PyData.eqvAll]
  | x :: xs, [] => by simp [PyData.eqvAll]
  | x :: xs, y :: ys => by
    have ih := eqv_map ok xs ys
    simp only [List.map_cons, PyData.eqvAll, ok.eqv, ih]
    by_cases h : x = y <;> by_cases h2 : xs = ys <;> simp [h, h2]
theorem encOk_L (ok : EncOk n f) : EncOk (n + 1) (encL f) := ⟨fun xs => by simp [encL, PyData.canLay0, lay_map ok], fun xs => by
  have := dep_map ok xs
  simp only [encL, PyData.depth]
  omega, fun xs ys => by simp only [encL, PyData.eqv]; exact eqv_map ok xs ys⟩
theorem encOk_T2 (ok : EncOk n f) (ok2 : EncOk m g) : EncOk (max n m + 1) (encT2 f g) := ⟨fun x => by simp [encT2, PyData.canLay0, PyData.canLayAll0, ok.lay, ok2.lay], fun x => by
  have h1 := ok.dep x.1
  have h2 := ok2.dep x.2
  simp only [encT2, PyData.depth, PyData.depthAll]
  omega, fun x y => by
  obtain ⟨a, b⟩ := x
  obtain ⟨c, d⟩ := y
  simp only [encT2, PyData.eqv, PyData.eqvAll, ok.eqv, ok2.eqv, Prod.mk.injEq]
  by_cases h1 : a = c <;> by_cases h2 : b = d <;> simp [h1, h2]⟩
theorem encOk_T3 (ok : EncOk n f) (ok2 : EncOk m g) (ok3 : EncOk l h) : EncOk (max n (max m l) + 1) (encT3 f g h) := ⟨fun x => by simp [encT3, PyData.canLay0, PyData.canLayAll0, ok.lay, ok2.lay, ok3.lay], fun x => by
  have h1 := ok.dep x.1
  have h2 := ok2.dep x.2.1
  have h3 := ok3.dep x.2.2
  simp only [encT3, PyData.depth, PyData.depthAll]
  omega, fun x y => by
  obtain ⟨a, b, e⟩ := x
  obtain ⟨c, d, e'⟩ := y
  simp only [encT3, PyData.eqv, PyData.eqvAll, ok.eqv, ok2.eqv, ok3.eqv, Prod.mk.injEq]
  by_cases h1 : a = c <;> by_cases h2 : b = d <;> by_cases h3 : e = e' <;> simp [h1, h2, h3]⟩
theorem encOk_T4 (ok : EncOk n f) (ok2 : EncOk m g) (ok3 : EncOk l h) (ok4 : EncOk o i) : EncOk (max n (max m (max l o)) + 1) (encT4 f g h i) := ⟨fun x => by simp [encT4, PyData.canLay0, PyData.canLayAll0, ok.lay, ok2.lay, ok3.lay, ok4.lay], fun x => by
  have h1 := ok.dep x.1
  have h2 := ok2.dep x.2.1
  have h3 := ok3.dep x.2.2.1
  have h4 := ok4.dep x.2.2.2
  simp only [encT4, PyData.depth, PyData.depthAll]
  omega, fun x y => by
  obtain ⟨a, b, e, u⟩ := x
  obtain ⟨c, d, e', u'⟩ := y
  simp only [encT4, PyData.eqv, PyData.eqvAll, ok.eqv, ok2.eqv, ok3.eqv, ok4.eqv, Prod.mk.injEq]
  by_cases h1 : a = c <;> by_cases h2 : b = d <;> by_cases h3 : e = e' <;> by_cases h4 : u = u' <;> simp [h1, h2, h3, h4]⟩
end
section
variable {X : Cx} {α : Type} [DecidableEq α] {n : Nat} {f : α → PyData}
def rEqT (f : α → PyData) : R2 := fun x y H Q => ∃ (a b : α), Rp H x (f a) ∧ Rp H y (f b) ∧ Q (.bl (decide (a = b))) H
def rNeT (f : α → PyData) : R2 := fun x y H Q => ∃ (a b : α), Rp H x (f a) ∧ Rp H y (f b) ∧ Q (.bl (!decide (a = b))) H
theorem shaped_of (ok : EncOk n f) (hn : n ≤ 64) (a : α) : SeqAt.shaped (f a) = true := by
  unfold SeqAt.shaped
  have h := ok.dep a
  rw [ok.lay]
  simp
  omega
theorem op_eqT (ok : EncOk n f) (hu : X.A.units + 64 < cLine) (hn : n ≤ 64 := by decide) : OpR X (compareOp .Eq) (rEqT f) := by
  intro pins s σ H x y v u Q I rx ry h
  obtain ⟨a, b, h1, h2, q⟩ := h
  exact op_eqD hu pins s σ H _ _ v u Q I rx ry ⟨_, _, h1.dp, h2.dp, shaped_of ok hn a, shaped_of ok hn b, by rw [ok.eqv]; exact q⟩
theorem op_neT (ok : EncOk n f) (hu : X.A.units + 64 < cLine) (hn : n ≤ 64 := by decide) : OpR X (compareOp .NotEq) (rNeT f) := by
  intro pins s σ H x y v u Q I rx ry h
  obtain ⟨a, b, h1, h2, q⟩ := h
  exact op_neD hu pins s σ H _ _ v u Q I rx ry ⟨_, _, h1.dp, h2.dp, shaped_of ok hn a, shaped_of ok hn b, by rw [ok.eqv]; exact q⟩
end
section
variable {H : Hp} {v : V} {α β γ δ : Type} {f : α → PyData} {g : β → PyData} {h : γ → PyData} {i : δ → PyData}
theorem rp_int {x : Int} (r : Rp H v (.int x)) : v = .int x := by cases r; rfl
theorem rp_bool {x : Bool} (r : Rp H v (.bool x)) : v = .bl x := by cases r; rfl
theorem rp_str {x : Str} (r : Rp H v (.str x)) : v = .str x := by cases r; rfl
theorem rp_list {xs : List α} (r : Rp H v (encL f xs)) : ∃ a vs, v = .ref a ∧ H a = some (.lst vs) ∧ RpAll H vs (xs.map f) := by
  unfold encL at r
  cases r with
  | lst h1 h2 => exact ⟨_, _, rfl, h1, h2⟩
theorem rpAll_ints : ∀ {vs : List V} {xs : List Int}, RpAll H vs (xs.map PyData.int) → vs = xs.map V.int
  | _, [], .nil => rfl
  | _, x :: xs, .cons r t => by rw [rp_int r, rpAll_ints t] <;> rfl
theorem rp_ints {xs : List Int} (r : Rp H v (encL PyData.int xs)) : ∃ a, v = .ref a ∧ H a = some (.lst (xs.map V.int)) := by
  obtain ⟨a, vs, e, h1, h2⟩ := rp_list r
  rw [rpAll_ints h2] at h1
  exact ⟨a, e, h1⟩
theorem rp_tup2 {x : α × β} (r : Rp H v (encT2 f g x)) : ∃ a v1 v2, v = .ref a ∧ H a = some (.tup [v1, v2]) ∧ Rp H v1 (f x.1) ∧ Rp H v2 (g x.2) := by
  unfold encT2 at r
  cases r with
  | tup h1 h2 =>
    cases h2 with
    | cons a b =>
      cases b with
      | cons b c =>
        cases c
        exact ⟨_, _, _, rfl, h1, a, b⟩
theorem rp_tup3 {x : α × β × γ} (r : Rp H v (encT3 f g h x)) : ∃ a v1 v2 v3, v = .ref a ∧ H a = some (.tup [v1, v2, v3]) ∧ Rp H v1 (f x.1) ∧ Rp H v2 (g x.2.1) ∧ Rp H v3 (h x.2.2) := by
  unfold encT3 at r
  cases r with
  | tup h1 h2 =>
    cases h2 with
    | cons a b =>
      cases b with
      | cons b c =>
        cases c with
        | cons c d =>
          cases d
          exact ⟨_, _, _, _, rfl, h1, a, b, c⟩
theorem rp_mk_list {a : Addr} {vs : List V} {xs : List α} (h1 : H a = some (.lst vs)) (h2 : RpAll H vs (xs.map f)) : Rp H (.ref a) (encL f xs) := .lst h1 h2
theorem rp_mk_ints {a : Addr} {xs : List Int} (h1 : H a = some (.lst (xs.map V.int))) : Rp H (.ref a) (encL PyData.int xs) := .lst h1 (RpAll.ints xs)
theorem rp_mk2 {a : Addr} {v1 v2 : V} {x : α} {y : β} (h1 : H a = some (.tup [v1, v2])) (r1 : Rp H v1 (f x)) (r2 : Rp H v2 (g y)) : Rp H (.ref a) (encT2 f g (x, y)) := .tup h1 (.cons r1 (.cons r2 .nil))
theorem rp_mk3 {a : Addr} {v1 v2 v3 : V} {x : α} {y : β} {z : γ} (h1 : H a = some (.tup [v1, v2, v3])) (r1 : Rp H v1 (f x)) (r2 : Rp H v2 (g y)) (r3 : Rp H v3 (h z)) : Rp H (.ref a) (encT3 f g h (x, y, z)) := .tup h1 (.cons r1 (.cons r2 (.cons r3 .nil)))
end

/-! ### the two heaps -/
def SameXs (L : List Addr) (H H' : Hp) : Prop := ∀ b o, H b = some o → b ∉ L → H' b = some o
theorem SameXs.of {H H' : Hp} {m : Addr} (x : SameX m H H') : SameXs [m] H H' := fun b o e n => x b o e (fun z => n (by rw [z]; exact List.mem_cons_self))
theorem ni1 {b m : Addr} (h : b ≠ m) : b ∉ [m] := by simpa using h
theorem ni2 {b m n : Addr} (h : b ≠ m) (h2 : b ≠ n) : b ∉ [m, n] := by simp [h, h2]
theorem ni3 {b m n o : Addr} (h : b ≠ m) (h2 : b ≠ n) (h3 : b ≠ o) : b ∉ [m, n, o] := by simp [h, h2, h3]
theorem ni4 {b m n o p : Addr} (h : b ≠ m) (h2 : b ≠ n) (h3 : b ≠ o) (h4 : b ≠ p) : b ∉ [m, n, o, p] := by simp [h, h2, h3, h4]
def hideL (L : List Addr) (H : Hp) : Hp := fun b => if b ∈ L then none else H b
theorem hideL_same (L : List Addr) (H : Hp) : Same (hideL L H) H := fun b o e => by
  unfold hideL at e
  split at e
  · cases e
  · exact e
theorem hideL_in {L : List Addr} {H : Hp} {b : Addr} (h : b ∈ L) : hideL L H b = none := if_pos h
theorem hideL_out {L : List Addr} {H : Hp} {b : Addr} (h : b ∉ L) : hideL L H b = H b := if_neg h
/-- M: owned from outside; H0, G0: at the entry; G: what stays as it is; O: what may change -/
structure Sep (M : List Addr) (H0 G0 G H : Hp) (O : List Addr) : Prop where
  base : SameXs M H0 H
  pm : ∀ a ∈ M, H a ≠ none
  sG : Same G H
  g0 : Same G0 G
  gn : ∀ b, H0 b ≠ none → G0 b = none → G b = none
  ow : ∀ a ∈ O, G a = none ∧ H a ≠ none ∧ (a ∈ M ∨ H0 a = none)
theorem all_nil {P : Addr → Prop} : ∀ x ∈ ([] : List Addr), P x := fun x h => by cases h
theorem all_cons {P : Addr → Prop} {a : Addr} {l : List Addr} (h : P a) (t : ∀ x ∈ l, P x) : ∀ x ∈ a :: l, P x := fun x hx => by
  cases hx with
  | head => exact h
  | tail _ hx => exact t x hx
theorem some_ne {H : Hp} {a : Addr} {o : HO} (h : H a = some o) : H a ≠ none := by
  rw [h]
  exact fun z => nomatch z
theorem same_ne {H H' : Hp} {a : Addr} (e : Same H H') (h : H a ≠ none) : H' a ≠ none := by
  cases q : H a with
  | none => exact absurd q h
  | some o => exact some_ne (e a o q)
section
variable {M : List Addr} {H0 G0 G H H' : Hp} {O : List Addr} {p m : Addr} {o : HO}
theorem Sep.start (M : List Addr) (H : Hp) (hM : ∀ a ∈ M, H a ≠ none) : Sep M H (hideL M H) (hideL M H) H M :=
  ⟨fun _ _ e _ => e, hM, hideL_same M H, Same.refl _, fun _ _ e => e, fun a ha => ⟨hideL_in ha, hM a ha, .inl ha⟩⟩
theorem Sep.startG {G H : Hp} (e : Same G H) : Sep [] H G G H [] := ⟨fun _ _ e _ => e, all_nil, e, Same.refl _, fun _ _ e => e, fun a ha => by cases ha⟩
theorem Sep.start0 (H : Hp) : Sep [] H H H H [] := Sep.startG (Same.refl H)
theorem Sep.b0 (S : Sep [] H0 G0 G H O) : Same H0 H := fun b o e => S.base b o e List.not_mem_nil
theorem Sep.free (S : Sep M H0 G0 G H O) {q : Addr} (n : H q = none) : H0 q = none := by
  cases e : H0 q with
  | none => rfl
  | some o =>
    by_cases h : q ∈ M
    · exact absurd n (S.pm q h)
    · rw [S.base q o e h] at n
      cases n
theorem Sep.same (S : Sep M H0 G0 G H O) (e : Same H H') : Sep M H0 G0 G H' O :=
  ⟨fun b o h n => e b o (S.base b o h n), fun a ha => same_ne e (S.pm a ha), S.sG.trans e, S.g0, S.gn, fun a ha => ⟨(S.ow a ha).1, same_ne e (S.ow a ha).2.1, (S.ow a ha).2.2⟩⟩
theorem Sep.gfree (S : Sep M H0 G0 G H O) {q : Addr} (n : H q = none) : G q = none := by
  cases e : G q with
  | none => rfl
  | some o => rw [S.sG q o e] at n; cases n
theorem Sep.new (S : Sep M H0 G0 G H O) (n : H p = none) (e : Same H H') (h : H' p = some o) (hm : H0 p = none) : Sep M H0 G0 G H' (p :: O) := by
  have S1 := S.same e
  refine ⟨S1.base, S1.pm, S1.sG, S1.g0, S1.gn, fun a ha => ?_⟩
  cases ha with
  | head => exact ⟨S.gfree n, some_ne h, .inr hm⟩
  | tail _ ha => exact S1.ow a ha
theorem Sep.grow (S : Sep M H0 G0 G H O) (n : H p = none) (e : Same H H') (h : H' p = some o) (hm : H0 p = none) : ∃ G', Same G G' ∧ G' p = some o ∧ Sep M H0 G0 G' H' O := by
  have S1 := S.same e
  have ng := S.gfree n
  refine ⟨upd G p o, fun b u q => by rw [upd_ne (ne_of_none q ng)]; exact q, upd_same, S1.base, S1.pm, fun b u q => ?_, fun b u q => ?_, fun b hb gb => ?_, fun a ha => ?_⟩
  · by_cases z : b = p
    · subst z
      rw [upd_same] at q
      exact q ▸ h
    · rw [upd_ne z] at q
      exact S1.sG b u q
  · have := S.g0 b u q
    rw [upd_ne (ne_of_none this ng)]
    exact this
  · by_cases z : b = p
    · subst z
      exact absurd hm hb
    · rw [upd_ne z]
      exact S.gn b hb gb
  · have hne : a ≠ p := fun z => (S.ow a ha).2.1 (by rw [z]; exact n)
    rw [upd_ne hne]
    exact S1.ow a ha
theorem Sep.mut (S : Sep M H0 G0 G H O) {L : List Addr} (x : SameXs L H H') (hL : ∀ a ∈ L, a ∈ O) (hs : ∀ a ∈ L, H' a ≠ none) : Sep M H0 G0 G H' O := by
  have keep : ∀ a, H a ≠ none → H' a ≠ none := fun a h => by
    by_cases hb : a ∈ L
    · exact hs a hb
    · cases q : H a with
      | none => exact absurd q h
      | some o => exact some_ne (x a o q hb)
  refine ⟨fun b o e n => ?_, fun a ha => keep a (S.pm a ha), fun b o e => ?_, S.g0, S.gn, fun a ha => ⟨(S.ow a ha).1, keep a (S.ow a ha).2.1, (S.ow a ha).2.2⟩⟩
  · refine x b o (S.base b o e n) fun hb => ?_
    rcases (S.ow b (hL b hb)).2.2 with z | z
    · exact n z
    · rw [e] at z; cases z
  · refine x b o (S.sG b o e) fun hb => ?_
    have := (S.ow b (hL b hb)).1
    rw [e] at this
    cases this
theorem Sep.mut1 (S : Sep M H0 G0 G H O) (x : SameX m H H') (hm : m ∈ O) (h : H' m = some o) : Sep M H0 G0 G H' O :=
  S.mut (SameXs.of x) (all_cons hm all_nil) (all_cons (some_ne h) all_nil)
theorem Sep.sub (S : Sep M H0 G0 G H O) {O' : List Addr} (h : ∀ a ∈ O', a ∈ O) : Sep M H0 G0 G H O' := ⟨S.base, S.pm, S.sG, S.g0, S.gn, fun a ha => S.ow a (h a ha)⟩
/-- what was owned and is to stay as it is from now on -/
theorem Sep.freeze (S : Sep M H0 G0 G H O) {O' : List Addr} (hp : p ∈ O) (h : H p = some o) (hm : H0 p = none) (hO : ∀ a ∈ O', a ∈ O ∧ a ≠ p) : ∃ G', Same G G' ∧ G' p = some o ∧ Sep M H0 G0 G' H O' := by
  have ng := (S.ow p hp).1
  refine ⟨upd G p o, fun b u q => by rw [upd_ne (ne_of_none q ng)]; exact q, upd_same, S.base, S.pm, fun b u q => ?_, fun b u q => ?_, fun b hb gb => ?_, fun a ha => ?_⟩
  · by_cases z : b = p
    · subst z
      rw [upd_same] at q
      exact q ▸ h
    · rw [upd_ne z] at q
      exact S.sG b u q
  · have := S.g0 b u q
    rw [upd_ne (ne_of_none this ng)]
    exact this
  · by_cases z : b = p
    · subst z
      exact absurd hm hb
    · rw [upd_ne z]
      exact S.gn b hb gb
  · rw [upd_ne (hO a ha).2]
    exact S.ow a (hO a ha).1
/-- a callee that hands on data in a stable heap of its own -/
theorem Sep.step (S : Sep M H0 G0 G H O) {G' : Hp} (e : Same H H') (eG : Same G G') (sG : Same G' H') (hn : ∀ b, H b ≠ none → G b = none → G' b = none) : Sep M H0 G0 G' H' O := by
  have S1 := S.same e
  refine ⟨S1.base, S1.pm, sG, S.g0.trans eG, fun b hb gb => ?_, fun a ha => ⟨hn a (S.ow a ha).2.1 (S.ow a ha).1, (S1.ow a ha).2⟩⟩
  refine hn b (fun z => ?_) (S.gn b hb gb)
  exact hb (S.free z)
theorem Sep.hid (S : Sep M H0 G0 G H O) {L : List Addr} (h : ∀ a ∈ L, a ∈ O) : Same G (hideL L H) := fun b o e => by
  rw [hideL_out fun z => by
    have := (S.ow b (h b z)).1
    rw [e] at this
    cases this]
  exact S.sG b o e
end
end Vx

namespace Vx
open PySem PySem.Spec PyProof.Rows L2
/-! ### lists of plain things (f : V.int, V.bl, V.str) -/
section
variable {α : Type} {f : α → V} {H : Hp} {p : Addr}
theorem cat_map {xs ys : List α} (h : H p = some (.lst (xs.map f ++ ys.map f))) : H p = some (.lst ((xs ++ ys).map f)) := by
  rw [List.map_append]; exact h
theorem snoc_map {xs : List α} {y : α} (h : H p = some (.lst (xs.map f ++ [f y]))) : H p = some (.lst ((xs ++ [y]).map f)) := by
  rw [List.map_append]; exact h
def repL (xs : List α) (k : Int) : List α := (List.replicate k.toNat xs).flatten
theorem rep_map {xs : List α} {k : Int} (h : H p = some (.lst (List.replicate k.toNat (xs.map f)).flatten)) : H p = some (.lst ((repL xs k).map f)) := by
  rw [h]
  unfold repL
  rw [List.map_flatten, List.map_replicate]
def cutL (xs : List α) (lo hi : Option Int) : List α := (xs.drop (HT.sIx xs.length 0 lo)).take (HT.sIx xs.length xs.length hi - HT.sIx xs.length 0 lo)
theorem cut_map {xs : List α} {lo hi : Option Int} (h : H p = some (.lst (cutV (xs.map f) lo hi))) : H p = some (.lst ((cutL xs lo hi).map f)) := by
  rw [h]
  unfold cutV cutL
  rw [List.length_map, List.map_take, List.map_drop]
theorem cast_map {xs ys : List α} (h : H p = some (.lst (xs.map f))) (e : xs = ys) : H p = some (.lst (ys.map f)) := e ▸ h
theorem drop_map {xs : List α} (h : H p = some (.lst (xs.map f).dropLast)) : H p = some (.lst (xs.dropLast.map f)) := by
  rw [h, List.map_dropLast]
theorem ixN_some {n : Nat} {k : Int} (h : -(n : Int) ≤ k ∧ k < n) : ∃ j, ixN n k = some j ∧ j < n := by
  unfold ixN
  by_cases h0 : 0 ≤ k
  · exact ⟨k.toNat, by rw [if_pos h0, if_pos h.2], by omega⟩
  · exact ⟨(k + n).toNat, by rw [if_neg h0, if_pos h.1], by omega⟩
def itD [Inhabited α] (xs : List α) (k : Int) : α := (atI xs k).getD default
theorem atI_map [Inhabited α] {xs : List α} {k : Int} (h : -(xs.length : Int) ≤ k ∧ k < xs.length) : atI (xs.map f) k = some (f (itD xs k)) := by
  obtain ⟨j, e, hj⟩ := ixN_some h
  unfold itD atI
  rw [List.length_map, e]
  show (xs.map f)[j]? = some (f ((xs[j]?).getD default))
  rw [List.getElem?_map, List.getElem?_eq_getElem hj] <;> rfl
def setL (xs : List α) (k : Int) (y : α) : List α := xs.set ((ixN xs.length k).getD 0) y
theorem ixN_map {xs : List α} {k : Int} (h : -(xs.length : Int) ≤ k ∧ k < xs.length) : ixN (xs.map f).length k = some ((ixN xs.length k).getD 0) := by
  obtain ⟨j, e, hj⟩ := ixN_some h
  rw [List.length_map, e] <;> rfl
theorem set_map {xs : List α} {k : Int} {y : α} (h : H p = some (.lst ((xs.map f).set ((ixN xs.length k).getD 0) (f y)))) : H p = some (.lst ((setL xs k y).map f)) := by
  rw [h]
  unfold setL
  rw [List.map_set]
def lastD [Inhabited α] (xs : List α) : α := xs.getLastD default
theorem pop_map [Inhabited α] {xs : List α} (h : xs ≠ []) : (xs.map f)[(xs.map f).length - 1]? = some (f (lastD xs)) := by
  rw [← List.getLast?_eq_getElem?, List.getLast?_map]
  unfold lastD
  cases e : xs.getLast? with
  | none => exact absurd (List.getLast?_eq_none_iff.mp e) h
  | some y =>
    rw [List.getLastD_eq_getLast?, e] <;> rfl
end
/-! ### lists of data -/
section
variable {α β : Type} {f : α → PyData} {g : β → PyData} {G : Hp} {vs ws : List V} {xs ys : List α}
theorem app_map (a : RpAll G vs (xs.map f)) (b : RpAll G ws (ys.map f)) : RpAll G (vs ++ ws) ((xs ++ ys).map f) := by
  rw [List.map_append]; exact a.append b
theorem one_map {v : V} {y : α} (a : RpAll G vs (xs.map f)) (b : Rp G v (f y)) : RpAll G (vs ++ [v]) ((xs ++ [y]).map f) := by
  rw [List.map_append]; exact a.append (.one b)
theorem rep_all (k : Int) (a : RpAll G vs (xs.map f)) : RpAll G (List.replicate k.toNat vs).flatten ((repL xs k).map f) := by
  unfold repL
  rw [List.map_flatten, List.map_replicate]
  exact a.rep _
theorem cut_all (lo hi : Option Int) (a : RpAll G vs (xs.map f)) : RpAll G (cutV vs lo hi) ((cutL xs lo hi).map f) := by
  unfold cutV cutL
  rw [a.len, List.length_map, List.map_take, List.map_drop]
  exact (a.drop _).take _
theorem rp_cast {v : V} {d e : PyData} (r : Rp G v d) (h : d = e) : Rp G v e := h ▸ r
theorem comp_listD {i : Nat} {x : α} {y : β} {v : V} {h : α → β} (hi : xs[i]? = some x) (a : RpAll G vs (((xs.take i).map h).map g)) (r : Rp G v (g y)) (e : h x = y) : RpAll G (vs ++ [v]) (((xs.take (i + 1)).map h).map g) := by
  rw [take_succ_get hi, List.map_append, List.map_append]
  exact a.append (.one (e ▸ r))
theorem comp_rangeD {i : Nat} {y : β} {v : V} {h : Nat → β} (a : RpAll G vs (((List.range i).map h).map g)) (r : Rp G v (g y)) (e : h i = y) : RpAll G (vs ++ [v]) (((List.range (i + 1)).map h).map g) := by
  rw [List.range_succ, List.map_append, List.map_append]
  exact a.append (.one (e ▸ r))
theorem comp_doneD {n : Nat} {h : List α → List β} (hl : n = xs.length) (a : RpAll G vs ((h (xs.take n)).map g)) : RpAll G vs ((h xs).map g) := by
  rw [hl, List.take_length] at a
  exact a
theorem comp_listFD {i : Nat} {x : α} {y : β} {v : V} {h : α → β} {q : α → Bool} (hi : xs[i]? = some x) (hq : q x = true) (a : RpAll G vs ((((xs.take i).filter q).map h).map g)) (r : Rp G v (g y)) (e : h x = y) : RpAll G (vs ++ [v]) ((((xs.take (i + 1)).filter q).map h).map g) := by
  rw [take_succ_get hi, List.filter_append, List.filter_cons, if_pos hq, List.map_append, List.map_append]
  exact a.append (.one (e ▸ r))
theorem skip_listD {i : Nat} {x : α} {h : α → β} {q : α → Bool} (hi : xs[i]? = some x) (hq : q x = false) (a : RpAll G vs ((((xs.take i).filter q).map h).map g)) : RpAll G vs ((((xs.take (i + 1)).filter q).map h).map g) := by
  rw [take_succ_get hi, List.filter_append, List.filter_cons, if_neg (by rw [hq]; decide), List.filter_nil, List.append_nil]
  exact a
end
section
variable {α β : Type} {f : β → V} {H : Hp} {D : Addr} {xs : List α}
theorem compM_list {i : Nat} {x : α} {y : β} {h : α → β} (hi : xs[i]? = some x) (a : H D = some (.lst (((xs.take i).map h).map f ++ [f y]))) (e : h x = y) : H D = some (.lst (((xs.take (i + 1)).map h).map f)) := by
  rw [a, ← e, take_succ_get hi, List.map_append, List.map_append] <;> rfl
theorem compM_range {i : Nat} {y : β} {h : Nat → β} (a : H D = some (.lst (((List.range i).map h).map f ++ [f y]))) (e : h i = y) : H D = some (.lst (((List.range (i + 1)).map h).map f)) := by
  rw [a, ← e, List.range_succ, List.map_append, List.map_append] <;> rfl
theorem compM_done {n : Nat} {h : List α → List β} (hl : n = xs.length) (a : H D = some (.lst ((h (xs.take n)).map f))) : H D = some (.lst ((h xs).map f)) := by
  rw [hl, List.take_length] at a
  exact a
theorem compM_listF {i : Nat} {x : α} {y : β} {h : α → β} {q : α → Bool} (hi : xs[i]? = some x) (hq : q x = true) (a : H D = some (.lst ((((xs.take i).filter q).map h).map f ++ [f y]))) (e : h x = y) : H D = some (.lst ((((xs.take (i + 1)).filter q).map h).map f)) := by
  rw [a, ← e, take_succ_get hi, List.filter_append, List.filter_cons, if_pos hq, List.map_append, List.map_append] <;> rfl
theorem skipM_list {i : Nat} {x : α} {h : α → β} {q : α → Bool} (hi : xs[i]? = some x) (hq : q x = false) (a : H D = some (.lst ((((xs.take i).filter q).map h).map f))) : H D = some (.lst ((((xs.take (i + 1)).filter q).map h).map f)) := by
  rw [a, take_succ_get hi, List.filter_append, List.filter_cons, if_neg (by rw [hq]; decide), List.filter_nil, List.append_nil]
theorem compM_rangeF {i : Nat} {y : β} {h : Nat → β} {q : Nat → Bool} (hq : q i = true) (a : H D = some (.lst ((((List.range i).filter q).map h).map f ++ [f y]))) (e : h i = y) : H D = some (.lst ((((List.range (i + 1)).filter q).map h).map f)) := by
  rw [a, ← e, List.range_succ, List.filter_append, List.filter_cons, if_pos hq, List.map_append, List.map_append] <;> rfl
theorem skipM_range {i : Nat} {h : Nat → β} {q : Nat → Bool} (hq : q i = false) (a : H D = some (.lst ((((List.range i).filter q).map h).map f))) : H D = some (.lst ((((List.range (i + 1)).filter q).map h).map f)) := by
  rw [a, List.range_succ, List.filter_append, List.filter_cons, if_neg (by rw [hq]; decide), List.filter_nil, List.append_nil]
end
/-! ### more rules -/
section
variable {X : Cx} {K : PySem.W.Frag}
theorem ix_tupK (hK : X.K = K := by rfl) : IxR X (rIxT K) := hK ▸ ix_tup
def rLenLK (K : PySem.W.Frag) : List V → Hp → VK → Prop := fun xs H Q => ∃ (p : Addr) (vs : List V) (n : Nat), xs = [.ref p] ∧ SqL K H p vs ∧ vs.length = n ∧ Q (.int (n : Int)) H
theorem call_lenLK (hK : X.K = K := by rfl) : CallR X (.builtin "len") (rLenLK K) := by
  subst hK
  intro pins s σ H xs us Q I r h
  obtain ⟨p, vs, n, rfl, hs, hn, q⟩ := h
  exact call_len_seq pins s σ H _ us Q I r ⟨p, _, rfl, Or.inl hs, by rw [hn]; exact q⟩
def rListLK (K : PySem.W.Frag) : List V → Hp → VK → Prop := fun xs H Q => ∃ (p : Addr) (vs : List V), xs = [.ref p] ∧ SqL K H p vs ∧ ∀ l, H l = none → Q (.ref l) (upd H l (.lst vs))
theorem call_listLK (hK : X.K = K := by rfl) : CallR X (.type "list") (rListLK K) := by
  subst hK
  intro pins s σ H xs us Q I r h
  obtain ⟨p, vs, rfl, hs, q⟩ := h
  exact call_list_of pins s σ H _ us Q I r ⟨p, _, rfl, Or.inl hs, q⟩
theorem cr_anyK (hc : X.calm = true) (hK : X.K = K := by rfl) : CallR X (.builtin "any") (rAny K) := hK ▸ cr_any hc
theorem cr_allK (hc : X.calm = true) (hK : X.K = K := by rfl) : CallR X (.builtin "all") (rAll K) := hK ▸ cr_all hc
theorem pi_tupK {tg l : Expr} {tl : TE} (hl : PE X l tl) (hK : X.K = K := by rfl) : PI X tg l (iTup K tl) := hK ▸ pi_tup hl
theorem pip {op : Operator} {r : R2} (h : OpR X (inplaceOp op) r) : PIp X op r := fun pins s σ H x y v u Q I rx ry q => h pins s σ H x y v u Q I rx ry q
/-- an item at a place from 0 on, by itself (ahead of o[i] op= e) -/
def rIxP (K : PySem.W.Frag) : R2 := fun x y H Q => ∃ (p : Addr) (xs : List V) (k : Int) (v : V), x = .ref p ∧ y = .int k ∧ SqL K H p xs ∧ 0 ≤ k ∧ k < 2 ^ 62 ∧ atI xs k = some v ∧ Q v H
theorem pget_list (hK : X.K = K := by rfl) : PGet X (rIxP K) := by
  subst hK
  intro pins s σ H o i ov iv Q I ro ri h
  obtain ⟨p, xs, k, v, rfl, rfl, hq, h0, h62, ha, q⟩ := h
  cases ro
  obtain ⟨t, rfl⟩ := ri
  obtain ⟨its, r, pl, hz⟩ := I.list hq
  obtain ⟨j, h1, h2, h3, h4, h5⟩ := atI_get ha
  obtain ⟨w, ew, rw'⟩ := r.get h2
  have hj : k.toNat = j := by
    rw [seqIndex_of h0 h5] at h1
    exact Option.some.inj h1
  exact getItem_listL pl.isList h0 (by omega) (by rw [hj]; simpa using ew) ⟨v, H, I, rw', q⟩
theorem tru_map {α : Type} [DecidableEq α] {f : α → V} {xs : List α} : (!decide (xs = [])) = !(xs.map f).isEmpty := by
  cases xs <;> simp
end
end Vx

namespace Vx
open PySem PySem.Spec PyProof.Rows L2
/-! ### objects -/
section
variable {M : List Addr} {H0 G0 G H H' : Hp} {O : List Addr} {p m : Addr} {o : HO}
theorem gen_obj {x dx : Addr} {o1 o2 : HO} (nx : H x = none) (nd : H dx = none) (ne : dx ≠ x) (h : upd (upd H dx o1) x o2 = H') : Same H H' ∧ H' x = some o2 := by
  subst h
  exact ⟨fun b u e => by rw [upd_ne (ne_of_none e nx), upd_ne (ne_of_none e nd)]; exact e, upd_same⟩
theorem sameX_of {m : Addr} (x : SameXs [m] H H') : SameX m H H' := fun b o e n => x b o e (by simpa using n)
theorem g_ne {a b : Addr} (h : G a = some o) (S : Sep M H0 G0 G H O) (hb : b ∈ O) : a ≠ b := fun z => by
  have := (S.ow b hb).1
  rw [← z, h] at this
  cases this
/-- an object whose making has laid some lists -/
theorem Sep.mutnew (S : Sep M H0 G0 G H O) {L : List Addr} (x : SameXs L H H') (hL : ∀ a ∈ L, a ∈ O) (hs : ∀ a ∈ L, H' a ≠ none) (hn : H p = none) (hp : H' p ≠ none) (h0 : H0 p = none) : Sep M H0 G0 G H' (p :: O) := by
  have S1 := S.mut x hL hs
  refine ⟨S1.base, S1.pm, S1.sG, S1.g0, S1.gn, all_cons ⟨S.gfree hn, hp, .inr h0⟩ S1.ow⟩
theorem Sep.init (S : Sep M H0 G0 G H O) (x : SameX m H H') (hm : m ∈ O) (h : H' m = some o) (L : List Addr) (hL : ∀ a ∈ L, H a = none ∧ H' a ≠ none ∧ H0 a = none) : Sep M H0 G0 G H' (L ++ O) := by
  have S1 := S.mut1 x hm h
  refine ⟨S1.base, S1.pm, S1.sG, S1.g0, S1.gn, fun a ha => ?_⟩
  rcases List.mem_append.mp ha with z | z
  · obtain ⟨h1, h2, h3⟩ := hL a z
    exact ⟨S.gfree h1, h2, .inr h3⟩
  · exact S1.ow a z
end
section
variable {P : Program} {w : World} {K : PySem.W.Frag} {mg : Str → Option Value} {base : Heap}
structure MethIn (K : PySem.W.Frag) (C : Addr) (q m : Str) (st : Stmt) (ps : List Str) : Prop where
  ex : ∃ (f : Addr) (fd : FuncData), Fun K m q st f fd ∧ Meth K C m f ∧ Binds K fd ps []
structure PropIn (K : PySem.W.Frag) (C : Addr) (q m : Str) (st : Stmt) (ps : List Str) : Prop where
  ex : ∃ (r f : Addr) (fd : FuncData), Fun K m q st f fd ∧ PropOf K C m r f ∧ Binds K fd ps []
structure InitIn (K : PySem.W.Frag) (mg : Str → Option Value) (C : Addr) (cn q : Str) (st : Stmt) (ps : List Str) : Prop where
  ex : ∃ (f : Addr) (fd : FuncData), Fun K "__init__" q st f fd ∧ Mk K C f ∧ mg cn = some (.ref C) ∧ Binds K fd ps []
structure MetC (P : Program) (w : World) (K : PySem.W.Frag) (mg : Str → Option Value) (base : Heap) (k : Nat) (C : Addr) (m : Str) (sp : Sp) : Prop where
  ex : ∃ (f : Addr) (fd : FuncData) (ps : List Str), Cls K C ∧ Meth K C m f ∧ FnOk P w K mg base CX0 k f fd ps sp ∧ Binds K fd ps []
structure PropC (P : Program) (w : World) (K : PySem.W.Frag) (mg : Str → Option Value) (base : Heap) (k : Nat) (C : Addr) (m : Str) (sp : Sp) : Prop where
  ex : ∃ (q f : Addr) (fd : FuncData) (ps : List Str), Cls K C ∧ PropOf K C m q f ∧ FnOk P w K mg base CX0 k f fd ps sp ∧ Binds K fd ps []
structure MakC (P : Program) (w : World) (K : PySem.W.Frag) (mg : Str → Option Value) (base : Heap) (k : Nat) (cn : Str) (C : Addr) (sp : Sp) : Prop where
  ex : ∃ (f : Addr) (fd : FuncData) (ps : List Str), Mk K C f ∧ FnOk P w K mg base CX0 k f fd ps sp ∧ mg cn = some (.ref C) ∧ Binds K fd ps []
abbrev Body (P : Program) (w : World) (K : PySem.W.Frag) (mg : Str → Option Value) (base : Heap) (x : Str) (st : Stmt) (N : List Str) (k : Nat) (sp : Sp) : Prop :=
  ∀ (f : Addr) (cdv : Value) (A : Around) (outer : List Env) (s : Shared) (H : Hp) (vs : List V) (Q : VK) (E : XK), Room k (A.deeper (envOfC x (defScope st) s.heap.objs.size f cdv)) → sp vs H Q E →
    ∃ t, PSs (cxOf CX0 P w K mg base N x (defScope st) f cdv A outer s H E).nox (defBody st) t ∧ t { nx := fun _ H' => Q .non H', rt := Q } (start N vs) H
theorem MethIn.ok {C : Addr} {q m : Str} {st : Stmt} {N ps : List Str} {k : Nat} {sp : Sp} (D : MethIn K C q m st ps) (c : Cls K C) (S : FnScope N ps (defScope st)) (len : ∀ vs H Q E, sp vs H Q E → vs.length = ps.length)
    (hbody : Body P w K mg base q st N k sp) : MetC P w K mg base (k + 1) C m sp := by
  obtain ⟨f, fd, F, me, b⟩ := D.ex
  exact ⟨f, fd, ps, c, me, F.ok S len (fun cdv A outer s H vs Q E hr h => hbody f cdv A outer s H vs Q E hr h), b⟩
theorem PropIn.ok {C : Addr} {q m : Str} {st : Stmt} {N ps : List Str} {k : Nat} {sp : Sp} (D : PropIn K C q m st ps) (c : Cls K C) (S : FnScope N ps (defScope st)) (len : ∀ vs H Q E, sp vs H Q E → vs.length = ps.length)
    (hbody : Body P w K mg base q st N k sp) : PropC P w K mg base (k + 1) C m sp := by
  obtain ⟨r, f, fd, F, me, b⟩ := D.ex
  exact ⟨r, f, fd, ps, c, me, F.ok S len (fun cdv A outer s H vs Q E hr h => hbody f cdv A outer s H vs Q E hr h), b⟩
theorem InitIn.ok {C : Addr} {cn q : Str} {st : Stmt} {N ps : List Str} {k : Nat} {sp : Sp} (D : InitIn K mg C cn q st ps) (S : FnScope N ps (defScope st)) (len : ∀ vs H Q E, sp vs H Q E → vs.length = ps.length)
    (hbody : Body P w K mg base q st N k sp) : MakC P w K mg base (k + 1) cn C sp := by
  obtain ⟨f, fd, F, me, hm, b⟩ := D.ex
  exact ⟨f, fd, ps, me, F.ok S len (fun cdv A outer s H vs Q E hr h => hbody f cdv A outer s H vs Q E hr h), hm, b⟩
end
section
variable {X : Cx} {k j : Nat} {C : Addr} {x m : Str} {sp : Sp} {p pos apos : Pos} {e o : Expr} {es : List Expr} {ta : TE} {t : TA}
theorem vx_call0 (c : Cal X.prog X.w X.K X.mg X.base k x sp) (hr : Room j X.A) (hk : k ≤ j) (hg : Gl X x) (hdb : (x == ("__debug__" : Str)) = false := by decide) : PE X (.Call (.Name x p) [] [] pos) (tCall sp [] E0 tNil) := by
  obtain ⟨f, fd, ps, F, hm, kp, b⟩ := c.ex
  exact pe_call0 F (hr.mono hk) hg hm kp b .nil pass0 hdb
theorem vx_make (c : MakC X.prog X.w X.K X.mg X.base k x C sp) (hr : Room j X.A) (hk : k + 1 ≤ j) (hg : Gl X x) (ha : PA X (e :: es) t)
    (hdb : (x == ("__debug__" : Str)) = false := by decide) (he : starEach (e :: es) X.env = (false, eval e X.env) :: starEach es X.env := by rfl) (hpl : (backTo pos (starEach es X.env)).any (·.1) = false := by rfl) :
    PE X (.Call (.Name x p) (e :: es) [] pos) (tMake C sp [] E0 t) := by
  obtain ⟨f, fd, ps, M, F, hm, b⟩ := c.ex
  exact pe_make M F (hr.mono hk) hg hm b .nil pass0 ha hdb he hpl
theorem vx_make0 (c : MakC X.prog X.w X.K X.mg X.base k x C sp) (hr : Room j X.A) (hk : k + 1 ≤ j) (hg : Gl X x) (hdb : (x == ("__debug__" : Str)) = false := by decide) :
    PE X (.Call (.Name x p) [] [] pos) (tMake C sp [] E0 tNil) := by
  obtain ⟨f, fd, ps, M, F, hm, b⟩ := c.ex
  exact pe_make0 M F (hr.mono hk) hg hm b .nil pass0 hdb
theorem vx_meth {pl : Sem Bool} (c : MetC X.prog X.w X.K X.mg X.base k C m sp) (hr : Room j X.A) (hk : k ≤ j) (he : PE X o ta) (ha : PA X (e :: es) t)
    (hst : starEach (e :: es) X.env = (false, eval e X.env) :: starEach es X.env := by rfl) (hpl : (backTo pos (starEach es X.env)).any (·.1) = false := by rfl)
    (ht : eval (.Call (.Attribute o m apos) (e :: es) [] pos) X.env = (do
      let ov ← eval o X.env
      standAt apos.atName
      let (f, first) ← holding [ov] (getMethod ov m pl)
      callWith pos f first (backTo pos (starEach (e :: es) X.env)) (backToKw pos (keywordEach [] X.env))) := by rfl) :
    PE X (.Call (.Attribute o m apos) (e :: es) [] pos) (tMeth C m sp [] E0 ta t) := by
  obtain ⟨f, fd, ps, hc, hm, F, b⟩ := c.ex
  exact pe_meth he hc hm F (hr.mono hk) b .nil pass0 ha hst hpl ht
theorem vx_meth0 {pl : Sem Bool} (c : MetC X.prog X.w X.K X.mg X.base k C m sp) (hr : Room j X.A) (hk : k ≤ j) (he : PE X o ta)
    (ht : eval (.Call (.Attribute o m apos) [] [] pos) X.env = (do
      let ov ← eval o X.env
      standAt apos.atName
      let (f, first) ← holding [ov] (getMethod ov m pl)
      callWith pos f first (backTo pos (starEach [] X.env)) (backToKw pos (keywordEach [] X.env))) := by rfl) :
    PE X (.Call (.Attribute o m apos) [] [] pos) (tMeth C m sp [] E0 ta tNil) := by
  obtain ⟨f, fd, ps, hc, hm, F, b⟩ := c.ex
  exact pe_meth0 he hc hm F (hr.mono hk) b .nil pass0 ht
theorem vx_prop (c : PropC X.prog X.w X.K X.mg X.base k C m sp) (hr : Room j X.A) (hk : k + 1 ≤ j) (he : PE X o ta) (hab : attributeBase o m X.env (eval o X.env) = eval o X.env) : PE X (.Attribute o m pos) (tProp C sp [] E0 ta) := by
  obtain ⟨q, f, fd, ps, hc, hp, F, b⟩ := c.ex
  exact pe_prop he hc hp F (hr.mono hk) b .nil pass0 hab
end
theorem iteBNT {b : Bool} {A B : Prop} (h : b = false) (k : A) : if (!b) = true then A else B := by rw [h]; exact iteT k
theorem iteNN {b : Bool} {A B : Prop} (h : if b = true then A else B) : if (!!b) = true then A else B := by rw [Bool.not_not]; exact h
theorem iteBNF {b : Bool} {A B : Prop} (h : b = true) (k : B) : if (!b) = true then A else B := by rw [h]; exact iteF k
theorem shl_side {i j : Int} (h0 : 0 ≤ j) (h1 : j ≤ 4096) (h2 : -(2 ^ 4096) < i) (h3 : i < 2 ^ 4096) : CShl i j := by
  obtain ⟨k, rfl⟩ := Int.eq_ofNat_of_zero_le h0
  exact shl_ok (n := 4096) (by omega) (by omega)
end Vx

namespace Vx
open PySem PySem.Spec PyProof.Rows L2
section
variable {X : Cx} {K : PySem.W.Frag}
theorem fldK {e : Expr} {f : Str} {pos : Pos} {ta : TE} (he : PE X e ta) (hb : attributeBase e f X.env (eval e X.env) = eval e X.env := by rfl) (hK : X.K = K := by rfl) : PE X (.Attribute e f pos) (tFld K ta f) := hK ▸ pe_fld he hb
theorem pg_tupK {es : List Expr} {k : Nat} {t : TGs} {n : Nat} {pos : Pos} (h : PGs X es t) (hc : X.calm = true := by rfl)
    (hn : (assignEach es X.env).length = n := by rfl) (hst : (assignEach es X.env).findIdx? (·.1) = none := by rfl) (hK : X.K = K := by rfl) : PG X (.Tuple es k pos) (gTup K n t) := hK ▸ pg_tup hc h hn hst
end
end Vx

namespace Vx
open PySem PySem.Spec PyProof.Rows L2
section
variable {α β : Type} {f : α → PyData} {g : β → PyData} {fv : α → V} {gv : β → V} {G : Hp} {vs ws : List V} {xs : List α} {ys : List β}
theorem big1 {n : Nat} (h : n ≤ 1000000) : n ≤ sizeLine := smallE h
theorem cat_len (a : RpAll G vs (xs.map f)) (b : RpAll G ws (ys.map g)) (h : xs.length + ys.length ≤ 1000000) : vs.length + ws.length ≤ sizeLine := by
  rw [a.len, b.len, List.length_map, List.length_map]; exact smallE h
theorem cat_lenM (h : xs.length + ys.length ≤ 1000000) : (xs.map fv).length + (ys.map gv).length ≤ sizeLine := by
  rw [List.length_map, List.length_map]; exact smallE h
theorem rep_len {k : Nat} (a : RpAll G vs (xs.map f)) (h : xs.length * k ≤ 1000000) : vs.length * k ≤ sizeLine := by
  rw [a.len, List.length_map]; exact smallE h
theorem rep_lenM {k : Nat} (h : xs.length * k ≤ 1000000) : (xs.map fv).length * k ≤ sizeLine := by
  rw [List.length_map]; exact smallE h
theorem app_len (a : RpAll G vs (xs.map f)) (h : xs.length ≤ 1000000) : vs.length < sizeLine := by
  rw [a.len, List.length_map]; exact small h
theorem app_lenM (h : xs.length ≤ 1000000) : (xs.map fv).length < sizeLine := by
  rw [List.length_map]; exact small h
theorem cutL_len {α : Type} (xs : List α) (lo hi : Option Int) : (cutL xs lo hi).length ≤ xs.length := by
  unfold cutL
  rw [List.length_take, List.length_drop]
  omega
theorem repL_len {α : Type} (xs : List α) (k : Int) : (repL xs k).length = k.toNat * xs.length := by
  unfold repL
  simp
end
end Vx
/-! # promises of defs that know that nothing is being shown (so that repr may be called) -/
namespace Vx
open PySem PySem.Spec PyProof.Rows L2
structure RoomG (k : Nat) (A : Around) : Prop extends Room k A where
  gd : A.guards = some []
theorem RoomG.low {j k : Nat} {A : Around} (r : RoomG k A) (h : j ≤ k) : RoomG j A := ⟨r.toRoom.mono h, r.gd⟩
theorem RoomG.one {k : Nat} {A : Around} (r : RoomG (k + 1) A) : RoomG k A.in1 := ⟨r.toRoom.in1, r.gd⟩
theorem make_gd {A : Around} (C : Addr) (us : List Value) (kw : List (Str × Value)) (h : A.guards = some []) : (A.under (.builtin "type.__call__" ⟨.ref C :: us, kw⟩)).guards = some [] := by
  obtain ⟨hd, d, fr, gs, u⟩ := A
  subst h
  simp [Around.under, Code.guards, Code.isGuard, guardIds, pushGuards]
theorem RoomG.made {k : Nat} {A : Around} (r : RoomG (k + 1) A) (C : Addr) (us : List Value) (kw : List (Str × Value)) : RoomG k (A.under (.builtin "type.__call__" ⟨.ref C :: us, kw⟩)) := ⟨r.toRoom.make C us kw, make_gd C us kw r.gd⟩
structure FnG (P : Program) (w : World) (K : PySem.W.Frag) (mg : Str → Option Value) (base : Heap) (cx : CXT) (k : Nat) (f : Addr) (fd : FuncData) (ps : List Str) (sp : Sp) : Prop where
  len : ∀ vs H Q E, sp vs H Q E → vs.length = ps.length
  run : ∀ (A : Around) (outer : List Env) (s : Shared) (H : Hp) (args : Args) (us : List Value) (vs : List V) (Q : VK) (E : XK), RoomG k A → Env0 P w K mg base A outer s H → BindsTo s fd args (ps.zip us) → Vals vs us → sp vs H Q E → codeAny (model P w) A (.call (.ref f) args) (CR cx outer P w H s Q E) s
section
variable {P : Program} {w : World} {K : PySem.W.Frag} {mg : Str → Option Value} {base : Heap} {cx : CXT} {j k : Nat} {f : Addr} {fd : FuncData} {ps : List Str} {sp sp' : Sp}
theorem FnG.imp (F : FnG P w K mg base cx k f fd ps sp) (h : ∀ vs H Q E, sp' vs H Q E → sp vs H Q E) : FnG P w K mg base cx k f fd ps sp' := ⟨fun vs H Q E q => F.len vs H Q E (h vs H Q E q), fun A o s H a us vs Q E r e b v q => F.run A o s H a us vs Q E r e b v (h vs H Q E q)⟩
/-- the body's promise is the def's -/
theorem FnG.body {x qual : Str} {params : Arguments} {body : List Stmt} {scope : Scope} {dvs : List V} {kws : List (Str × V)} {N : List Str} (F : FunD K x qual params body scope dvs kws f fd) (S : FnScope N ps scope) (len : ∀ vs H Q E, sp vs H Q E → vs.length = ps.length)
    (hb : ∀ (cdv : Value) (A : Around) (outer : List Env) (s : Shared) (H : Hp) (vs : List V) (Q : VK) (E : XK), RoomG k (A.deeper (envOfC qual scope s.heap.objs.size f cdv)) → sp vs H Q E →
      ∃ t, PSs (cxOf cx P w K mg base N qual scope f cdv A outer s H E) body t ∧ t { nx := fun _ H' => Q .non H', rt := Q } (start N vs) H) : FnG P w K mg base cx (k + 1) f fd ps sp := by
  obtain ⟨oc, od, dV, kV, doc, pm, an, cdv, ct, osl, rfl, lk, code, _, _⟩ := F.ex
  constructor
  · exact len
  · intro A outer s H args us vs Q E room env binds vals prom
    have nvs := len vs H Q E prom
    have kin : K.In s.heap := env.mod.kin.keeps fun b o q => (env.bs b o q).1
    have nolim : s.heap.NoLimit := env.mod.nolimit.keeps fun b o q => (env.bs b o q).1
    have kinds : ∀ q ∈ ps.zip us, scope.names.lookup q.1 = some .local ∨ (scope.names.lookup q.1 = some .cell ∧ ((cellsFrom (s.heap.objs.size + 1) scope.names []).lookup q.1).isSome = true) := by
      rintro ⟨n, v⟩ hq
      cases S.par n (List.of_mem_zip hq).1 with
      | inl z => exact .inl z
      | inr z => exact .inr ⟨z, PySem.W.cellsFrom_some _ _ _ (.inl z)⟩
    refine codeAny_call_function room.toRoom.depth (kin _ _ lk) rfl S.co S.gen rfl (PySem.W.codeRec_of kin code) (binds _ _ _ _ ?_)
    refine wpAny_newFunctionEnv_cells S.kind kinds ?_
    rintro _ rfl s1 made
    refine ⟨nolim.keeps made.toInCall.keep, codeAny_func ?_⟩
    obtain ⟨t, pss, start_⟩ := hb cdv A outer s H vs Q E ⟨room.toRoom.deeper _, room.gd⟩ prom
    have inv := inv_start (CX := cx) (E := E) S room.hd env nvs vals made
    have close : ∀ {τ : L2.St} {H2 : Hp} {v : V} {u : Value} {s2 : Shared}, Inv (cxOf cx P w K mg base N qual scope f cdv A outer s H E) [] τ H2 s2 → RelV v u → Q v H2 → CE outer P w H s Q u s2 := fun inv2 rel q => ⟨_, _, inv2.os, inv2.bare, inv2.base, inv2.hok, rel, q⟩
    refine wpAny_mono (pss.run [] s1 (start N vs) H _ inv start_) ?_ fun _ _ z => z
    intro flow s2 out
    cases flow with
    | next =>
      obtain ⟨τ, H2, inv2, q⟩ := out
      exact close (v := .non) (u := .none) inv2 rfl q
    | ret u =>
      obtain ⟨v, τ, H2, inv2, rel, q⟩ := out
      exact close inv2 rel q
    | brk =>
      obtain ⟨_, _, _, q⟩ := out
      exact q.elim
    | cont =>
      obtain ⟨_, _, _, q⟩ := out
      exact q.elim
/-- the same of a body that nothing leaves -/
theorem FnG.bodyN {x qual : Str} {params : Arguments} {body : List Stmt} {scope : Scope} {dvs : List V} {kws : List (Str × V)} {N : List Str} (F : FunD K x qual params body scope dvs kws f fd) (S : FnScope N ps scope) (len : ∀ vs H Q E, sp vs H Q E → vs.length = ps.length)
    (hb : ∀ (cdv : Value) (A : Around) (outer : List Env) (s : Shared) (H : Hp) (vs : List V) (Q : VK) (E : XK), RoomG k (A.deeper (envOfC qual scope s.heap.objs.size f cdv)) → sp vs H Q E →
      ∃ t, PSs (cxOf CX0 P w K mg base N qual scope f cdv A outer s H E).nox body t ∧ t { nx := fun _ H' => Q .non H', rt := Q } (start N vs) H) : FnG P w K mg base CX0 (k + 1) f fd ps sp :=
  FnG.body F S len fun cdv A outer s H vs Q E r p => by
    obtain ⟨t, h, q⟩ := hb cdv A outer s H vs Q E r p
    exact ⟨t, h.nox, q⟩
end
/-- where a law's call begins: an abstract heap that tells the script at most -/
theorem law_start {P : Program} {w : World} {K : PySem.W.Frag} {mg mb : Str → Option Value} {a : Addr} {s : Shared} {vs : List Value} {ns : List Int} (kin : K.In s.heap) (top : s.heap.Ns mainGlobals mg) (blt : s.heap.Ns builtinsNs mb) (boot : ∀ y : Str, y ≠ "__name__" → mb y = bootBuiltins y)
    (lim : s.heap.NoLimit) (gens : s.gens = #[]) (script : s.heap.get? a = some { cls := .type "list", data := .seq vs.toArray }) (whole : IntsAre vs ns) (short : ns.length ≤ sizeLine) :
    ∃ (H : Hp) (base : Heap), SqL K H a (ns.map V.int) ∧ K.In base ∧ base.Ns mainGlobals mg ∧ Env0 P w K mg base callerA [] s H ∧
      ∀ (Z : V → Prop) (u : Value) (s2 : Shared), CE [] P w H s (fun v _ => Z v) u s2 → (∃ v, RelV v u ∧ Z v) ∧ OldK s.heap s2.heap ∧ s2.os = s.os ∧ AllBare s2.gens := by
  have rel := vals_ints whole
  have lenV := whole.length
  -- any H that tells no more than the script, and that only where the written part does not hold it, will do
  have fits : ∀ H : Hp, (∀ b, H b = none ∨ ∃ o xs, H b = some (.frz o (.lst xs))) → SqL K H a (ns.map V.int) → HOk P w H s.heap → (∀ b, b ≠ a → H b = none) → (∀ o, K.lookup a = some o → H a = none) →
      ∃ (H : Hp) (base : Heap), SqL K H a (ns.map V.int) ∧ K.In base ∧ base.Ns mainGlobals mg ∧ Env0 P w K mg base callerA [] s H ∧
        ∀ (Z : V → Prop) (u : Value) (s2 : Shared), CE [] P w H s (fun v _ => Z v) u s2 → (∃ v, RelV v u ∧ Z v) ∧ OldK s.heap s2.heap ∧ s2.os = s.os ∧ AllBare s2.gens := by
    intro H only seq ok else_ apart
    have dictFree : ∀ (b : Addr) (o : Obj) (es : Array DictEntry) (n : Nat), s.heap.get? b = some o → o.data = .dict es n → H b = none := by
      intro b o es n e d
      by_cases z : b = a
      · subst z
        rw [script] at e
        injection e with e
        subst e
        cases d
      · exact else_ b z
    have nsOf : ∀ {b : Addr} {m : Str → Option Value}, s.heap.Ns b m → (hidT s.heap H).Ns b m := by
      rintro b m ⟨o, es, n, e, d, r⟩
      exact ⟨o, es, n, hidT_get e (dictFree b o es n e d), d, r⟩
    have kinB : K.In (hidT s.heap H) := by
      intro b o e
      refine hidT_get (kin b o e) ?_
      by_cases z : b = a
      · subst z
        exact apart o e
      · exact else_ b z
    obtain ⟨mc, lim1, lim2⟩ := lim
    refine ⟨H, hidT s.heap H, seq, kinB, nsOf top, ⟨rfl, ⟨kinB, nsOf top, ⟨mb, nsOf blt, boot⟩, mc, nsOf lim1, lim2⟩, fun b o e => of_hidT e, Nat.le_of_eq (hidT_size _ _), trivial, fun b hb => (nomatch (show b ∈ ([] : List Addr) from hb)), ok, .of_eq gens⟩, ?_⟩
    rintro Z u s2 ⟨v, H2, os, bare, un, ok2, r, z⟩
    refine ⟨⟨v, r, z⟩, OldK.of_keep fun b o e => ?_, os, bare⟩
    rcases only b with n | ⟨o1, xs, n⟩
    · exact un.keep b o e n (fun y => nomatch (show b ∈ ([] : List Addr) from y)) (fun y => nomatch y)
    · obtain ⟨e1, _⟩ := ok b _ n
      obtain ⟨e2, _⟩ := ok2 b _ (un.frzs b o1 _ n)
      rw [e] at e1
      injection e1 with e1
      subst e1
      exact e2
  cases kl : K.lookup a with
  | some o =>
    have e := kin a o kl
    rw [script] at e
    injection e with e
    subst e
    exact fits (fun _ => none) (fun _ => .inl rfl) (.inr ⟨_, vs.toArray, _, kl, rfl, rfl, rfl, by rw [List.size_toArray, lenV]; exact short, by simpa using rel⟩) (fun _ _ z => nomatch z) (fun _ _ => rfl) fun _ _ => rfl
  | none =>
    refine fits (fun b => if b = a then some (.frz { cls := .type "list", data := .seq vs.toArray } (.lst (ns.map V.int))) else none) ?_ (.inl (.inr ⟨_, if_pos rfl⟩)) ?_ (fun b n => if_neg n) fun o z => ?_
    · intro b
      by_cases z : b = a
      · exact .inr ⟨_, _, if_pos z⟩
      · exact .inl (if_neg z)
    · intro b u q
      by_cases z : b = a
      · subst z
        have q := (if_pos rfl).symm.trans q
        injection q with q
        subst q
        exact ⟨script, by rw [List.length_map]; exact short, vs, _, rel, script⟩
      · have q := (if_neg z).symm.trans q
        cases q
    · rw [kl] at z
      cases z
/-- the goal that the head leaves, from the law's promise; the script's numbers have at most 2 ^ 20 bits -/
theorem walkG {l : PySem.W.OpenLaw} {n k : Nat} {q : Program} {loose : List Str} {XP : (Str → Option Value) → Heap → Prop} {YP : World → Heap → Prop} {d : DefRec} {K : Params → PySem.W.Frag} {x : Str} (hn : l.most = some n) (hn2 : n ≤ sizeLine) (hdf : d.params.defaults = []) (room : Room k callerA)
    (hY : ∀ (w : World) (h : Heap), YP w h → (K w.params).In h)
    (F : ∀ (w : World) (mg : Str → Option Value) (fa : Addr) (h : Heap), (K w.params).In h → h.Ns mainGlobals mg → mg d.name = some (.ref fa) →
      ∃ fd : FuncData, (∀ (s : Shared) (u : Value), BindsTo s fd ⟨[u], []⟩ [(x, u)]) ∧ ∀ base : Heap, (K w.params).In base → base.Ns mainGlobals mg → FnG l.prog w (K w.params) mg base CX0 k fa fd [x] (fun vs H Q _ => ∃ (a : Addr) (ns : List Int), vs = [.ref a] ∧ SqL (K w.params) H a (ns.map V.int) ∧ ns.length ≤ n ∧ ∀ H', Q (.bl true) H')) :
    PySem.W.WalkO q loose XP YP l.row.toRowW d [] (fun f vs => PySem.call f vs) := by
  refine Att.attach_call hn hdf ?_
  intro w s₀ s₁ mg mb fa o pm cd doc a vs ns G Y _ _ _ hmg script whole short gens
  have kin := hY w _ Y
  obtain ⟨fd, bind, prom⟩ := F w mg fa _ kin G.T.g hmg
  obtain ⟨H, base, seq, kinB, nsB, env, fin⟩ := law_start (P := l.prog) (w := w) kin G.T.g G.T.b G.T.builtins G.T.nolimit gens script whole (Nat.le_trans short hn2)
  refine codeAny_mono ((prom base kinB nsB).run callerA [] s₁ H ⟨[.ref a], []⟩ [.ref a] [.ref a] (fun v _ => v = .bl true) (fun _ _ _ => False) ⟨room, rfl⟩ env (bind s₁ (.ref a)) (.cons rfl .nil) ⟨a, ns, rfl, seq, short, fun _ => rfl⟩) ?_
  intro r s2 out
  cases r with
  | error e => exact out.elim
  | ok flow =>
    cases flow with
    | ret u =>
      obtain ⟨⟨v, rv, z⟩, h1, h2, h3⟩ := fin (fun v => v = .bl true) u s2 out
      subst z
      obtain rfl : u = Value.bool true := rv
      exact ⟨rfl, h1, h2, h3⟩
    | next => exact out.elim
    | brk => exact out.elim
    | cont => exact out.elim
end Vx
/-! # third part: what a def computes, as a plain function with refusals -/
namespace Vx
open PySem PySem.Spec PyProof.Rows L2
inductive Rx (α : Type) where
  | ok (a : α)
  | er (e : Nat)
  | bad
def Rx.bind {α β : Type} (m : Rx α) (f : α → Rx β) : Rx β :=
  match m with
  | .ok a => f a
  | .er e => .er e
  | .bad => .bad
/-- what is wanted of an outcome -/
@[irreducible] def cW {α : Type} (m : Rx α) (K : α → Prop) (E : Nat → Prop) : Prop :=
  match m with
  | .ok a => K a
  | .er e => E e
  | .bad => False
def grd {α : Type} (p : Prop) [Decidable p] (m : Rx α) : Rx α := if p then m else .bad
/-- within a comprehension nothing may be raised -/
def noEr {α : Type} (m : Rx α) : Rx α :=
  match m with
  | .ok a => .ok a
  | _ => .bad
/-- what the clause does not name may not come -/
def tryR {α β : Type} (m : Rx α) (cs : List Nat) (f : α → Rx β) (h : Nat → Rx β) : Rx β :=
  match m with
  | .ok a => f a
  | .er e => if e ∈ cs then h e else .bad
  | .bad => .bad
def bnd {α β : Type} (a : α) (f : α → Rx β) : Rx β := f a
inductive Lp (σ ρ : Type) where
  | go (s : σ)
  | bk (s : σ)
  | rt (r : ρ)
def Lp.aft {σ ρ τ : Type} (l : Lp σ ρ) (kr : ρ → Rx τ) (k : σ → Rx τ) : Rx τ :=
  match l with
  | .go s => k s
  | .bk s => k s
  | .rt r => kr r
def forS {σ α : Type} : List α → σ → (σ → α → Rx σ) → Rx σ
  | [], s, _ => .ok s
  | x :: r, s, f => (f s x).bind fun s' => forS r s' f
def forR {σ α ρ : Type} : List α → σ → (σ → α → Rx (Lp σ ρ)) → Rx (Lp σ ρ)
  | [], s, _ => .ok (.go s)
  | x :: r, s, f => (f s x).bind fun l =>
    match l with
    | .go s' => forR r s' f
    | .bk s' => .ok (.go s')
    | .rt v => .ok (.rt v)
def whileR {σ ρ : Type} : Nat → σ → (σ → Rx (Lp σ ρ)) → Rx (Lp σ ρ)
  | 0, _, _ => .bad
  | n + 1, s, f => (f s).bind fun l =>
    match l with
    | .go s' => whileR n s' f
    | .bk s' => .ok (.go s')
    | .rt v => .ok (.rt v)
def mapA {α β : Type} : List α → List β → (α → Rx β) → Rx (List β)
  | [], acc, _ => .ok acc
  | x :: r, acc, f => grd (acc.length ≤ 1000000) ((f x).bind fun y => mapA r (acc ++ [y]) f)
def mapF {α β : Type} : List α → List β → (α → Rx (Option β)) → Rx (List β)
  | [], acc, _ => .ok acc
  | x :: r, acc, f => grd (acc.length ≤ 1000000) ((f x).bind fun y =>
    match y with
    | some z => mapF r (acc ++ [z]) f
    | none => mapF r acc f)
section
variable {α β γ σ ρ τ : Type} {K : α → Prop} {E : Nat → Prop}
theorem cW_ok {a : α} (h : cW (.ok a) K E) : K a := by
  unfold cW at h
  exact h
theorem cW_er {e : Nat} (h : cW (.er e : Rx α) K E) : E e := by
  unfold cW at h
  exact h
theorem cW_bad {C : Prop} (h : cW (.bad : Rx α) K E) : C := by
  unfold cW at h
  exact h.elim
theorem cW_mk {a : α} (h : K a) : cW (.ok a) K E := by
  unfold cW
  exact h
theorem cW_mkE {e : Nat} (h : E e) : cW (.er e : Rx α) K E := by
  unfold cW
  exact h
theorem cW_gen {m : Rx α} (h : cW m K E) : ∃ (K' : α → Prop) (E' : Nat → Prop), (∀ v, K' v → K v) ∧ (∀ e, E' e → E e) ∧ cW m K' E' := ⟨K, E, fun _ x => x, fun _ x => x, h⟩
theorem cW_grd {p : Prop} {dp : Decidable p} {m : Rx α} (h : cW (grd p m) K E) : p ∧ cW m K E := by
  unfold grd at h
  split at h
  · exact ⟨‹p›, h⟩
  · exact cW_bad h
theorem cW_pos {p : Prop} {dp : Decidable p} {a b : Rx α} (c : p) (h : cW (if p then a else b) K E) : cW a K E := by rwa [if_pos c] at h
theorem cW_neg {p : Prop} {dp : Decidable p} {a b : Rx α} (c : ¬ p) (h : cW (if p then a else b) K E) : cW b K E := by rwa [if_neg c] at h
theorem cW_call {m : Rx β} {f : β → Rx α} {K2 : β → Prop} {E2 : Nat → Prop} (h : cW (m.bind f) K E) (ho : ∀ v, cW (f v) K E → K2 v) (he : ∀ e, E e → E2 e) : cW m K2 E2 := by
  cases m with
  | ok a => exact cW_mk (ho a h)
  | er e => exact cW_mkE (he e (cW_er (α := α) h))
  | bad => exact cW_bad (α := α) h
theorem cW_push {m : Rx β} {f : β → Rx α} (h : cW (m.bind f) K E) : ∃ K2 : β → Prop, (∀ v, K2 v → cW (f v) K E) ∧ cW m K2 E := ⟨fun v => cW (f v) K E, fun _ x => x, cW_call h (fun _ x => x) fun _ x => x⟩
theorem cW_name {m : Rx α} (h : cW m K E) : ∃ K' : α → Prop, (∀ v, K' v → K v) ∧ cW m K' E := ⟨K, fun _ x => x, h⟩
theorem cW_noEr {m : Rx α} (h : cW (noEr m) K E) : cW m K (fun _ => False) := by
  cases m with
  | ok a => exact cW_mk (cW_ok (α := α) h)
  | er e => exact cW_bad (α := α) h
  | bad => exact cW_bad (α := α) h
theorem cW_try {m : Rx β} {cs : List Nat} {f : β → Rx α} {g : Nat → Rx α} {K2 : β → Prop} {E2 : Nat → Prop} (h : cW (tryR m cs f g) K E) (ho : ∀ v, cW (f v) K E → K2 v) (hc : ∀ e, e ∈ cs → cW (g e) K E → E2 e) : cW m K2 E2 := by
  cases m with
  | ok a => exact cW_mk (ho a h)
  | er e =>
    have h2 : cW (if e ∈ cs then g e else .bad) K E := h
    by_cases q : e ∈ cs
    · exact cW_mkE (hc e q (cW_pos q h2))
    · exact cW_bad (cW_neg q h2)
  | bad => exact cW_bad (α := α) h
theorem cW_bnd {a : β} {f : β → Rx α} (h : cW (bnd a f) K E) : cW (f a) K E := h
theorem cW_negB {b : Bool} {x y : Rx α} (c : b = false) (h : cW (if b = true then x else y) K E) : cW y K E := cW_neg (by rw [c]; decide) h
theorem cW_forS {xs : List β} {i : Nat} {x : β} {s : α} {f : α → β → Rx α} (hx : xs[i]? = some x) (h : cW (forS (xs.drop i) s f) K E) : cW (f s x) (fun s' => cW (forS (xs.drop (i + 1)) s' f) K E) E := by
  rw [List.drop_eq_getElem?_toList_append, hx] at h
  exact cW_call h (fun _ z => z) fun _ z => z
theorem cW_forS0 {xs : List β} {n : Nat} {s : α} {f : α → β → Rx α} (hn : n = xs.length) (h : cW (forS (xs.drop n) s f) K E) : K s := by
  subst hn
  rw [List.drop_length] at h
  exact cW_ok h
theorem cW_forR {K : Lp σ ρ → Prop} {xs : List β} {i : Nat} {x : β} {s : σ} {f : σ → β → Rx (Lp σ ρ)} (hx : xs[i]? = some x) (h : cW (forR (xs.drop i) s f) K E) :
    cW (f s x) (fun l => match l with | .go s' => cW (forR (xs.drop (i + 1)) s' f) K E | .bk s' => K (.go s') | .rt v => K (.rt v)) E := by
  rw [List.drop_eq_getElem?_toList_append, hx] at h
  refine cW_call h (fun l z => ?_) fun _ z => z
  cases l with
  | go s' => exact z
  | bk s' => exact cW_ok (K := K) (a := .go s') z
  | rt v => exact cW_ok (K := K) (a := .rt v) z
theorem cW_forR0 {K : Lp σ ρ → Prop} {xs : List β} {n : Nat} {s : σ} {f : σ → β → Rx (Lp σ ρ)} (hn : n = xs.length) (h : cW (forR (xs.drop n) s f) K E) : K (.go s) := by
  subst hn
  rw [List.drop_length] at h
  exact cW_ok h
theorem cW_whileR {K : Lp σ ρ → Prop} {m : Nat} {s : σ} {f : σ → Rx (Lp σ ρ)} (h : cW (whileR m s f) K E) :
    ∃ n, m = n + 1 ∧ cW (f s) (fun l => match l with | .go s' => cW (whileR n s' f) K E | .bk s' => K (.go s') | .rt v => K (.rt v)) E := by
  cases m with
  | zero => exact cW_bad h
  | succ n =>
    refine ⟨n, rfl, cW_call h (fun l z => ?_) fun _ z => z⟩
    cases l with
    | go s' => exact z
    | bk s' => exact cW_ok (K := K) (a := .go s') z
    | rt v => exact cW_ok (K := K) (a := .rt v) z
theorem cW_mapA {K : List α → Prop} {xs : List β} {acc : List α} {i : Nat} {x : β} {f : β → Rx α} (hx : xs[i]? = some x) (h : cW (mapA (xs.drop i) acc f) K E) :
    acc.length ≤ 1000000 ∧ cW (f x) (fun y => cW (mapA (xs.drop (i + 1)) (acc ++ [y]) f) K E) E := by
  rw [List.drop_eq_getElem?_toList_append, hx] at h
  obtain ⟨z, h⟩ := cW_grd h
  exact ⟨z, cW_call h (fun _ z => z) fun _ z => z⟩
theorem cW_mapA0 {K : List α → Prop} {xs : List β} {acc : List α} {n : Nat} {f : β → Rx α} (hn : n = xs.length) (h : cW (mapA (xs.drop n) acc f) K E) : K acc := by
  subst hn
  rw [List.drop_length] at h
  exact cW_ok h
theorem cW_mapF {K : List α → Prop} {xs : List β} {acc : List α} {i : Nat} {x : β} {f : β → Rx (Option α)} (hx : xs[i]? = some x) (h : cW (mapF (xs.drop i) acc f) K E) :
    acc.length ≤ 1000000 ∧ cW (f x) (fun y => match y with | some z => cW (mapF (xs.drop (i + 1)) (acc ++ [z]) f) K E | none => cW (mapF (xs.drop (i + 1)) acc f) K E) E := by
  rw [List.drop_eq_getElem?_toList_append, hx] at h
  obtain ⟨z, h⟩ := cW_grd h
  refine ⟨z, cW_call h (fun y z => ?_) fun _ z => z⟩
  cases y with
  | none => exact z
  | some w => exact z
theorem cW_mapF0 {K : List α → Prop} {xs : List β} {acc : List α} {n : Nat} {f : β → Rx (Option α)} (hn : n = xs.length) (h : cW (mapF (xs.drop n) acc f) K E) : K acc := by
  subst hn
  rw [List.drop_length] at h
  exact cW_ok h
end
/-- the numbers of a range -/
def rng (lo : Int) (n : Nat) : List Int := (List.range n).map fun (j : Nat) => lo + (j : Int)
theorem rng_get {lo : Int} {n i : Nat} (h : i < n) : (rng lo n)[i]? = some (lo + (i : Int)) := by
  unfold rng
  rw [List.getElem?_map, List.getElem?_range h] <;> rfl
theorem rng_len (lo : Int) (n : Nat) : (rng lo n).length = n := by
  unfold rng
  rw [List.length_map, List.length_range]

def rngD (lo : Int) (n : Nat) : List Int := (List.range n).map fun (j : Nat) => lo + (j : Int) * (-1)
theorem rngD_get {lo : Int} {n i : Nat} (h : i < n) : (rngD lo n)[i]? = some (lo + (i : Int) * (-1)) := by
  unfold rngD
  rw [List.getElem?_map, List.getElem?_range h] <;> rfl
theorem rngD_len (lo : Int) (n : Nat) : (rngD lo n).length = n := by
  unfold rngD
  rw [List.length_map, List.length_range]

/-! ### calls that may raise -/
/-- what a call with n values and keywords ks gives the parameters -/
structure Bnd (K : PySem.W.Frag) (fd : FuncData) (ps : List Str) (n : Nat) (ks : List Str) (g : List V → List V → List V) : Prop where
  to : ∀ (s : Shared) (us ws : List Value) (vs zs : List V), K.In s.heap → vs.length = n → zs.length = ks.length → Vals vs us → Vals zs ws → ∃ vv : List Value, BindsTo s fd ⟨us, ks.zip ws⟩ (ps.zip vv) ∧ Vals (g vs zs) vv
theorem Bnd.of_kbn {K : PySem.W.Frag} {fd : FuncData} {ps ks : List Str} {n : Nat} {g : List Value → List Value → List Value} {gV : List V → List V → List V} (b : KBn K fd ps n ks g gV) : Bnd K fd ps n ks gV :=
  ⟨fun s us ws vs zs X l1 l2 r rz => ⟨g us ws, b.to s us ws X (r.length.symm.trans l1) (rz.length.symm.trans l2), b.rel r rz⟩⟩
theorem Bnd.all {K : PySem.W.Frag} {fd : FuncData} {ps ks : List Str} {n : Nat} {g : List V → List V → List V} (h : ∀ (us ws : List Value) (vs zs : List V), vs.length = n → zs.length = ks.length → Vals vs us → Vals zs ws →
    ∃ vv : List Value, bindArgs fd ⟨us, ks.zip ws⟩ = pure (ps.zip vv) ∧ Vals (g vs zs) vv) : Bnd K fd ps n ks g :=
  ⟨fun s us ws vs zs _ l1 l2 r rz => by
    obtain ⟨vv, e, q⟩ := h us ws vs zs l1 l2 r rz
    exact ⟨vv, BindsTo.of_eq e, q⟩⟩
abbrev Pat := Nat × List Str × (List V → List V → List V)
def Bnd1 (K : PySem.W.Frag) (fd : FuncData) (ps : List Str) (p : Pat) : Prop := Bnd K fd ps p.1 p.2.1 p.2.2
section
variable {P : Program} {w : World} {K : PySem.W.Frag} {mg : Str → Option Value} {base : Heap}
/-- a def of the top, with the ways it is called -/
structure DefX (K : PySem.W.Frag) (mg : Str → Option Value) (x : Str) (st : Stmt) (ps : List Str) (pats : List Pat) : Prop where
  ex : ∃ (f : Addr) (fd : FuncData) (dvs : List V) (kws : List (Str × V)), FunD K x x (defArgs st) (defBody st) (defScope st) dvs kws f fd ∧ mg x = some (.ref f) ∧ ∀ p ∈ pats, Bnd1 K fd ps p
structure CalX (P : Program) (w : World) (K : PySem.W.Frag) (mg : Str → Option Value) (base : Heap) (k : Nat) (x : Str) (sp : Sp) (pats : List Pat) : Prop where
  ex : ∃ (f : Addr) (fd : FuncData) (ps : List Str), FnG P w K mg base (L2.CX P w) k f fd ps sp ∧ mg x = some (.ref f) ∧ PySem.W.keepIn K (.ref f) = true ∧ ∀ p ∈ pats, Bnd1 K fd ps p
abbrev BodyX (P : Program) (w : World) (K : PySem.W.Frag) (mg : Str → Option Value) (base : Heap) (x : Str) (st : Stmt) (N : List Str) (k : Nat) (sp : Sp) : Prop :=
  ∀ (f : Addr) (cdv : Value) (A : Around) (outer : List Env) (s : Shared) (H : Hp) (vs : List V) (Q : VK) (E : XK), RoomG k (A.deeper (envOfC x (defScope st) s.heap.objs.size f cdv)) → sp vs H Q E →
    ∃ t, PSs (cxOf (L2.CX P w) P w K mg base N x (defScope st) f cdv A outer s H E) (defBody st) t ∧ t { nx := fun _ H' => Q .non H', rt := Q } (start N vs) H
theorem DefX.ok {x : Str} {st : Stmt} {N ps : List Str} {pats : List Pat} {k : Nat} {sp : Sp} (D : DefX K mg x st ps pats) (S : FnScope N ps (defScope st)) (len : ∀ vs H Q E, sp vs H Q E → vs.length = ps.length)
    (hbody : BodyX P w K mg base x st N k sp) : CalX P w K mg base (k + 1) x sp pats := by
  obtain ⟨f, fd, dvs, kws, F, hm, b⟩ := D.ex
  exact ⟨f, fd, ps, FnG.body F S len (fun cdv A outer s H vs Q E hr h => hbody f cdv A outer s H vs Q E hr h), hm, F.kp, b⟩
end
section
variable {X : Cx} {k j n : Nat} {f : Addr} {fd : FuncData} {ps ks : List Str} {g : List V → List V → List V} {sp : Sp} {x : Str} {pos p : Pos} {e : Expr} {es : List Expr} {kws : List Keyword} {t tk : TA} {W : WX}
theorem run_X {pins : List (Addr × Obj)} {σ : L2.St} {H : Hp} {s : Shared} {Q : VK} {us ws : List Value} {vs zs : List V} (F : FnG X.prog X.w X.K X.mg X.base (L2.CX X.prog X.w) k f fd ps sp) (hr : RoomG k X.A) (hb : Bnd X.K fd ps n ks g) (tkW : Takes X W)
    (I : Inv X pins σ H s) (r : Vals vs us) (rz : Vals zs ws) (l1 : vs.length = n) (l2 : zs.length = ks.length) (h : sp (g vs zs) H Q (WE W σ)) :
    wpAny (model X.prog X.w) X.A (call (.ref f) us (ks.zip ws)) (EP X pins σ Q) X.xe s := by
  obtain ⟨vv, b, r2⟩ := hb.to s us ws vs zs I.kIn l1 l2 r rz
  refine wpAny_call (codeAny_mono (F.run X.A X.stack s H ⟨us, ks.zip ws⟩ vv (g vs zs) Q (WE W σ) hr I.env0 b r2 h) fun rr s' hq => ?_)
  cases rr with
  | error er => exact passAt tkW σ pins H s er s' I hq
  | ok fl =>
    cases fl with
    | ret u => exact I.after hq
    | next => exact hq.elim
    | brk => exact hq.elim
    | cont => exact hq.elim
/-- f(e, .., k = v, ..) -/
def tCallX (n m : Nat) (sp : Sp) (g : List V → List V → List V) (W : WX) (t tk : TA) : TE := fun σ H Q => t σ H fun vs H1 => tk σ H1 fun zs H2 => vs.length = n ∧ zs.length = m ∧ sp (g vs zs) H2 Q (WE W σ)
theorem vx_callX {pats : List Pat} (c : CalX X.prog X.w X.K X.mg X.base k x sp pats) (pt : Pat) (hpt : pt ∈ pats) (hr : RoomG j X.A) (hk : k ≤ j) (tkW : Takes X W) (hg : Gl X x) (ha : PA X (e :: es) t) (hkw : PK X kws tk)
    (hall : (backToKw pos (keywordEach kws X.env)).all (·.1.isSome) = true := by rfl) (hks : (backToKw pos (keywordEach kws X.env)).filterMap (·.1) = pt.2.1 := by rfl)
    (hdb : (x == ("__debug__" : Str)) = false := by decide) (he : starEach (e :: es) X.env = (false, eval e X.env) :: starEach es X.env := by rfl)
    (hpl : ((backTo pos (starEach (e :: es) X.env)).any (·.1) || (backToKw pos (keywordEach kws X.env)).any (·.1.isNone)) = false := by rfl) :
    PE X (.Call (.Name x p) (e :: es) kws pos) (tCallX pt.1 pt.2.1.length sp pt.2.2 W t tk) := by
  obtain ⟨f, fd, ps, F, hm, kp, b⟩ := c.ex
  refine ⟨fun pins s σ H Q I h => ?_⟩
  refine wpAny_Call_Name_kw (ld_glob I hg hm ?_ hdb)
  refine PySem.W.callWith_KW (h₀ := X.base) I.ok.mod.kin kp hall (thn (ha.run pos pins s σ H _ I h) fun us s1 ⟨vs, H1, I1, r, q⟩ => ?_) hpl he
  refine thn (hkw.run pos pins s1 σ H1 _ I1 q) fun ws s2 ⟨zs, H2, I2, rz, l1, l2, q2⟩ => ⟨I2.kIn, ?_⟩
  rw [hks]
  exact run_X F (hr.low hk) (b pt hpt) tkW I2 r rz l1 l2 q2
theorem vx_callX0 {pats : List Pat} (c : CalX X.prog X.w X.K X.mg X.base k x sp pats) (pt : Pat) (hpt : pt ∈ pats) (hr : RoomG j X.A) (hk : k ≤ j) (tkW : Takes X W) (hg : Gl X x) (hks : pt.2.1 = [] := by rfl)
    (hdb : (x == ("__debug__" : Str)) = false := by decide) : PE X (.Call (.Name x p) [] [] pos) (tCallX pt.1 pt.2.1.length sp pt.2.2 W tNil tNil) := by
  obtain ⟨f, fd, ps, F, hm, kp, b⟩ := c.ex
  refine ⟨fun pins s σ H Q I h => ?_⟩
  refine wpAny_Call_Name_kw (ld_glob I hg hm ?_ hdb)
  obtain ⟨l1, l2, q2⟩ := h
  have hz := run_X (us := []) (ws := []) F (hr.low hk) (b pt hpt) tkW I .nil .nil l1 l2 q2
  rw [hks] at hz
  exact PySem.W.callWith_K0 I.kIn kp hz
end
/-! ### borrowed things -/
theorem Sep.bM {M : List Addr} {H0 G0 G H : Hp} {O : List (Addr)} (S : Sep M H0 G0 G H O) : Same (hideL M H0) H := fun b o e => by
  by_cases h : b ∈ M
  · rw [hideL_in h] at e
    cases e
  · rw [hideL_out h] at e
    exact S.base b o e h
theorem b_ne {M : List Addr} {H0 G0 G H : Hp} {O : List Addr} {a b : Addr} {o : HO} (h : (hideL M H0) a = some o) (S : Sep M H0 G0 G H O) (hb : b ∈ O) : a ≠ b := fun z => by
  subst z
  rcases (S.ow a hb).2.2 with q | q
  · rw [hideL_in q] at h
    cases h
  · by_cases hM : a ∈ M
    · rw [hideL_in hM] at h
      cases h
    · rw [hideL_out hM, q] at h
      cases h
theorem hide0 {H : Hp} : hideL [] H = H := by
  funext b
  unfold hideL
  rw [if_neg List.not_mem_nil]
theorem hide_nil {H : Hp} {a : Addr} {o : HO} (h : H a = some o) : (hideL [] H) a = some o := by
  rw [hide0]
  exact h
theorem Rp.hide_nil {H : Hp} {v : V} {d : PyData} (h : Rp H v d) : Rp (hideL [] H) v d := by
  rw [hide0]
  exact h
theorem Sep.startM {M : List Addr} {G H : Hp} (e : Same G H) (hM : ∀ a ∈ M, H a ≠ none) (hG : ∀ a ∈ M, G a = none) : Sep M H G G H M :=
  ⟨fun _ _ e _ => e, hM, e, Same.refl _, fun _ _ e => e, fun a ha => ⟨hG a ha, hM a ha, .inl ha⟩⟩
theorem Sep.gno {M : List Addr} {H0 G0 G H : Hp} {O L : List Addr} (S : Sep M H0 G0 G H O) (h : ∀ a ∈ L, a ∈ O) : ∀ a ∈ L, G a = none := fun a ha => (S.ow a (h a ha)).1
theorem RpAll.ixD {α : Type} [Inhabited α] {f : α → PyData} {H : Hp} {vs : List V} {xs : List α} {k : Int} (r : RpAll H vs (xs.map f)) (h : -(xs.length : Int) ≤ k ∧ k < xs.length) : ∃ v, atI vs k = some v ∧ Rp H v (f (itD xs k)) := by
  obtain ⟨v, x, h1, h2, h3⟩ := RpAll.ix r h
  refine ⟨v, h1, ?_⟩
  unfold itD
  rw [h2]
  exact h3
theorem tru_all {α : Type} [DecidableEq α] {f : α → PyData} {H : Hp} {vs : List V} {xs : List α} (r : RpAll H vs (xs.map f)) : (!decide (xs = [])) = !vs.isEmpty := by
  have h := r.len
  rw [List.length_map] at h
  cases xs <;> cases vs <;> simp_all
theorem ix_nn {α : Type} {xs : List α} {k : Int} (h0 : 0 ≤ k) (h1 : k < xs.length) : -(xs.length : Int) ≤ k ∧ k < xs.length := ⟨by omega, h1⟩
theorem all_nilQ {α : Type} {P : α → Prop} : ∀ x ∈ ([] : List α), P x := fun x h => by cases h
theorem all_consQ {α : Type} {P : α → Prop} {a : α} {l : List α} (h : P a) (t : ∀ x ∈ l, P x) : ∀ x ∈ a :: l, P x := fun x hx => by
  rcases List.mem_cons.mp hx with rfl | hx
  · exact h
  · exact t x hx
theorem mem_one {a b : Nat} (h : a ∈ [b]) : a = b := by simpa using h
theorem mem_cons2 {a b : Nat} {l : List Nat} (h : a ∈ b :: l) : a = b ∨ a ∈ l := List.mem_cons.mp h
theorem len0 {α : Type} {l : List α} (h : l.length = 0) : l = [] := List.length_eq_zero_iff.mp h
theorem len1 {α : Type} {l : List α} (h : l.length = 1) : ∃ a, l = [a] := List.length_eq_one_iff.mp h
theorem len_s {α : Type} {l : List α} {n : Nat} (h : l.length = n + 1) : ∃ a r, l = a :: r ∧ r.length = n := by
  cases l with
  | nil => cases h
  | cons a r => exact ⟨a, r, rfl, Nat.succ.inj h⟩
theorem len2 {α : Type} {l : List α} (h : l.length = 2) : ∃ a b, l = [a, b] := by
  obtain ⟨a, r, rfl, h2⟩ := len_s h
  obtain ⟨b, rfl⟩ := len1 h2
  exact ⟨a, b, rfl⟩
theorem len3 {α : Type} {l : List α} (h : l.length = 3) : ∃ a b c, l = [a, b, c] := by
  obtain ⟨a, r, rfl, h2⟩ := len_s h
  obtain ⟨b, c, rfl⟩ := len2 h2
  exact ⟨a, b, c, rfl⟩
theorem len4 {α : Type} {l : List α} (h : l.length = 4) : ∃ a b c d, l = [a, b, c, d] := by
  obtain ⟨a, r, rfl, h2⟩ := len_s h
  obtain ⟨b, c, d, rfl⟩ := len3 h2
  exact ⟨a, b, c, d, rfl⟩
theorem len5 {α : Type} {l : List α} (h : l.length = 5) : ∃ a b c d e, l = [a, b, c, d, e] := by
  obtain ⟨a, r, rfl, h2⟩ := len_s h
  obtain ⟨b, c, d, e, rfl⟩ := len4 h2
  exact ⟨a, b, c, d, e, rfl⟩
theorem len6 {α : Type} {l : List α} (h : l.length = 6) : ∃ a b c d e f, l = [a, b, c, d, e, f] := by
  obtain ⟨a, r, rfl, h2⟩ := len_s h
  obtain ⟨b, c, d, e, f, rfl⟩ := len5 h2
  exact ⟨a, b, c, d, e, f, rfl⟩
theorem len7 {α : Type} {l : List α} (h : l.length = 7) : ∃ a b c d e f g, l = [a, b, c, d, e, f, g] := by
  obtain ⟨a, r, rfl, h2⟩ := len_s h
  obtain ⟨b, c, d, e, f, g, rfl⟩ := len6 h2
  exact ⟨a, b, c, d, e, f, g, rfl⟩
def rLenTK (K : PySem.W.Frag) : List V → Hp → VK → Prop := fun xs H Q => ∃ (p : Addr) (vs : List V) (n : Nat), xs = [.ref p] ∧ SqT K H p vs ∧ vs.length = n ∧ Q (.int (n : Int)) H
theorem call_lenTK {X : Cx} {K : PySem.W.Frag} (hK : X.K = K := by rfl) : CallR X (.builtin "len") (rLenTK K) := by
  subst hK
  intro pins s σ H xs us Q I r h
  obtain ⟨p, vs, n, rfl, hs, hn, q⟩ := h
  exact call_len_seq pins s σ H _ us Q I r ⟨p, _, rfl, Or.inr hs, by rw [hn]; exact q⟩
theorem exm_mk {K : PySem.W.Frag} {S C : Addr} (h1 : PySem.W.subIn K (.ref C) (.type "BaseException") = some true) (h2 : PySem.W.isClsIn K C = true) (h3 : PySem.W.typeIn K (.ref C) = some (.type "type")) (h4 : PySem.W.subIn K (.ref S) (.ref C) = some true) :
    PySem.W.exmOne K (.ref S) (.ref C) = some true := by
  unfold PySem.W.isClsIn at h2
  unfold PySem.W.exmOne
  unfold PySem.W.kitCls
  simp only [h1, h2, h3, h4, beq_self_eq_true, Bool.and_self, if_true]
theorem kit_mk {K : PySem.W.Frag} {S C : Addr} (h2 : PySem.W.isClsIn K C = true) (h3 : PySem.W.typeIn K (.ref C) = some (.type "type")) (h4 : PySem.W.subIn K (.ref S) (.ref C) = some true) :
    PySem.W.kitOne K (.ref S) (.ref C) = some true := by
  unfold PySem.W.isClsIn at h2
  unfold PySem.W.kitOne
  split
  · rfl
  · unfold PySem.W.kitCls
    simp only [h2, h3, h4, beq_self_eq_true, Bool.and_self, if_true]
/-- isinstance(e, C) of the exception in hand -/
def rIsX (K : PySem.W.Frag) (a : Addr) (cls : Value) (d : Option Addr) : List V → Hp → VK → Prop := fun xs H Q => ∃ (D C : Addr) (b : Bool), cls = .ref D ∧ d = none ∧ ExcC K D ∧ xs = [.ref a, .ref C] ∧ PySem.W.kitOne K (.ref D) (.ref C) = some b ∧ Q (.bl b) H
theorem call_isX {X : Cx} {K : PySem.W.Frag} {a : Addr} {cls : Value} {d : Option Addr} {oe : Obj} {pn : List (Addr × Obj)} (hz : Zc cls d oe) (hf : ∃ vs, oe.data = .fields vs) (hK : X.K = K := by rfl) : CallR (X.suite a ((a, oe) :: pn)) (.builtin "isinstance") (rIsX K a cls d) := by
  subst hK
  intro pins s σ H xs us Q I r h
  obtain ⟨D, C, b, rfl, rfl, c, rfl, e, q⟩ := h
  exact call_isE c hz hf pins s σ H _ us Q I r ⟨_, _, b, rfl, fun u z => z, e, q⟩
/-! ### unpacking a list -/
section
variable {X : Cx} {K : PySem.W.Frag} {pos : Pos}
theorem pg_seqK {es : List Expr} {k : Nat} {t : TGs} {n : Nat} (h : PGs X es t) (hc : X.calm = true := by rfl) (hK : X.K = K := by rfl)
    (hn : (assignEach es X.env).length = n := by rfl) (hst : (assignEach es X.env).findIdx? (·.1) = none := by rfl) : PG X (.Tuple es k pos) (gLst K n t) := hK ▸ pg_lst hc h hn hst
end
theorem SqL.cast {K : PySem.W.Frag} {H : Hp} {a : Addr} {xs ys : List V} (h : SqL K H a xs) (e : xs = ys) : SqL K H a ys := e ▸ h
section
variable {α : Type} [Inhabited α] {f : α → V}
theorem unp2 {xs : List α} (h : xs.length = 2) : xs.map f = [f (itD xs 0), f (itD xs 1)] := by
  obtain ⟨a, b, rfl⟩ := len2 h
  rfl
theorem unp3 {xs : List α} (h : xs.length = 3) : xs.map f = [f (itD xs 0), f (itD xs 1), f (itD xs 2)] := by
  obtain ⟨a, b, c, rfl⟩ := len3 h
  rfl
theorem unp4 {xs : List α} (h : xs.length = 4) : xs.map f = [f (itD xs 0), f (itD xs 1), f (itD xs 2), f (itD xs 3)] := by
  obtain ⟨a, b, c, d, rfl⟩ := len4 h
  rfl
theorem unp6 {xs : List α} (h : xs.length = 6) : xs.map f = [f (itD xs 0), f (itD xs 1), f (itD xs 2), f (itD xs 3), f (itD xs 4), f (itD xs 5)] := by
  obtain ⟨a, b, c, d, e, g, rfl⟩ := len6 h
  rfl
theorem unp8 {xs : List α} (h : xs.length = 8) : xs.map f = [f (itD xs 0), f (itD xs 1), f (itD xs 2), f (itD xs 3), f (itD xs 4), f (itD xs 5), f (itD xs 6), f (itD xs 7)] := by
  obtain ⟨a, r, rfl, h2⟩ := len_s h
  obtain ⟨b, c, d, e, g, i, j, rfl⟩ := len7 h2
  rfl
end
/-! ### classes -/
section
variable {P : Program} {w : World} {K : PySem.W.Frag} {mg : Str → Option Value} {base : Heap}
structure MethX (K : PySem.W.Frag) (C : Addr) (q m : Str) (st : Stmt) (ps : List Str) (pats : List Pat) : Prop where
  ex : ∃ (f : Addr) (fd : FuncData) (dvs : List V) (kws : List (Str × V)), FunD K m q (defArgs st) (defBody st) (defScope st) dvs kws f fd ∧ Meth K C m f ∧ ∀ p ∈ pats, Bnd1 K fd ps p
structure InitX (K : PySem.W.Frag) (mg : Str → Option Value) (C : Addr) (cn q : Str) (st : Stmt) (ps : List Str) (pats : List Pat) : Prop where
  ex : ∃ (f : Addr) (fd : FuncData) (dvs : List V) (kws : List (Str × V)), FunD K "__init__" q (defArgs st) (defBody st) (defScope st) dvs kws f fd ∧ Mk K C f ∧ mg cn = some (.ref C) ∧ ∀ p ∈ pats, Bnd1 K fd ps p
structure PropX (K : PySem.W.Frag) (C : Addr) (q m : Str) (st : Stmt) (ps : List Str) (pats : List Pat) : Prop where
  ex : ∃ (r f : Addr) (fd : FuncData) (dvs : List V) (kws : List (Str × V)), FunD K m q (defArgs st) (defBody st) (defScope st) dvs kws f fd ∧ PropOf K C m r f ∧ Binds K fd ps []
structure MetX (P : Program) (w : World) (K : PySem.W.Frag) (mg : Str → Option Value) (base : Heap) (k : Nat) (C : Addr) (m : Str) (sp : Sp) (pats : List Pat) : Prop where
  ex : ∃ (f : Addr) (fd : FuncData) (ps : List Str), Cls K C ∧ Meth K C m f ∧ FnG P w K mg base (L2.CX P w) k f fd ps sp ∧ ∀ p ∈ pats, Bnd1 K fd ps p
structure PropY (P : Program) (w : World) (K : PySem.W.Frag) (mg : Str → Option Value) (base : Heap) (k : Nat) (C : Addr) (m : Str) (sp : Sp) (pats : List Pat) : Prop where
  ex : ∃ (q f : Addr) (fd : FuncData) (ps : List Str), Cls K C ∧ PropOf K C m q f ∧ FnG P w K mg base (L2.CX P w) k f fd ps sp ∧ Binds K fd ps []
structure MakX (P : Program) (w : World) (K : PySem.W.Frag) (mg : Str → Option Value) (base : Heap) (k : Nat) (cn : Str) (C : Addr) (sp : Sp) (pats : List Pat) : Prop where
  ex : ∃ (f : Addr) (fd : FuncData) (ps : List Str), Mk K C f ∧ FnG P w K mg base (L2.CX P w) k f fd ps sp ∧ mg cn = some (.ref C) ∧ ∀ p ∈ pats, Bnd1 K fd ps p
theorem MethX.ok {C : Addr} {q m : Str} {st : Stmt} {N ps : List Str} {pats : List Pat} {k : Nat} {sp : Sp} (D : MethX K C q m st ps pats) (c : Cls K C) (S : FnScope N ps (defScope st)) (len : ∀ vs H Q E, sp vs H Q E → vs.length = ps.length)
    (hbody : BodyX P w K mg base q st N k sp) : MetX P w K mg base (k + 1) C m sp pats := by
  obtain ⟨f, fd, dvs, kws, F, me, b⟩ := D.ex
  exact ⟨f, fd, ps, c, me, FnG.body F S len (fun cdv A outer s H vs Q E hr h => hbody f cdv A outer s H vs Q E hr h), b⟩
theorem PropX.ok {C : Addr} {q m : Str} {st : Stmt} {N ps : List Str} {pats : List Pat} {k : Nat} {sp : Sp} (D : PropX K C q m st ps pats) (c : Cls K C) (S : FnScope N ps (defScope st)) (len : ∀ vs H Q E, sp vs H Q E → vs.length = ps.length)
    (hbody : BodyX P w K mg base q st N k sp) : PropY P w K mg base (k + 1) C m sp pats := by
  obtain ⟨r, f, fd, dvs, kws, F, me, b⟩ := D.ex
  exact ⟨r, f, fd, ps, c, me, FnG.body F S len (fun cdv A outer s H vs Q E hr h => hbody f cdv A outer s H vs Q E hr h), b⟩
theorem InitX.ok {C : Addr} {cn q : Str} {st : Stmt} {N ps : List Str} {pats : List Pat} {k : Nat} {sp : Sp} (D : InitX K mg C cn q st ps pats) (S : FnScope N ps (defScope st)) (len : ∀ vs H Q E, sp vs H Q E → vs.length = ps.length)
    (hbody : BodyX P w K mg base q st N k sp) : MakX P w K mg base (k + 1) cn C sp pats := by
  obtain ⟨f, fd, dvs, kws, F, me, hm, b⟩ := D.ex
  exact ⟨f, fd, ps, me, FnG.body F S len (fun cdv A outer s H vs Q E hr h => hbody f cdv A outer s H vs Q E hr h), hm, b⟩
end
theorem cW_callN {α β : Type} {m : Rx β} {f : β → Rx α} {K : α → Prop} {E : Nat → Prop} {K2 : β → Prop} {E2 : Nat → Prop} (h : cW ((noEr m).bind f) K E) (ho : ∀ v, cW (f v) K E → K2 v) (_ : True) : cW m K2 E2 := by
  cases m with
  | ok a => exact cW_mk (ho a h)
  | er e => exact cW_bad (α := α) h
  | bad => exact cW_bad (α := α) h
section
variable {X : Cx} {k j n : Nat} {f C : Addr} {fd : FuncData} {ps ks : List Str} {g : List V → List V → List V} {sp : Sp} {x m : Str} {pos p apos : Pos} {e o : Expr} {es : List Expr} {kws : List Keyword} {ta : TE} {t tk : TA} {W : WX}
theorem run_mkX {pins : List (Addr × Obj)} {σ : L2.St} {H : Hp} {s : Shared} {Q : VK} {us ws : List Value} {vs zs : List V} (M : Mk X.K C f) (F : FnG X.prog X.w X.K X.mg X.base (L2.CX X.prog X.w) k f fd ps sp) (hr : RoomG (k + 1) X.A) (hb : Bnd X.K fd ps n ks g) (tkW : Takes X W)
    (I : Inv X pins σ H s) (r : Vals vs us) (rz : Vals zs ws) (l1 : vs.length + 1 = n) (l2 : zs.length = ks.length)
    (h : ∀ x dx, H x = none → H dx = none → dx ≠ x → sp (g (.ref x :: vs) zs) (upd (upd H dx (.own x)) x (.ins C dx [])) (fun v H2 => v = .non ∧ Q (.ref x) H2) (WE W σ)) :
    wpAny (model X.prog X.w) X.A (call (.ref C) us (ks.zip ws)) (EP X pins σ Q) X.xe s := by
  have hq := h (s.heap.objs.size + 1) s.heap.objs.size (I.hok.fresh (Nat.le_succ _)) (I.hok.fresh (Nat.le_refl _)) (Nat.ne_of_lt (Nat.lt_succ_self _))
  have I2 := Inv.made (C := C) I
  have r1 : Vals (V.ref (s.heap.objs.size + 1) :: vs) (Value.ref (s.heap.objs.size + 1) :: us) := .cons rfl r
  obtain ⟨vv, b, r2⟩ := hb.to _ (Value.ref (s.heap.objs.size + 1) :: us) ws (V.ref (s.heap.objs.size + 1) :: vs) zs I2.kIn (by rw [List.length_cons, l1]) l2 r1 rz
  refine wpAny_call (make_map (f := f) I.kIn M.makes M.init (beq_iff_eq.mp M.fn) (codeAny_mono (F.run _ X.stack _ _ ⟨Value.ref (s.heap.objs.size + 1) :: us, ks.zip ws⟩ vv _ _ (WE W σ) (hr.made C us (ks.zip ws))
    (I2.env0.make C us (ks.zip ws)) b r2 hq) fun r s' hq' => ?_))
  cases r with
  | error e => exact passAt tkW σ pins _ _ e s' I2 hq'
  | ok fl =>
    cases fl with
    | ret u =>
      obtain ⟨v, H', I3, rv, ev, q3⟩ := I2.after hq'
      subst ev
      exact ⟨rv, ⟨V.ref (s.heap.objs.size + 1), H', I3, rfl, q3⟩⟩
    | next => exact False.elim hq'
    | brk => exact False.elim hq'
    | cont => exact False.elim hq'
/-- C(e, .., k = v, ..) -/
def tMakeX (C : Addr) (n m : Nat) (sp : Sp) (g : List V → List V → List V) (W : WX) (t tk : TA) : TE := fun σ H Q => t σ H fun vs H1 => tk σ H1 fun zs H2 => vs.length + 1 = n ∧ zs.length = m ∧ ∀ x dx, H2 x = none → H2 dx = none → dx ≠ x →
  sp (g (.ref x :: vs) zs) (upd (upd H2 dx (.own x)) x (.ins C dx [])) (fun v H3 => v = .non ∧ Q (.ref x) H3) (WE W σ)
theorem vx_makeX {pats : List Pat} (c : MakX X.prog X.w X.K X.mg X.base k x C sp pats) (pt : Pat) (hpt : pt ∈ pats) (hr : RoomG j X.A) (hk : k + 1 ≤ j) (tkW : Takes X W) (hg : Gl X x) (ha : PA X (e :: es) t) (hkw : PK X kws tk)
    (hall : (backToKw pos (keywordEach kws X.env)).all (·.1.isSome) = true := by rfl) (hks : (backToKw pos (keywordEach kws X.env)).filterMap (·.1) = pt.2.1 := by rfl) (hdb : (x == ("__debug__" : Str)) = false := by decide)
    (he : starEach (e :: es) X.env = (false, eval e X.env) :: starEach es X.env := by rfl) (hpl : ((backTo pos (starEach (e :: es) X.env)).any (·.1) || (backToKw pos (keywordEach kws X.env)).any (·.1.isNone)) = false := by rfl) :
    PE X (.Call (.Name x p) (e :: es) kws pos) (tMakeX C pt.1 pt.2.1.length sp pt.2.2 W t tk) := by
  obtain ⟨f, fd, ps, M, F, hm, b⟩ := c.ex
  refine ⟨fun pins s σ H Q I h => ?_⟩
  refine wpAny_Call_Name_kw (ld_glob I hg hm ?_ hdb)
  refine PySem.W.callWith_KW (h₀ := X.base) I.ok.mod.kin M.kp hall (thn (ha.run pos pins s σ H _ I h) fun us s1 ⟨vs, H1, I1, r, q⟩ => ?_) hpl he
  refine thn (hkw.run pos pins s1 σ H1 _ I1 q) fun ws s2 ⟨zs, H2, I2, rz, l1, l2, q2⟩ => ⟨I2.kIn, ?_⟩
  rw [hks]
  exact run_mkX M F (hr.low hk) (b pt hpt) tkW I2 r rz l1 l2 q2
theorem vx_makeX0 {pats : List Pat} (c : MakX X.prog X.w X.K X.mg X.base k x C sp pats) (pt : Pat) (hpt : pt ∈ pats) (hr : RoomG j X.A) (hk : k + 1 ≤ j) (tkW : Takes X W) (hg : Gl X x) (hks : pt.2.1 = [] := by rfl)
    (hdb : (x == ("__debug__" : Str)) = false := by decide) : PE X (.Call (.Name x p) [] [] pos) (tMakeX C pt.1 pt.2.1.length sp pt.2.2 W tNil tNil) := by
  obtain ⟨f, fd, ps, M, F, hm, b⟩ := c.ex
  refine ⟨fun pins s σ H Q I h => ?_⟩
  refine wpAny_Call_Name_kw (ld_glob I hg hm ?_ hdb)
  obtain ⟨l1, l2, q2⟩ := h
  have hz := run_mkX (us := []) (ws := []) M F (hr.low hk) (b pt hpt) tkW I .nil .nil l1 l2 q2
  rw [hks] at hz
  exact PySem.W.callWith_K0 I.kIn M.kp hz
/-- o.m(e, .., k = v, ..) -/
def tMethX (C : Addr) (m : Str) (n mm : Nat) (sp : Sp) (g : List V → List V → List V) (W : WX) (ta : TE) (t tk : TA) : TE := fun σ H Q => ta σ H fun x H1 => ∃ a dx fs, x = .ref a ∧ H1 a = some (.ins C dx fs) ∧ fs.lookup m = none ∧
  t σ H1 fun vs H2 => tk σ H2 fun zs H3 => (x :: vs).length = n ∧ zs.length = mm ∧ sp (g (x :: vs) zs) H3 Q (WE W σ)
theorem vx_methX {pats : List Pat} {pl : Sem Bool} (c : MetX X.prog X.w X.K X.mg X.base k C m sp pats) (pt : Pat) (hpt : pt ∈ pats) (hr : RoomG j X.A) (hk : k ≤ j) (tkW : Takes X W) (he : PE X o ta) (ha : PA X (e :: es) t) (hkw : PK X kws tk)
    (hall : (backToKw pos (keywordEach kws X.env)).all (·.1.isSome) = true := by rfl) (hks : (backToKw pos (keywordEach kws X.env)).filterMap (·.1) = pt.2.1 := by rfl)
    (hst : starEach (e :: es) X.env = (false, eval e X.env) :: starEach es X.env := by rfl) (hpl : ((backTo pos (starEach (e :: es) X.env)).any (·.1) || (backToKw pos (keywordEach kws X.env)).any (·.1.isNone)) = false := by rfl)
    (ht : eval (.Call (.Attribute o m apos) (e :: es) kws pos) X.env = (do
      let ov ← eval o X.env
      standAt apos.atName
      let (f, first) ← holding [ov] (getMethod ov m pl)
      callWith pos f first (backTo pos (starEach (e :: es) X.env)) (backToKw pos (keywordEach kws X.env))) := by rfl) :
    PE X (.Call (.Attribute o m apos) (e :: es) kws pos) (tMethX C m pt.1 pt.2.1.length sp pt.2.2 W ta t tk) := by
  obtain ⟨f, fd, ps, hc, hm, F, b⟩ := c.ex
  refine ⟨fun pins s σ H Q I h => ?_⟩
  refine PySem.W.methodCall_KW (pl := pl) (thn (he.run pins s σ H _ I h) fun u s1 ⟨x, H1, I1, rx, a, dx, fs, ex, ea, l, q⟩ => ?_) ht
  subst ex
  obtain rfl : u = Value.ref a := rx
  refine getmeth_ok I1 ea hc hm l ?_
  refine PySem.W.callWith_KW (first := [.ref a]) (h₀ := X.base) I.ok.mod.kin hm.kp hall (thn (ha.run pos pins s1 σ H1 _ I1 q) fun us s2 ⟨vs, H2, I2, r, q2⟩ => ?_) hpl hst
  refine thn (hkw.run pos pins s2 σ H2 _ I2 q2) fun ws s3 ⟨zs, H3, I3, rz, l1, l2, q3⟩ => ⟨I3.kIn, ?_⟩
  rw [hks]
  exact run_X (us := .ref a :: us) (vs := .ref a :: vs) F (hr.low hk) (b pt hpt) tkW I3 (.cons rfl r) rz l1 l2 q3
theorem vx_methX0 {pats : List Pat} {pl : Sem Bool} (c : MetX X.prog X.w X.K X.mg X.base k C m sp pats) (pt : Pat) (hpt : pt ∈ pats) (hr : RoomG j X.A) (hk : k ≤ j) (tkW : Takes X W) (he : PE X o ta) (hks : pt.2.1 = [] := by rfl)
    (ht : eval (.Call (.Attribute o m apos) [] [] pos) X.env = (do
      let ov ← eval o X.env
      standAt apos.atName
      let (f, first) ← holding [ov] (getMethod ov m pl)
      callWith pos f first (backTo pos (starEach [] X.env)) (backToKw pos (keywordEach [] X.env))) := by rfl) :
    PE X (.Call (.Attribute o m apos) [] [] pos) (tMethX C m pt.1 pt.2.1.length sp pt.2.2 W ta tNil tNil) := by
  obtain ⟨f, fd, ps, hc, hm, F, b⟩ := c.ex
  refine ⟨fun pins s σ H Q I h => ?_⟩
  refine PySem.W.methodCall_KW (pl := pl) (thn (he.run pins s σ H _ I h) fun u s1 ⟨x, H1, I1, rx, a, dx, fs, ex, ea, l, q⟩ => ?_) ht
  subst ex
  obtain rfl : u = Value.ref a := rx
  refine getmeth_ok I1 ea hc hm l ?_
  obtain ⟨l1, l2, q3⟩ := q
  have hz := run_X (us := [.ref a]) (vs := [.ref a]) (ws := []) F (hr.low hk) (b pt hpt) tkW I1 (.cons rfl .nil) .nil l1 l2 q3
  rw [hks] at hz
  exact PySem.W.callWith_K0 (first := [.ref a]) I1.kIn hm.kp hz
theorem vx_propX {pats : List Pat} (c : PropY X.prog X.w X.K X.mg X.base k C m sp pats) (hr : RoomG j X.A) (hk : k + 1 ≤ j) (he : PE X o ta) (hab : attributeBase o m X.env (eval o X.env) = eval o X.env := by rfl) : PE X (.Attribute o m pos) (tProp C sp [] E0 ta) := by
  obtain ⟨q, f, fd, ps, cls, prop, F, bind⟩ := c.ex
  constructor
  intro pins s σ H Q I h
  refine attr_of hab (thn (he.run pins s σ H _ I h) ?_)
  rintro u s1 ⟨x, H1, I1, rx, a, dx, fs, rfl, ea, prom⟩
  cases rx
  obtain ⟨mA, O, _⟩ := ins_get I1.hok ea
  obtain ⟨od, J, _⟩ := O.look
  obtain ⟨rest, rec_⟩ := prop.rec_
  have short : [Value.ref a].length = ps.length := (F.len _ _ _ _ prom).symm ▸ rfl
  have isCls : (PySem.W.clsIn X.K C).isSome = true := by
    obtain ⟨cd, e, _⟩ := PySem.W.any_some cls.hd
    rw [e]
    rfl
  refine PySem.W.get_bind I1.kIn J (PySem.W.plainGet_of (cls.get m)).1 (PySem.W.findObj_data isCls prop.at_ prop.get prop.tak) (PySem.W.plainGet_of (cls.get m)).2 (wpAny_call (PySem.W.prop_get (s := { s1 with toks := s1.toks + 1 }) I1.kIn rec_ ?_))
  have I2 := I1.tok (s1.toks + 1)
  refine codeAny_mono (F.run X.A.in1 X.stack _ H1 ⟨[.ref a], []⟩ [.ref a] [.ref a] Q E0 (hr.low hk).one I2.env0.in1 (by simpa using bind _ [.ref a] I2.kIn (by simpa using short)) (.cons rfl .nil) prom) ?_
  intro r s2 out
  cases r with
  | error er => exact (passL (X := X.nox) pins σ H1 _ er s2 (I2.wish _) out).elim
  | ok flow =>
    cases flow with
    | ret v =>
      obtain ⟨y, H2, I3, ry, qy⟩ := I2.after out
      have given := PySem.W.handedOut_of (handed_of ry)
      show wpAny _ _ (handedOut v) _ _ s2
      rw [given]
      exact wpAny_pure ⟨y, H2, I3, ry, qy⟩
    | next => exact out.elim
    | brk => exact out.elim
    | cont => exact out.elim
end
theorem Sep.news {M : List Addr} {H0 G0 G H H' : Hp} {O : List Addr} (S : Sep M H0 G0 G H O) (e : Same H H') (L : List Addr) (hL : ∀ a ∈ L, H a = none ∧ H' a ≠ none ∧ H0 a = none) : Sep M H0 G0 G H' (L ++ O) := by
  have S2 := S.same e
  refine ⟨S2.base, S2.pm, S2.sG, S2.g0, S2.gn, fun a ha => ?_⟩
  rcases List.mem_append.mp ha with h | h
  · obtain ⟨h1, h2, h3⟩ := hL a h
    exact ⟨S.gfree h1, h2, .inr h3⟩
  · exact S2.ow a h
theorem vv_chain {r r' : R2} {ta tb tc : TE} {σ : L2.St} {H : Hp} {x y z : V} {a b : Bool} (ha : Val ta σ H x) (hb : Val tb σ H y) (hc : Val tc σ H z) (h1 : ∀ Q : VK, Q (.bl a) H → r x y H Q) (h2 : ∀ Q : VK, Q (.bl b) H → r' y z H Q) :
    Val (tChain r r' ta tb tc) σ H (.bl (a && b)) := fun Q q => ha _ (hb _ (h1 _ ⟨a, rfl, by
  cases a with
  | true =>
    rw [if_pos rfl]
    exact hc _ (h2 _ q)
  | false =>
    rw [if_neg Bool.false_ne_true]
    exact q⟩))
/-! ### constants that are tuples, lists backwards, zip -/
theorem inV_ints (x : Int) : ∀ xs : List Int, inV (V.int x) (xs.map V.int) = decide (x ∈ xs)
  | [] => by simp [inV]
  | y :: r => by
    have h := inV_ints x r
    unfold inV at h ⊢
    rw [List.map_cons, List.any_cons, h]
    by_cases c : x = y
    · subst c
      simp [eqV]
    · simp [eqV, c, Ne.symm c]
theorem flat_ints : ∀ xs : List Int, (xs.map V.int).all flatV = true
  | [] => rfl
  | _ :: r => flat_ints r
def rInI (K : PySem.W.Frag) : R2 := fun x y H Q => ∃ (i : Int) (p : Addr) (xs : List Int), x = .int i ∧ y = .ref p ∧ (SqL K H p (xs.map V.int) ∨ SqT K H p (xs.map V.int)) ∧ Q (.bl (decide (i ∈ xs))) H
def rNotInI (K : PySem.W.Frag) : R2 := fun x y H Q => ∃ (i : Int) (p : Addr) (xs : List Int), x = .int i ∧ y = .ref p ∧ (SqL K H p (xs.map V.int) ∨ SqT K H p (xs.map V.int)) ∧ Q (.bl (!decide (i ∈ xs))) H
theorem op_inI {X : Cx} {K : PySem.W.Frag} (hK : X.K = K := by rfl) : OpR X (compareOp .In) (rInI K) := by
  subst hK
  intro pins s σ H x y v u Q I rx ry h
  obtain ⟨i, p, xs, rfl, rfl, hs, q⟩ := h
  refine op_in_seq pins s σ H _ _ v u Q I rx ry ⟨p, _, rfl, hs, rfl, flat_ints xs, ?_⟩
  rw [if_neg Bool.false_ne_true, inV_ints]
  exact q
theorem op_notInI {X : Cx} {K : PySem.W.Frag} (hK : X.K = K := by rfl) : OpR X (compareOp .NotIn) (rNotInI K) := by
  subst hK
  intro pins s σ H x y v u Q I rx ry h
  obtain ⟨i, p, xs, rfl, rfl, hs, q⟩ := h
  refine op_notIn_seq pins s σ H _ _ v u Q I rx ry ⟨p, _, rfl, hs, rfl, flat_ints xs, ?_⟩
  rw [if_pos rfl, inV_ints]
  exact q
theorem pe_revLK {X : Cx} {K : PySem.W.Frag} {e : Expr} {te : TE} {k : Nat} {p1 p2 p3 pos : Pos} (he : PE X e te) (hK : X.K = K := by rfl) : PE X (.Subscript e (.Slice none none (some (.UnaryOp .USub (.Constant (.int 1) k p1) p2)) p3) pos) (tRevL K te) := hK ▸ pe_revL he
theorem rev_map {α : Type} {f : α → V} {xs : List α} {H : Hp} {p : Addr} (h : H p = some (.lst (xs.map f).reverse)) : H p = some (.lst (xs.reverse.map f)) := by
  rw [List.map_reverse]
  exact h
theorem RpAll.rev {G : Hp} : ∀ {vs : List V} {ds : List PyData}, RpAll G vs ds → RpAll G vs.reverse ds.reverse
  | _, _, .nil => .nil
  | _, _, .cons h t => by
    rw [List.reverse_cons, List.reverse_cons]
    exact (RpAll.rev t).append (.one h)
theorem rev_all {α : Type} {f : α → PyData} {xs : List α} {G : Hp} {vs : List V} (a : RpAll G vs (xs.map f)) : RpAll G vs.reverse (xs.reverse.map f) := by
  rw [List.map_reverse]
  exact a.rev
theorem pi_zipK {X : Cx} {K : PySem.W.Frag} {e e2 : Expr} {ta : TA} {p pos tpos : Pos} {elts : List Expr} {kk : Nat} (hg : Gl X "zip") (hm : X.mg "zip" = none) (ha : PA X [e, e2] ta) (hK : X.K = K := by rfl)
    (hs : starEach [e, e2] X.env = (false, eval e X.env) :: starEach [e2] X.env := by rfl) (hpl : (backTo pos (starEach [e2] X.env)).any (·.1) = false := by rfl) :
    PI X (.Tuple elts kk tpos) (.Call (.Name "zip" p) [e, e2] [] pos) (RZ.iZipA K ta) := hK ▸ RZ.pi_zipA hg hm ha hs hpl
/-- a comprehension over zip of two lists of one length -/
theorem lc_zipL {K : PySem.W.Frag} {a b : Addr} {xs ys : List V} {g : TG} {tt : TT} {te : TE} {vs : List Nat} {σ : L2.St} {H1 : Hp} {D : Addr} {Qd : Hp → Prop} (hl : xs.length = ys.length) (Pv : Nat → Hp → Prop) (h0 : Pv 0 (upd H1 D (.lst []))) (hq : ∀ i H, i ≤ xs.length → Pv i H → SqL K H a xs ∧ SqL K H b ys)
    (hs : ∀ (i : Nat) (x y : V) (T : Addr) (H : Hp), xs[i]? = some x → ys[i]? = some y → H T = none → Pv i H → g (.ref T) (wipe σ vs) (upd H T (.tup [x, y])) fun σ2 H2 => wipe σ2 vs = wipe σ vs ∧ tt σ2 H2 fun b H3 =>
      if b = true then te σ2 H3 fun y H4 => ∃ acc, H4 D = some (.lst acc) ∧ acc.length < sizeLine ∧ Pv (i + 1) (upd H4 D (.lst (acc ++ [y]))) else Pv (i + 1) H3) (hd : ∀ H, Pv xs.length H → Qd H) :
    ∃ W : Nat → Nat → Hp → Prop, (∃ m, W 0 m (upd H1 D (.lst []))) ∧ ∀ i m H, W i m H →
      ((Itz K a b).stop i H ∧ Qd H) ∨ ((Itz K a b).go i H ∧ ∃ Nx : Hp → Prop, (∀ H', Nx H' → ∃ m', m' < m ∧ W (i + 1) m' H') ∧ ∀ x H', (Itz K a b).yld i H x H' → g x (wipe σ vs) H' fun σ2 H2 => wipe σ2 vs = wipe σ vs ∧ tt σ2 H2 fun b H3 =>
        if b = true then te σ2 H3 fun y H4 => ∃ acc, H4 D = some (.lst acc) ∧ acc.length < sizeLine ∧ Nx (upd H4 D (.lst (acc ++ [y]))) else Nx H3) := by
  refine ⟨fun i m H => m = xs.length - i ∧ i ≤ xs.length ∧ Pv i H, ⟨xs.length, by simp, Nat.zero_le _, h0⟩, ?_⟩
  rintro i m H ⟨rfl, hi, p⟩
  obtain ⟨qx, qy⟩ := hq i H hi p
  by_cases hlt : i < xs.length
  · have hlt2 : i < ys.length := by omega
    refine .inr ⟨⟨xs, ys, xs[i], ys[i], qx, qy, List.getElem?_eq_getElem hlt, List.getElem?_eq_getElem hlt2⟩, Pv (i + 1), fun H' p' => ⟨xs.length - (i + 1), by omega, rfl, hlt, p'⟩, fun v H' y => ?_⟩
    obtain ⟨T, x', y', rfl, hT, rfl, f1, f2⟩ := y
    exact hs i x' y' T H (f1 xs qx) (f2 ys qy) hT p
  · have e : i = xs.length := by omega
    subst e
    exact .inl ⟨⟨xs, ys, qx, qy, Or.inl (Nat.le_refl _)⟩, hd H p⟩
theorem zip_get {α β : Type} {xs : List α} {ys : List β} {i : Nat} {x : α} {y : β} (h1 : xs[i]? = some x) (h2 : ys[i]? = some y) : (xs.zip ys)[i]? = some (x, y) := by
  rw [List.getElem?_zip_eq_some]
  exact ⟨h1, h2⟩
theorem zip_len {α β : Type} {xs : List α} {ys : List β} {n : Nat} (h : xs.length = ys.length) (e : n = xs.length) : n = (xs.zip ys).length := by
  rw [List.length_zip, ← h, Nat.min_self]
  exact e
theorem zlen {α β : Type} {vs ws : List V} {xs : List α} {ys : List β} (a : vs.length = xs.length) (b : ws.length = ys.length) (h : xs.length = ys.length) : vs.length = ws.length := by rw [a, b, h]
section
variable {t : TT} {ta tb : TE} {σ : L2.St} {H : Hp}
theorem vv_ifP {p : Prop} [Decidable p] {a b : Int} (ht : Ans t σ H (decide p)) (hx : p → Val ta σ H (.int a)) (hy : ¬ p → Val tb σ H (.int b)) : Val (tIf t ta tb) σ H (.int (if p then a else b)) := by
  by_cases h : p
  · have := vv_if (p := p) (a := a) (b := a) ht (hx h) (tb := ta) (hx h)
    intro Q q
    refine ht _ ?_
    rw [decide_eq_true h, if_pos rfl]
    rw [if_pos h] at q
    exact hx h _ q
  · intro Q q
    refine ht _ ?_
    rw [decide_eq_false h, if_neg Bool.false_ne_true]
    rw [if_neg h] at q
    exact hy h _ q
theorem vv_ifQ {c : Bool} {a b : Int} (ht : Ans t σ H c) (hx : c = true → Val ta σ H (.int a)) (hy : c = false → Val tb σ H (.int b)) : Val (tIf t ta tb) σ H (.int (if c = true then a else b)) := by
  intro Q q
  refine ht _ ?_
  cases c with
  | true =>
    rw [if_pos rfl]
    rw [if_pos rfl] at q
    exact hx rfl _ q
  | false =>
    rw [if_neg Bool.false_ne_true]
    rw [if_neg Bool.false_ne_true] at q
    exact hy rfl _ q
end
theorem kit_mk0 {K : PySem.W.Frag} {S C : Addr} (h1 : (Value.ref S == Value.ref C) = false) (h2 : PySem.W.isClsIn K C = true) (h3 : PySem.W.typeIn K (.ref C) = some (.type "type")) (h4 : PySem.W.subIn K (.ref S) (.ref C) = some false) :
    PySem.W.kitOne K (.ref S) (.ref C) = some false := by
  unfold PySem.W.isClsIn at h2
  unfold PySem.W.kitOne
  rw [if_neg (by rw [h1]; exact Bool.false_ne_true)]
  unfold PySem.W.kitCls
  simp only [h2, h3, h4, beq_self_eq_true, Bool.and_self, if_true]
theorem vv_call2 {ta tb : TE} {σ : L2.St} {H : Hp} {x y z : V} {r : List V → Hp → VK → Prop} (ha : Val ta σ H x) (hb : Val tb σ H y) (hr : ∀ Q : VK, Q z H → r [x, y] H Q) : Val (tCB r (tCons ta (tCons tb tNil))) σ H z := fun Q q => ha _ (hb _ (hr Q q))
/-! ### lists of data that the caller owns; values that are a truth value or a number -/
theorem Sep.stepnew {M : List Addr} {H0 G0 G H H' : Hp} {O : List Addr} {p : Addr} {o : HO} (S : Sep M H0 G0 G H O) {G' : Hp} (e : Same H H') (eG : Same G G') (sG : Same G' H') (hn : ∀ b, H b ≠ none → G b = none → G' b = none) (_n : H p = none) (h : H' p = some o) (g : G' p = none) (hm : H0 p = none) : Sep M H0 G0 G' H' (p :: O) := by
  have S2 := S.step e eG sG hn
  refine ⟨S2.base, S2.pm, S2.sG, S2.g0, S2.gn, fun a ha => ?_⟩
  rcases List.mem_cons.mp ha with rfl | ha
  · exact ⟨g, (fun z => by rw [z] at h; cases h), .inr hm⟩
  · exact S2.ow a ha
inductive Bi where
  | b (x : Bool)
  | n (i : Int)
deriving DecidableEq
def biV : Bi → V
  | .b x => .bl x
  | .n i => .int i
def Bi.el {α : Type} (v : Bi) (f : Bool → α) (g : Int → α) : α :=
  match v with
  | .b x => f x
  | .n i => g i
theorem cW_elb {α : Type} {x : Bool} {f : Bool → Rx α} {g : Int → Rx α} {K : α → Prop} {E : Nat → Prop} (h : cW (Bi.el (.b x) f g) K E) : cW (f x) K E := h
theorem cW_eln {α : Type} {x : Int} {f : Bool → Rx α} {g : Int → Rx α} {K : α → Prop} {E : Nat → Prop} (h : cW (Bi.el (.n x) f g) K E) : cW (g x) K E := h
theorem rp_tup4 {α β γ δ : Type} {f : α → PyData} {g : β → PyData} {h : γ → PyData} {i : δ → PyData} {H : Hp} {v : V} {x : α × β × γ × δ} (r : Rp H v (encT4 f g h i x)) : ∃ a v1 v2 v3 v4, v = .ref a ∧ H a = some (.tup [v1, v2, v3, v4]) ∧ Rp H v1 (f x.1) ∧ Rp H v2 (g x.2.1) ∧ Rp H v3 (h x.2.2.1) ∧ Rp H v4 (i x.2.2.2) := by
  unfold encT4 at r
  cases r with
  | tup h1 h2 =>
    cases h2 with
    | cons a b =>
      cases b with
      | cons b c =>
        cases c with
        | cons c d =>
          cases d with
          | cons d e =>
            cases e
            exact ⟨_, _, _, _, _, rfl, h1, a, b, c, d⟩
theorem rp_mk4 {α β γ δ : Type} {f : α → PyData} {g : β → PyData} {h : γ → PyData} {i : δ → PyData} {H : Hp} {a : Addr} {v1 v2 v3 v4 : V} {x : α} {y : β} {z : γ} {w : δ} (h1 : H a = some (.tup [v1, v2, v3, v4])) (r1 : Rp H v1 (f x)) (r2 : Rp H v2 (g y)) (r3 : Rp H v3 (h z)) (r4 : Rp H v4 (i w)) : Rp H (.ref a) (encT4 f g h i (x, y, z, w)) := .tup h1 (.cons r1 (.cons r2 (.cons r3 (.cons r4 .nil))))
theorem Sep.b0M {M : List Addr} {H0 G0 G H : Hp} {O : List Addr} (S : Sep M H0 G0 G H O) (h : ∀ a ∈ M, H a = H0 a) : Same H0 H := fun b o e => by
  by_cases z : b ∈ M
  · rw [h b z]
    exact e
  · exact S.base b o e z
section
variable {X : Cx} {k j n : Nat} {f C : Addr} {fd : FuncData} {ps ks : List Str} {g : List V → List V → List V} {sp : Sp} {x m : Str} {pos p apos : Pos} {e o : Expr} {es : List Expr} {kws : List Keyword} {ta : TE} {t tk : TA} {W : WX}
/-- keywords alone -/
theorem vx_makeXK {pats : List Pat} (c : MakX X.prog X.w X.K X.mg X.base k x C sp pats) (pt : Pat) (hpt : pt ∈ pats) (hr : RoomG j X.A) (hk : k + 1 ≤ j) (tkW : Takes X W) (hg : Gl X x) (hkw : PK X kws tk)
    (hall : (backToKw pos (keywordEach kws X.env)).all (·.1.isSome) = true := by rfl) (hks : (backToKw pos (keywordEach kws X.env)).filterMap (·.1) = pt.2.1 := by rfl) (hdb : (x == ("__debug__" : Str)) = false := by decide)
    (hpl : ((backTo pos (starEach [] X.env)).any (·.1) || (backToKw pos (keywordEach kws X.env)).any (·.1.isNone)) = false := by rfl) :
    PE X (.Call (.Name x p) [] kws pos) (tMakeX C pt.1 pt.2.1.length sp pt.2.2 W tNil tk) := by
  obtain ⟨f, fd, ps, M, F, hm, b⟩ := c.ex
  refine ⟨fun pins s σ H Q I h => ?_⟩
  refine wpAny_Call_Name_kw (ld_glob I hg hm ?_ hdb)
  refine PySem.W.callWith_KW0 (h₀ := X.base) I.ok.mod.kin M.kp hall ?_ hpl
  refine thn (hkw.run pos pins s σ H _ I h) fun ws s2 ⟨zs, H2, I2, rz, l1, l2, q2⟩ => ⟨I2.kIn, ?_⟩
  rw [hks]
  exact run_mkX (us := []) (vs := []) M F (hr.low hk) (b pt hpt) tkW I2 .nil rz l1 l2 q2
theorem vx_callXK {pats : List Pat} (c : CalX X.prog X.w X.K X.mg X.base k x sp pats) (pt : Pat) (hpt : pt ∈ pats) (hr : RoomG j X.A) (hk : k ≤ j) (tkW : Takes X W) (hg : Gl X x) (hkw : PK X kws tk)
    (hall : (backToKw pos (keywordEach kws X.env)).all (·.1.isSome) = true := by rfl) (hks : (backToKw pos (keywordEach kws X.env)).filterMap (·.1) = pt.2.1 := by rfl) (hdb : (x == ("__debug__" : Str)) = false := by decide)
    (hpl : ((backTo pos (starEach [] X.env)).any (·.1) || (backToKw pos (keywordEach kws X.env)).any (·.1.isNone)) = false := by rfl) :
    PE X (.Call (.Name x p) [] kws pos) (tCallX pt.1 pt.2.1.length sp pt.2.2 W tNil tk) := by
  obtain ⟨f, fd, ps, F, hm, kp, b⟩ := c.ex
  refine ⟨fun pins s σ H Q I h => ?_⟩
  refine wpAny_Call_Name_kw (ld_glob I hg hm ?_ hdb)
  refine PySem.W.callWith_KW0 (h₀ := X.base) I.ok.mod.kin kp hall ?_ hpl
  refine thn (hkw.run pos pins s σ H _ I h) fun ws s2 ⟨zs, H2, I2, rz, l1, l2, q2⟩ => ⟨I2.kIn, ?_⟩
  rw [hks]
  exact run_X (us := []) (vs := []) F (hr.low hk) (b pt hpt) tkW I2 .nil rz l1 l2 q2
theorem vx_methXK {pats : List Pat} {pl : Sem Bool} (c : MetX X.prog X.w X.K X.mg X.base k C m sp pats) (pt : Pat) (hpt : pt ∈ pats) (hr : RoomG j X.A) (hk : k ≤ j) (tkW : Takes X W) (he : PE X o ta) (hkw : PK X kws tk)
    (hall : (backToKw pos (keywordEach kws X.env)).all (·.1.isSome) = true := by rfl) (hks : (backToKw pos (keywordEach kws X.env)).filterMap (·.1) = pt.2.1 := by rfl)
    (hpl : ((backTo pos (starEach [] X.env)).any (·.1) || (backToKw pos (keywordEach kws X.env)).any (·.1.isNone)) = false := by rfl)
    (ht : eval (.Call (.Attribute o m apos) [] kws pos) X.env = (do
      let ov ← eval o X.env
      standAt apos.atName
      let (f, first) ← holding [ov] (getMethod ov m pl)
      callWith pos f first (backTo pos (starEach [] X.env)) (backToKw pos (keywordEach kws X.env))) := by rfl) :
    PE X (.Call (.Attribute o m apos) [] kws pos) (tMethX C m pt.1 pt.2.1.length sp pt.2.2 W ta tNil tk) := by
  obtain ⟨f, fd, ps, hc, hm, F, b⟩ := c.ex
  refine ⟨fun pins s σ H Q I h => ?_⟩
  refine PySem.W.methodCall_KW (pl := pl) (thn (he.run pins s σ H _ I h) fun u s1 ⟨x, H1, I1, rx, a, dx, fs, ex, ea, l, q⟩ => ?_) ht
  subst ex
  obtain rfl : u = Value.ref a := rx
  refine getmeth_ok I1 ea hc hm l ?_
  refine PySem.W.callWith_KW0 (first := [.ref a]) (h₀ := X.base) I.ok.mod.kin hm.kp hall ?_ hpl
  refine thn (hkw.run pos pins s1 σ H1 _ I1 q) fun ws s3 ⟨zs, H3, I3, rz, l1, l2, q3⟩ => ⟨I3.kIn, ?_⟩
  rw [hks]
  exact run_X (us := [.ref a]) (vs := [.ref a]) F (hr.low hk) (b pt hpt) tkW I3 (.cons rfl .nil) rz l1 l2 q3
end
end Vx
/-! # lists within lists that are owned as a whole -/
namespace Vx
open PySem PySem.Spec PyProof.Rows L2
inductive Kd where
  | lst
  | tup
  | ins (C dx : Addr) (ns : List Str)
def Kd.ho : Kd → List V → HO
  | .lst, vs => .lst vs
  | .tup, vs => .tup vs
  | .ins C dx ns, vs => .ins C dx (ns.zip vs)
/-- what stands in the heap as a tree: values as they are, data that stay, nodes of its own -/
inductive Dt where
  | val (v : V)
  | frz (d : PyData)
  | nod (k : Kd) (xs : List Dt)
mutual
inductive Ow (G H : Hp) : List Addr → V → Dt → Prop
  | val (v : V) : Ow G H [] v (.val v)
  | frz {v : V} {d : PyData} : Rp G v d → Ow G H [] v (.frz d)
  | nod {a : Addr} {k : Kd} {vs : List V} {ds : List Dt} {L : List Addr} : H a = some (k.ho vs) → OwAll G H L vs ds → a ∉ L → Ow G H (a :: L) (.ref a) (.nod k ds)
inductive OwAll (G H : Hp) : List Addr → List V → List Dt → Prop
  | nil : OwAll G H [] [] []
  | cons {L1 L2 : List Addr} {v : V} {vs : List V} {d : Dt} {ds : List Dt} : Ow G H L1 v d → OwAll G H L2 vs ds → (∀ b ∈ L1, b ∉ L2) → OwAll G H (L1 ++ L2) (v :: vs) (d :: ds)
end
def Keeps (L : List Addr) (H H' : Hp) : Prop := ∀ b ∈ L, ∀ o, H b = some o → H' b = some o
mutual
theorem Ow.mono {G G' H H' : Hp} (e : Same G G') : ∀ {L : List Addr} {v : V} {d : Dt}, Keeps L H H' → Ow G H L v d → Ow G' H' L v d
  | _, _, _, _, .val v => .val v
  | _, _, _, _, .frz r => .frz (r.mono e)
  | _, _, _, k, .nod h r n => .nod (k _ List.mem_cons_self _ h) (OwAll.mono e (fun b hb => k b (List.mem_cons_of_mem _ hb)) r) n
theorem OwAll.mono {G G' H H' : Hp} (e : Same G G') : ∀ {L : List Addr} {vs : List V} {ds : List Dt}, Keeps L H H' → OwAll G H L vs ds → OwAll G' H' L vs ds
  | _, _, _, _, .nil => .nil
  | _, _, _, k, .cons a r d => .cons (Ow.mono e (fun b hb => k b (List.mem_append_left _ hb)) a) (OwAll.mono e (fun b hb => k b (List.mem_append_right _ hb)) r) d
end
mutual
theorem Ow.there {G H : Hp} : ∀ {L : List Addr} {v : V} {d : Dt}, Ow G H L v d → ∀ b ∈ L, H b ≠ none
  | _, _, _, .val _, _, hb => nomatch hb
  | _, _, _, .frz _, _, hb => nomatch hb
  | _, _, _, .nod h r n, b, hb => by
    rcases List.mem_cons.mp hb with rfl | hb
    · exact some_ne h
    · exact OwAll.there r b hb
theorem OwAll.there {G H : Hp} : ∀ {L : List Addr} {vs : List V} {ds : List Dt}, OwAll G H L vs ds → ∀ b ∈ L, H b ≠ none
  | _, _, _, .nil, _, hb => nomatch hb
  | _, _, _, .cons a r d, b, hb => by
    rcases List.mem_append.mp hb with hb | hb
    · exact Ow.there a b hb
    · exact OwAll.there r b hb
end
theorem OwAll.len {G H : Hp} : ∀ {L : List Addr} {vs : List V} {ds : List Dt}, OwAll G H L vs ds → vs.length = ds.length
  | _, _, _, .nil => rfl
  | _, _, _, .cons _ r _ => congrArg Nat.succ r.len
theorem OwAll.snoc {G H : Hp} {L1 : List Addr} {v : V} {d : Dt} (h : Ow G H L1 v d) : ∀ {L : List Addr} {vs : List V} {ds : List Dt}, OwAll G H L vs ds → (∀ b ∈ L, b ∉ L1) → OwAll G H (L ++ L1) (vs ++ [v]) (ds ++ [d])
  | _, _, _, .nil, _ => by
    have z : OwAll G H (L1 ++ []) [v] [d] := .cons h .nil (fun _ _ z => nomatch z)
    rw [List.append_nil] at z
    exact z
  | _, _, _, .cons (L1 := La) (L2 := Lb) a r n, k => by
    have z := OwAll.cons a (OwAll.snoc h r fun b hb => k b (List.mem_append_right _ hb)) (fun b hb q => by
      rcases List.mem_append.mp q with q | q
      · exact n b hb q
      · exact k b (List.mem_append_left _ hb) q)
    rw [← List.append_assoc] at z
    exact z
theorem OwAll.app {G H : Hp} {L2 : List Addr} {ws : List V} {es : List Dt} (h : OwAll G H L2 ws es) : ∀ {L : List Addr} {vs : List V} {ds : List Dt}, OwAll G H L vs ds → (∀ b ∈ L, b ∉ L2) → OwAll G H (L ++ L2) (vs ++ ws) (ds ++ es)
  | _, _, _, .nil, _ => h
  | _, _, _, .cons (L1 := La) (L2 := Lb) a r n, k => by
    have z := OwAll.cons a (OwAll.app h r fun b hb => k b (List.mem_append_right _ hb)) (fun b hb q => by
      rcases List.mem_append.mp q with q | q
      · exact n b hb q
      · exact k b (List.mem_append_left _ hb) q)
    rw [← List.append_assoc] at z
    exact z
/-! ### trees that are data -/
mutual
inductive Dd : Dt → PyData → Prop
  | non : Dd (.val .non) .none
  | bl (b : Bool) : Dd (.val (.bl b)) (.bool b)
  | int (i : Int) : Dd (.val (.int i)) (.int i)
  | str (x : Str) : Dd (.val (.str x)) (.str x)
  | frz (d : PyData) : Dd (.frz d) d
  | lst {xs : List Dt} {ds : List PyData} : DdAll xs ds → Dd (.nod .lst xs) (.list ds)
  | tup {xs : List Dt} {ds : List PyData} : DdAll xs ds → Dd (.nod .tup xs) (.tuple ds)
inductive DdAll : List Dt → List PyData → Prop
  | nil : DdAll [] []
  | cons {x : Dt} {xs : List Dt} {d : PyData} {ds : List PyData} : Dd x d → DdAll xs ds → DdAll (x :: xs) (d :: ds)
end
mutual
/-- read in any heap that holds its nodes -/
theorem Ow.rp {G H I : Hp} (e : Same G I) : ∀ {L : List Addr} {v : V} {d : Dt} {p : PyData}, Keeps L H I → Ow G H L v d → Dd d p → Rp I v p
  | _, _, _, _, _, .val _, .non => .non
  | _, _, _, _, _, .val _, .bl b => .bl b
  | _, _, _, _, _, .val _, .int i => .int i
  | _, _, _, _, _, .val _, .str x => .str x
  | _, _, _, _, _, .frz r, .frz _ => r.mono e
  | _, _, _, _, k, .nod h r _, .lst q => .lst (k _ List.mem_cons_self _ h) (OwAll.rp e (fun b hb => k b (List.mem_cons_of_mem _ hb)) r q)
  | _, _, _, _, k, .nod h r _, .tup q => .tup (k _ List.mem_cons_self _ h) (OwAll.rp e (fun b hb => k b (List.mem_cons_of_mem _ hb)) r q)
theorem OwAll.rp {G H I : Hp} (e : Same G I) : ∀ {L : List Addr} {vs : List V} {ds : List Dt} {ps : List PyData}, Keeps L H I → OwAll G H L vs ds → DdAll ds ps → RpAll I vs ps
  | _, _, _, _, _, .nil, .nil => .nil
  | _, _, _, _, k, .cons a r _, .cons x xs => .cons (Ow.rp e (fun b hb => k b (List.mem_append_left _ hb)) a x) (OwAll.rp e (fun b hb => k b (List.mem_append_right _ hb)) r xs)
end
def oI (i : Int) : Dt := .val (.int i)
def oB (b : Bool) : Dt := .val (.bl b)
def oF {α : Type} (f : α → PyData) (x : α) : Dt := .frz (f x)
def oL {α : Type} (f : α → Dt) (xs : List α) : Dt := .nod .lst (xs.map f)
def EncO {α : Type} (f : α → Dt) (g : α → PyData) : Prop := ∀ x, Dd (f x) (g x)
theorem encO_I : EncO oI PyData.int := fun i => .int i
theorem encO_B : EncO oB PyData.bool := fun i => .bl i
theorem encO_F {α : Type} {f : α → PyData} : EncO (oF f) f := fun _ => .frz _
theorem EncO.all {α : Type} {f : α → Dt} {g : α → PyData} (h : EncO f g) : ∀ xs : List α, DdAll (xs.map f) (xs.map g)
  | [] => .nil
  | x :: xs => .cons (h x) (EncO.all h xs)
theorem encO_L {α : Type} {f : α → Dt} {g : α → PyData} (h : EncO f g) : EncO (oL f) (encL g) := fun xs => .lst (h.all xs)
theorem keeps_same {L : List Addr} {H H' : Hp} (e : Same H H') : Keeps L H H' := fun b _ o q => e b o q
theorem keeps_refl {L : List Addr} {H : Hp} : Keeps L H H := fun _ _ _ q => q
theorem keeps_mut {L : List Addr} {H H' : Hp} {m : Addr} (x : SameX m H H') (n : ∀ b ∈ L, b ≠ m) : Keeps L H H' := fun b hb o q => x b o q (n b hb)
theorem keeps_muts {L M : List Addr} {H H' : Hp} (x : SameXs M H H') (n : ∀ b ∈ L, b ∉ M) : Keeps L H H' := fun b hb o q => x b o q (n b hb)
theorem keeps_hide {L M : List Addr} {H : Hp} (n : ∀ b ∈ L, b ∉ M) : Keeps L H (hideL M H) := fun b hb o q => by
  rw [hideL_out (n b hb)]
  exact q
section
variable {α : Type} {f : α → Dt} {g : α → PyData} {G H I : Hp} {L : List Addr} {vs : List V} {xs : List α}
theorem OwAll.rpA (w : OwAll G H L vs (xs.map f)) (h : EncO f g) (e : Same G H) : RpAll H vs (xs.map g) := OwAll.rp e keeps_refl w (h.all xs)
theorem OwAll.rpH (w : OwAll G H L vs (xs.map f)) (h : EncO f g) (e : Same G I) (k : Keeps L H I) : RpAll I vs (xs.map g) := OwAll.rp e k w (h.all xs)
theorem OwAll.lenM (w : OwAll G H L vs (xs.map f)) : vs.length = xs.length := by rw [w.len, List.length_map]
theorem OwAll.snocM {L1 : List Addr} {v : V} {y : α} (w : OwAll G H L vs (xs.map f)) (h : Ow G H L1 v (f y)) (n : ∀ b ∈ L, b ∉ L1) : OwAll G H (L ++ L1) (vs ++ [v]) ((xs ++ [y]).map f) := by
  rw [List.map_append]
  exact OwAll.snoc h w n
theorem Ow.ints {a : Addr} {ys : List Int} (h : H a = some (.lst (ys.map V.int))) : Ow G H [a] (.ref a) (oL oI ys) := by
  have z : ∀ ys : List Int, OwAll G H [] (ys.map V.int) (ys.map oI) := fun ys => by
    induction ys with
    | nil => exact .nil
    | cons y r ih => exact .cons (L1 := []) (L2 := []) (.val _) ih (fun _ z => nomatch z)
  exact .nod (k := .lst) h (z ys) (fun z => nomatch z)
theorem Ow.list {a : Addr} {xs : List α} {L : List Addr} {vs : List V} (h : H a = some (.lst vs)) (w : OwAll G H L vs (xs.map f)) (n : ∀ b ∈ L, b ≠ a) : Ow G H (a :: L) (.ref a) (oL f xs) := .nod (k := .lst) h w (fun z => n a z rfl)
theorem Ow.toList {v : V} {L : List Addr} {xs : List α} (w : Ow G H L v (oL f xs)) : ∃ a vs L', v = .ref a ∧ L = a :: L' ∧ H a = some (.lst vs) ∧ OwAll G H L' vs (xs.map f) ∧ ∀ b ∈ L', b ≠ a := by
  unfold oL at w
  cases w with
  | nod h r n => exact ⟨_, _, _, rfl, rfl, h, r, fun b hb z => n (z ▸ hb)⟩
theorem OwAll.toInts : ∀ {L : List Addr} {vs : List V} {xs : List Int}, OwAll G H L vs (xs.map oI) → L = [] ∧ vs = xs.map V.int
  | _, _, [], .nil => ⟨rfl, rfl⟩
  | _, _, x :: xs, .cons a r _ => by
    obtain ⟨h1, h2⟩ := OwAll.toInts r
    cases a
    exact ⟨by rw [h1] <;> rfl, by rw [h2] <;> rfl⟩
theorem Ow.toInts {v : V} {L : List Addr} {xs : List Int} (w : Ow G H L v (oL oI xs)) : ∃ a, v = .ref a ∧ L = [a] ∧ H a = some (.lst (xs.map V.int)) := by
  obtain ⟨a, vs, L', rfl, rfl, h, r, _⟩ := w.toList
  obtain ⟨rfl, rfl⟩ := r.toInts
  exact ⟨a, rfl, rfl, h⟩
/-- the part at a place, and how a change of it alone changes the whole -/
theorem OwAll.part : ∀ {L : List Addr} {vs : List V} {ds : List Dt} {i : Nat} {d : Dt}, OwAll G H L vs ds → ds[i]? = some d → ∃ v L1, vs[i]? = some v ∧ Ow G H L1 v d ∧ (∀ b ∈ L1, b ∈ L) ∧
    ∀ H' d', (∀ b ∈ L, b ∉ L1 → ∀ o, H b = some o → H' b = some o) → Ow G H' L1 v d' → OwAll G H' L vs (ds.set i d')
  | _, _, _, _, _, .nil, h => by simp at h
  | _, _, _, 0, _, .cons (L1 := La) (L2 := Lb) a r n, h => by
    simp at h
    subst h
    refine ⟨_, La, rfl, a, fun b hb => List.mem_append_left _ hb, fun H' d' k w => ?_⟩
    exact .cons w (OwAll.mono (Same.refl G) (fun b hb => k b (List.mem_append_right _ hb) fun z => n b z hb) r) n
  | _, _, _, i + 1, _, .cons (L1 := La) (L2 := Lb) a r n, h => by
    obtain ⟨v, L1, h1, h2, h3, h4⟩ := OwAll.part (i := i) r (by simpa using h)
    refine ⟨v, L1, by simpa using h1, h2, fun b hb => List.mem_append_right _ (h3 b hb), fun H' d' k w => ?_⟩
    refine .cons (Ow.mono (Same.refl G) (fun b hb => k b (List.mem_append_left _ hb) fun z => n b hb (h3 b z)) a) (h4 H' d' (fun b hb nb => k b (List.mem_append_right _ hb) nb) w) n
/-- the same, where the part grows: its new footprint is the old one and what is new -/
theorem OwAll.part2 : ∀ {L : List Addr} {vs : List V} {ds : List Dt} {i : Nat} {d : Dt}, OwAll G H L vs ds → ds[i]? = some d → ∃ v L1, vs[i]? = some v ∧ Ow G H L1 v d ∧ (∀ b ∈ L1, b ∈ L) ∧
    (∀ H' d', (∀ b ∈ L, b ∉ L1 → ∀ o, H b = some o → H' b = some o) → Ow G H' L1 v d' → OwAll G H' L vs (ds.set i d')) ∧
    ∀ H' d' Fv L1', (∀ b ∈ L, b ∉ L1 → ∀ o, H b = some o → H' b = some o) → (∀ b ∈ L1', b ∈ L1 ++ Fv) → (∀ b ∈ Fv, b ∉ L) → Ow G H' L1' v d' → ∃ L', (∀ b ∈ L', b ∈ L ++ Fv) ∧ OwAll G H' L' vs (ds.set i d')
  | _, _, _, _, _, .nil, h => by simp at h
  | _, _, _, 0, _, .cons (L1 := La) (L2 := Lb) a r n, h => by
    simp at h
    subst h
    refine ⟨_, La, rfl, a, fun b hb => List.mem_append_left _ hb, fun H' d' k w => ?_, fun H' d' Fv L1' k s nf w => ⟨L1' ++ Lb, fun b hb => ?_, ?_⟩⟩
    · exact .cons w (OwAll.mono (Same.refl G) (fun b hb => k b (List.mem_append_right _ hb) fun z => n b z hb) r) n
    · rcases List.mem_append.mp hb with hb | hb
      · rcases List.mem_append.mp (s b hb) with q | q
        · exact List.mem_append_left _ (List.mem_append_left _ q)
        · exact List.mem_append_right _ q
      · exact List.mem_append_left _ (List.mem_append_right _ hb)
    · refine .cons w (OwAll.mono (Same.refl G) (fun b hb => k b (List.mem_append_right _ hb) fun z => n b z hb) r) fun b hb q => ?_
      rcases List.mem_append.mp (s b hb) with z | z
      · exact n b z q
      · exact nf b z (List.mem_append_right _ q)
  | _, _, _, i + 1, _, .cons (L1 := La) (L2 := Lb) a r n, h => by
    obtain ⟨v, L1, h1, h2, h3, h4, h5⟩ := OwAll.part2 (i := i) r (by simpa using h)
    refine ⟨v, L1, by simpa using h1, h2, fun b hb => List.mem_append_right _ (h3 b hb), fun H' d' k w => ?_, fun H' d' Fv L1' k s nf w => ?_⟩
    · refine .cons (Ow.mono (Same.refl G) (fun b hb => k b (List.mem_append_left _ hb) fun z => n b hb (h3 b z)) a) (h4 H' d' (fun b hb nb => k b (List.mem_append_right _ hb) nb) w) n
    · obtain ⟨L', s2, z⟩ := h5 H' d' Fv L1' (fun b hb nb => k b (List.mem_append_right _ hb) nb) s (fun b hb q => nf b hb (List.mem_append_right _ q)) w
      refine ⟨La ++ L', fun b hb => ?_, .cons (Ow.mono (Same.refl G) (fun b hb => k b (List.mem_append_left _ hb) fun z => n b hb (h3 b z)) a) z fun b hb q => ?_⟩
      · rcases List.mem_append.mp hb with hb | hb
        · exact List.mem_append_left _ (List.mem_append_left _ hb)
        · rcases List.mem_append.mp (s2 b hb) with q | q
          · exact List.mem_append_left _ (List.mem_append_right _ q)
          · exact List.mem_append_right _ q
      · rcases List.mem_append.mp (s2 b q) with y | y
        · exact n b hb y
        · exact nf b y (List.mem_append_left _ hb)
theorem OwAll.partM [Inhabited α] {k : Int} (w : OwAll G H L vs (xs.map f)) (h : -(xs.length : Int) ≤ k ∧ k < xs.length) : ∃ v L1, atI vs k = some v ∧ Ow G H L1 v (f (itD xs k)) ∧ (∀ b ∈ L1, b ∈ L) ∧
    (∀ H' y, (∀ b ∈ L, b ∉ L1 → ∀ o, H b = some o → H' b = some o) → Ow G H' L1 v (f y) → OwAll G H' L vs ((setL xs k y).map f)) ∧
    ∀ H' y Fv L1', (∀ b ∈ L, b ∉ L1 → ∀ o, H b = some o → H' b = some o) → (∀ b ∈ L1', b ∈ L1 ++ Fv) → (∀ b ∈ Fv, b ∉ L) → Ow G H' L1' v (f y) → ∃ L', (∀ b ∈ L', b ∈ L ++ Fv) ∧ OwAll G H' L' vs ((setL xs k y).map f) := by
  obtain ⟨j, e, hj⟩ := ixN_some h
  have hx := List.getElem?_eq_getElem hj
  obtain ⟨v, L1, h1, h2, h3, h4, h5⟩ := OwAll.part2 (i := j) (d := f xs[j]) w (by rw [List.getElem?_map, hx] <;> rfl)
  have ei : itD xs k = xs[j] := by
    unfold itD atI
    rw [e]
    show (xs[j]?).getD default = _
    rw [hx] <;> rfl
  refine ⟨v, L1, ?_, by rw [ei]; exact h2, h3, fun H' y q w2 => ?_, fun H' y Fv L1' q s nf w2 => ?_⟩
  · unfold atI
    rw [w.lenM, e]
    exact h1
  · have z := h4 H' (f y) q w2
    unfold setL
    rw [e, List.map_set]
    exact z
  · obtain ⟨L', s2, z⟩ := h5 H' (f y) Fv L1' q s nf w2
    refine ⟨L', s2, ?_⟩
    unfold setL
    rw [e, List.map_set]
    exact z
theorem grow_keeps {L L1 : List Addr} {m : Addr} {H H1 H2 : Hp} (e : Same H H1) (x : SameX m H1 H2) (hm : m ∈ L1) : ∀ b ∈ L, b ∉ L1 → ∀ o, H b = some o → H2 b = some o := fun b _ n o q => x b o (e b o q) (fun z => n (z ▸ hm))
theorem grow_sub {a : Addr} {L' Lr Fv : List Addr} (h : ∀ b ∈ L', b ∈ Lr ++ Fv) : ∀ b ∈ a :: L', b ∈ (a :: Lr) ++ Fv := fun b hb => by
  rcases List.mem_cons.mp hb with rfl | hb
  · exact List.mem_cons_self
  · exact List.mem_cons_of_mem _ (h b hb)
/-- the item of a turn -/
theorem OwAll.turn {i : Nat} {v : V} (w : OwAll G H L vs (xs.map f)) (h : vs[i]? = some v) : ∃ x L1, xs[i]? = some x ∧ Ow G H L1 v (f x) ∧ ∀ b ∈ L1, b ∈ L := by
  have hl := get_len h
  have e := w.lenM
  have hx := List.getElem?_eq_getElem (show i < xs.length by omega)
  obtain ⟨v2, L1, h1, h2, h3, _⟩ := OwAll.part (i := i) (d := f xs[i]) w (by rw [List.getElem?_map, hx] <;> rfl)
  rw [h] at h1
  cases h1
  exact ⟨_, L1, hx, h2, h3⟩
end
/-! ### what is owned, in pieces -/
theorem all_app {P : Addr → Prop} {L l : List Addr} (h : ∀ x ∈ L, P x) (t : ∀ x ∈ l, P x) : ∀ x ∈ L ++ l, P x := fun x hx => by
  rcases List.mem_append.mp hx with q | q
  · exact h x q
  · exact t x q
theorem nm_nil {a : Addr} : a ∉ ([] : List Addr) := fun z => nomatch z
theorem nm_cons {a m : Addr} {l : List Addr} (h : a ≠ m) (t : a ∉ l) : a ∉ m :: l := fun z => by
  rcases List.mem_cons.mp z with q | q
  · exact h q
  · exact t q
theorem nm_app {a : Addr} {L l : List Addr} (h : a ∉ L) (t : a ∉ l) : a ∉ L ++ l := fun z => by
  rcases List.mem_append.mp z with q | q
  · exact h q
  · exact t q
theorem there_ne {H : Hp} {L : List Addr} {x : Addr} (t : ∀ b ∈ L, H b ≠ none) (n : H x = none) : ∀ b ∈ L, b ≠ x := fun b hb z => t b hb (z ▸ n)
theorem new_ne {H : Hp} {L : List Addr} {x : Addr} {o : HO} (n : ∀ b ∈ L, H b = none) (h : H x = some o) : ∀ b ∈ L, b ≠ x := fun b hb z => by
  have := n b hb
  rw [z, h] at this
  cases this
theorem new_nl {H : Hp} {L L2 : List Addr} (n : ∀ b ∈ L, H b = none) (t : ∀ b ∈ L2, H b ≠ none) : ∀ b ∈ L, b ∉ L2 := fun b hb z => t b z (n b hb)
theorem nl_symm {L L2 : List Addr} (h : ∀ b ∈ L, b ∉ L2) : ∀ b ∈ L2, b ∉ L := fun b hb z => h b z hb
theorem none_of_same {H H' : Hp} {x : Addr} (e : Same H H') (n : H' x = none) : H x = none := by
  cases q : H x with
  | none => rfl
  | some o =>
    rw [e x o q] at n
    cases n
section
variable {M : List Addr} {H0 G0 G H H' : Hp} {O L : List Addr} {p m : Addr} {o : HO}
theorem Sep.h0 (S : Sep M H0 G0 G H O) {b : Addr} (hb : b ∈ O) (hM : b ∉ M) : H0 b = none := (S.ow b hb).2.2.elim (fun z => (hM z).elim) id
theorem g_nl {a : Addr} {o : HO} (h : G a = some o) (S : Sep M H0 G0 G H O) (hL : ∀ b ∈ L, b ∈ O) : ∀ b ∈ L, b ≠ a := fun b hb => (g_ne h S (hL b hb)).symm
theorem b_nl {a : Addr} {o : HO} (h : (hideL M H0) a = some o) (S : Sep M H0 G0 G H O) (hL : ∀ b ∈ L, b ∈ O) : ∀ b ∈ L, b ≠ a := fun b hb => (b_ne h S (hL b hb)).symm
/-- a whole tree that is to stay as it is -/
theorem Sep.freezeL (S : Sep M H0 G0 G H O) {O' : List Addr} (hL : ∀ b ∈ L, b ∈ O) (h0 : ∀ b ∈ L, H0 b = none) (hO : ∀ b ∈ O', b ∈ O ∧ b ∉ L) : ∃ G', Same G G' ∧ Keeps L H G' ∧ Sep M H0 G0 G' H O' := by
  have gn : ∀ b ∈ L, G b = none := fun b hb => (S.ow b (hL b hb)).1
  refine ⟨fun b => if b ∈ L then H b else G b, fun b u q => ?_, fun b hb u q => ?_, S.base, S.pm, fun b u q => ?_, fun b u q => ?_, fun b hb gb => ?_, fun a ha => ?_⟩
  · have n : b ∉ L := fun z => by
      rw [gn b z] at q
      cases q
    show (if b ∈ L then H b else G b) = _
    rw [if_neg n]
    exact q
  · show (if b ∈ L then H b else G b) = _
    rw [if_pos hb]
    exact q
  · by_cases z : b ∈ L
    · exact (if_pos z).symm.trans q
    · exact S.sG b u ((if_neg z).symm.trans q)
  · have z : b ∉ L := fun z => by
      have := S.g0 b u q
      rw [gn b z] at this
      cases this
    show (if b ∈ L then H b else G b) = _
    rw [if_neg z]
    exact S.g0 b u q
  · have z : b ∉ L := fun z => hb (h0 b z)
    show (if b ∈ L then H b else G b) = _
    rw [if_neg z]
    exact S.gn b hb gb
  · obtain ⟨h1, h2⟩ := hO a ha
    refine ⟨?_, (S.ow a h1).2⟩
    show (if a ∈ L then H a else G a) = _
    rw [if_neg h2]
    exact (S.ow a h1).1
/-- a callee hands over a list of lists of its own making -/
theorem Sep.steptree (S : Sep M H0 G0 G H O) {G' : Hp} (e : Same H H') (eG : Same G G') (sG : Same G' H') (hn : ∀ b, H b ≠ none → G b = none → G' b = none) (L : List Addr) (hL : ∀ b ∈ L, H b = none ∧ G' b = none ∧ H' b ≠ none) : Sep M H0 G0 G' H' (L ++ O) := by
  have S2 := S.step e eG sG hn
  refine ⟨S2.base, S2.pm, S2.sG, S2.g0, S2.gn, all_app (fun b hb => ⟨(hL b hb).2.1, (hL b hb).2.2, .inr (S.free (hL b hb).1)⟩) S2.ow⟩
end
theorem Rp.list_of {α : Type} {g : α → PyData} {H : Hp} {a : Addr} {vs : List V} {xs : List α} (h : H a = some (.lst vs)) (r : RpAll H vs (xs.map g)) : Rp H (.ref a) (encL g xs) := .lst h r
/-! ### repr of data -/
mutual
def nodes : PyData → Nat
  | .list xs => 1 + nodesAll xs
  | .tuple xs => 1 + nodesAll xs
  | _ => 1
def nodesAll : List PyData → Nat
  | [] => 0
  | x :: xs => nodes x + nodesAll xs
end
mutual
def smallD : PyData → Bool
  | .none => true
  | .bool _ => true
  | .int i => decide (i.natAbs < 10 ^ 19)
  | .str x => decide ((reprText x).length ≤ 20)
  | .list xs => smallAll xs
  | .tuple xs => smallAll xs
  | _ => false
def smallAll : List PyData → Bool
  | [] => true
  | x :: xs => smallD x && smallAll xs
end
theorem piled_list (ts : List Str) : (listText ts).length ≤ piled ts + 2 := by
  cases ts with
  | nil => exact Nat.le_refl 2
  | cons t r =>
    have e : (listText (t :: r)).length = (textFrom 1 ("[" ++ ("" : String) ++ t) r).length + 1 := by
      show (textFrom 0 "[" (t :: r) ++ "]").length = _
      rw [strLen_append]
      rfl
    rw [e, textFrom_length_pos r 1 _ (by decide), piled_cons, strLen_append, strLen_append]
    have h1 : (("[" : String) : Str).length = 1 := rfl
    have h2 : (("" : String) : Str).length = 0 := rfl
    omega
theorem piled_tup (ts : List Str) : (tupleText ts).length ≤ piled ts + 3 := by
  unfold tupleText
  rw [strLen_append, strLen_append]
  have h1 : (("(" : String) : Str).length = 1 := rfl
  have h2 : (((if ts.length == 1 then ",)" else ")" : String) : Str)).length ≤ 2 := by split <;> decide
  by_cases h : ts = []
  · subst h
    exact Nat.le_of_lt (by decide)
  · have := join_length_add ts h
    omega
mutual
theorem small_shown : ∀ d : PyData, smallD d = true → d.shown.length + 4 ≤ 26 * nodes d ∧ d.showable = true ∧ d.hasDict = false
  | .none, _ => ⟨by simp only [PyData.shown, nodes]; decide, by simp [PyData.showable], by simp [PyData.hasDict]⟩
  | .bool b, _ => ⟨by cases b <;> simp only [PyData.shown, nodes] <;> decide, by simp [PyData.showable], by simp [PyData.hasDict]⟩
  | .int i, h => by
    have h : i.natAbs < 10 ^ 19 := by simpa [smallD] using h
    refine ⟨?_, ?_, by simp [PyData.hasDict]⟩
    · have := int_text_length_le10 (k := 19) (by decide) h
      simp only [PyData.shown, nodes]
      rw [PySem.ofString_length]
      omega
    · simp only [PyData.showable, decide_eq_true_eq]
      have : i.natAbs < 2 ^ 64 := by omega
      rcases Nat.eq_zero_or_pos i.natAbs with z | z
      · rw [z]
        decide
      · have := (Nat.log2_lt (by omega)).mpr this
        omega
  | .str x, h => by
    have h : (reprText x).length ≤ 20 := by simpa [smallD] using h
    refine ⟨by simp only [PyData.shown, nodes]; omega, by simp [PyData.showable], by simp [PyData.hasDict]⟩
  | .list xs, h => by
    obtain ⟨h1, h2, h3⟩ := small_shownAll xs (by simpa [smallD] using h)
    refine ⟨?_, by simpa [PyData.showable] using h2, by simpa [PyData.hasDict] using h3⟩
    have := piled_list (PyData.shownAll xs)
    simp only [PyData.shown, nodes]
    omega
  | .tuple xs, h => by
    obtain ⟨h1, h2, h3⟩ := small_shownAll xs (by simpa [smallD] using h)
    refine ⟨?_, by simpa [PyData.showable] using h2, by simpa [PyData.hasDict] using h3⟩
    have := piled_tup (PyData.shownAll xs)
    simp only [PyData.shown, nodes]
    omega
  | .dict kvs, h => by simp [smallD] at h
theorem small_shownAll : ∀ ds : List PyData, smallAll ds = true → piled (PyData.shownAll ds) ≤ 26 * nodesAll ds ∧ PyData.showableAll ds = true ∧ PyData.hasDictAll ds = false
  | [], _ => ⟨by simp [PyData.shownAll, nodesAll, piled], by simp [PyData.showableAll], by simp [PyData.hasDictAll]⟩
  | d :: ds, h => by
    have h : smallD d = true ∧ smallAll ds = true := by simpa [smallAll] using h
    obtain ⟨a1, a2, a3⟩ := small_shown d h.1
    obtain ⟨b1, b2, b3⟩ := small_shownAll ds h.2
    refine ⟨?_, by simp [PyData.showableAll, a2, b2], by simp [PyData.hasDictAll, a3, b3]⟩
    simp only [PyData.shownAll, nodesAll, piled_cons]
    omega
end
/-- data that repr may show -/
def ShowOk (d : PyData) : Prop := smallD d = true ∧ nodes d ≤ 600000 ∧ d.depth ≤ 60
instance (d : PyData) : Decidable (ShowOk d) := by unfold ShowOk; infer_instance
def rRepr : List V → Hp → VK → Prop := fun xs H Q => ∃ (a : Addr) (d : PyData), xs = [.ref a] ∧ Rp H (.ref a) d ∧ ShowOk d ∧ Q (.str d.shown) H
theorem call_reprD {X : Cx} (hg : X.A.guards = some []) (hu : X.A.units + 64 < cLine) : CallR X (.builtin "repr") rRepr := by
  intro pins s σ H xs us Q I r h
  obtain ⟨a, d, rfl, rp, ⟨ok, nd, dp⟩, q⟩ := h
  obtain ⟨h1, h2, h3⟩ := small_shown d ok
  cases r with
  | cons ra rn =>
    cases rn
    cases ra
    obtain ⟨as, reads⟩ := Dp.reads I d _ _ rp.dp rfl
    refine repr_of_reads' reads h2 (PyData.noDict_hsm h3) hg (by omega) (fun _ _ e => e) (fun h' u tk k => ⟨.str d.shown, H, I.kept k, ⟨u, rfl⟩, q⟩) ?_
    show d.shown.length ≤ 2 ^ 24
    omega
/-- small data: nodes, depth -/
def Sm (n k : Nat) (d : PyData) : Prop := smallD d = true ∧ nodes d ≤ n ∧ d.depth ≤ k
theorem Sm.imp {n k n' k' : Nat} {d : PyData} (h : Sm n k d) (a : n ≤ n') (b : k ≤ k') : Sm n' k' d := ⟨h.1, Nat.le_trans h.2.1 a, Nat.le_trans h.2.2 b⟩
theorem Sm.show {n k : Nat} {d : PyData} (h : Sm n k d) (a : n ≤ 600000 := by decide) (b : k ≤ 60 := by decide) : ShowOk d := h.imp a b
theorem sm_non : Sm 1 0 .none := ⟨by simp [smallD], by simp [nodes], by simp [PyData.depth]⟩
theorem sm_bool (b : Bool) : Sm 1 0 (.bool b) := ⟨by simp [smallD], by simp [nodes], by simp [PyData.depth]⟩
theorem sm_int {i : Int} (h : -10000000000000000000 < i ∧ i < 10000000000000000000) : Sm 1 0 (.int i) := ⟨by simp only [smallD, decide_eq_true_eq]; omega, by simp [nodes], by simp [PyData.depth]⟩
theorem sm_all {α : Type} {f : α → PyData} {n k : Nat} : ∀ {xs : List α}, (∀ x ∈ xs, Sm n k (f x)) → smallAll (xs.map f) = true ∧ nodesAll (xs.map f) ≤ xs.length * n ∧ PyData.depthAll (xs.map f) ≤ k
  | [], _ => ⟨by simp [smallAll], by simp [nodesAll], by simp [PyData.depthAll]⟩
  | x :: xs, h => by
    obtain ⟨a1, a2, a3⟩ := h x List.mem_cons_self
    obtain ⟨b1, b2, b3⟩ := sm_all fun y hy => h y (List.mem_cons_of_mem _ hy)
    refine ⟨by simp [smallAll, a1, b1], ?_, ?_⟩
    · simp only [List.map_cons, nodesAll, List.length_cons, Nat.succ_mul]
      omega
    · simp only [List.map_cons, PyData.depthAll]
      omega
theorem sm_L {α : Type} {f : α → PyData} {n k m : Nat} {xs : List α} (h : ∀ x ∈ xs, Sm n k (f x)) (hm : xs.length ≤ m) : Sm (1 + m * n) (k + 1) (encL f xs) := by
  obtain ⟨a1, a2, a3⟩ := sm_all h
  refine ⟨by simp [encL, smallD, a1], ?_, ?_⟩
  · have := Nat.mul_le_mul_right n hm
    simp only [encL, nodes]
    omega
  · simp only [encL, PyData.depth]
    omega
theorem sm_ints {xs : List Int} {m : Nat} (h : ∀ x ∈ xs, -10000000000000000000 < x ∧ x < 10000000000000000000) (hm : xs.length ≤ m) : Sm (1 + m * 1) 1 (encL PyData.int xs) := sm_L (fun x hx => sm_int (h x hx)) hm
theorem sm_T2 {α β : Type} {f : α → PyData} {g : β → PyData} {n k m j : Nat} {p : α × β} (h1 : Sm n k (f p.1)) (h2 : Sm m j (g p.2)) : Sm (1 + n + m) (max k j + 1) (encT2 f g p) := by
  obtain ⟨a1, a2, a3⟩ := h1
  obtain ⟨b1, b2, b3⟩ := h2
  refine ⟨by simp [encT2, smallD, smallAll, a1, b1], ?_, ?_⟩
  · simp only [encT2, nodes, nodesAll]
    omega
  · simp only [encT2, PyData.depth, PyData.depthAll]
    omega
theorem sm_T3 {α β γ : Type} {f : α → PyData} {g : β → PyData} {h : γ → PyData} {n k m j l i : Nat} {p : α × β × γ} (h1 : Sm n k (f p.1)) (h2 : Sm m j (g p.2.1)) (h3 : Sm l i (h p.2.2)) : Sm (1 + n + m + l) (max k (max j i) + 1) (encT3 f g h p) := by
  obtain ⟨a1, a2, a3⟩ := h1
  obtain ⟨b1, b2, b3⟩ := h2
  obtain ⟨c1, c2, c3⟩ := h3
  refine ⟨by simp [encT3, smallD, smallAll, a1, b1, c1], ?_, ?_⟩
  · simp only [encT3, nodes, nodesAll]
    omega
  · simp only [encT3, PyData.depth, PyData.depthAll]
    omega
end Vx
namespace Vx
open PySem PySem.Spec PyProof.Rows L2
theorem new_ne2 {H : Hp} {L : List Addr} {x : Addr} (n : ∀ b ∈ L, H b = none) (h : H x ≠ none) : ∀ b ∈ L, b ≠ x := fun b hb z => h (z ▸ n b hb)
theorem upd_tree {α : Type} {f : α → Dt} {G H H' : Hp} {L L1 : List Addr} {vs : List V} {xs : List α} {k : Int} {v : V} {m : Addr} {y : α} (up : ∀ H' y, (∀ b ∈ L, b ∉ L1 → ∀ o, H b = some o → H' b = some o) → Ow G H' L1 v (f y) → OwAll G H' L vs ((setL xs k y).map f)) (x : SameX m H H') (hm : m ∈ L1) (w : Ow G H' L1 v (f y)) :
    OwAll G H' L vs ((setL xs k y).map f) := up H' y (fun c _ n o q => x c o q (fun z => n (z ▸ hm))) w
theorem Ow.toFrz {α : Type} {f : α → PyData} {G H : Hp} {L : List Addr} {v : V} {x : α} (w : Ow G H L v (oF f x)) : L = [] ∧ Rp G v (f x) := by
  unfold oF at w
  cases w with
  | frz r => exact ⟨rfl, r⟩
section
variable {α : Type} {f : α → Dt} {G H : Hp} {L : List Addr} {vs : List V} {xs : List α}
theorem OwAll.pin {i : Nat} {v : V} {x : α} (w : OwAll G H L vs (xs.map f)) (h : vs[i]? = some v) (hx : xs[i]? = some x) : ∃ L1, Ow G H L1 v (f x) ∧ ∀ b ∈ L1, b ∈ L := by
  obtain ⟨y, L1, h1, h2, h3⟩ := OwAll.turn w h
  rw [hx] at h1
  cases h1
  exact ⟨L1, h2, h3⟩
theorem OwAll.pinInts {i : Nat} {b : Addr} {xs : List (List Int)} {x : List Int} (w : OwAll G H L vs (xs.map (oL oI))) (h : vs[i]? = some (.ref b)) (hx : xs[i]? = some x) : H b = some (.lst (x.map V.int)) ∧ b ∈ L := by
  obtain ⟨L1, w1, h1⟩ := OwAll.pin w h hx
  obtain ⟨c, e, rfl, h2⟩ := Ow.toInts w1
  cases e
  exact ⟨h2, h1 _ List.mem_cons_self⟩
end
end Vx
namespace Vx
open PySem PySem.Spec PyProof.Rows L2
theorem lookup_relab {c : Str → Bool} {y : Str} : ∀ l : List (Str × NameKind), (l.lookup y = some .cell ∨ l.lookup y = some .free) →
    ((l.map fun (n, k) => if (k == .free && c n) then (n, NameKind.cell) else (n, k)).lookup y = some .cell ∨ (l.map fun (n, k) => if (k == .free && c n) then (n, NameKind.cell) else (n, k)).lookup y = some .free)
  | [], h => by simp at h
  | (n, k) :: r, h => by
    rw [List.map_cons]
    dsimp only
    by_cases e : y == n
    · have hk : k = .cell ∨ k = .free := by
        rw [List.lookup_cons, e] at h
        simpa using h
      by_cases q : (k == .free && c n) = true
      · left
        rw [if_pos q, List.lookup_cons, e]
      · rw [if_neg q, List.lookup_cons, e]
        simpa using hk
    · have e : (y == n) = false := by simpa using e
      rw [List.lookup_cons, e] at h
      have ih := lookup_relab (c := c) r h
      by_cases q : (k == .free && c n) = true
      · rw [if_pos q, List.lookup_cons, e]
        exact ih
      · rw [if_neg q, List.lookup_cons, e]
        exact ih
theorem blk_relabel {N : List Str} {sc scope : Scope} {env : Env} {own : List (Str × Nat)} (h : BlkOk N sc scope own) : BlkOk N (relabel sc env) scope own := by
  refine ⟨h.kind, h.uniq, h.ix, fun y hy e => ?_, h.own⟩
  have z := lookup_relab (c := fun n => env.scope.kind == .function && env.kindOf n == some .cell) (y := y.1) sc.names (h.free y hy e)
  unfold relabel
  simpa only [Bool.and_assoc] using z
end Vx
namespace Vx
open PySem PySem.Spec PyProof.Rows L2
theorem FnG.low {P : Program} {w : World} {K : PySem.W.Frag} {mg : Str → Option Value} {base : Heap} {cx : CXT} {j k : Nat} {f : Addr} {fd : FuncData} {ps : List Str} {sp : Sp} (F : FnG P w K mg base cx j f fd ps sp) (h : j ≤ k) : FnG P w K mg base cx k f fd ps sp := ⟨F.len, fun A o s H a us vs Q E r => F.run A o s H a us vs Q E (r.low h)⟩
/-! ### a local name that holds one of several defs -/
structure HeldX (P : Program) (w : World) (K : PySem.W.Frag) (mg : Str → Option Value) (base : Heap) (k n : Nat) (f : Addr) (sp : Sp) : Prop where
  ex : ∃ (fd : FuncData) (ps : List Str), FnG P w K mg base (L2.CX P w) k f fd ps sp ∧ PySem.W.keepIn K (.ref f) = true ∧ Bnd K fd ps n [] (fun vs _ => vs)
theorem HeldX.of {P : Program} {w : World} {K : PySem.W.Frag} {mg : Str → Option Value} {base : Heap} {j k n : Nat} {x : Str} {sp : Sp} {pats : List Pat} {a : Addr} (c : CalX P w K mg base j x sp pats) (hx : mg x = some (.ref a)) (hp : (n, [], fun vs _ => vs) ∈ pats) (hj : j ≤ k) : HeldX P w K mg base k n a sp := by
  obtain ⟨f, fd, ps, F, hm, kp, b⟩ := c.ex
  rw [hx] at hm
  injection hm with hm
  injection hm with hm
  subst hm
  exact ⟨fd, ps, F.low hj, kp, b _ hp⟩
def tCallF (i n : Nat) (L : List (Addr × Sp)) (W : WX) (t : TA) : TE := fun σ H Q => ∃ f sp, σ[i]? = some (some (.ref f)) ∧ (f, sp) ∈ L ∧ t σ H fun vs H1 => vs.length = n ∧ ([] : List V).length = 0 ∧ sp vs H1 Q (WE W σ)
theorem vx_callF {X : Cx} {k j i n : Nat} {x : Str} {p pos : Pos} {e : Expr} {es : List Expr} {t : TA} {W : WX} (L : List (Addr × Sp)) (A : ∀ q ∈ L, HeldX X.prog X.w X.K X.mg X.base k n q.1 q.2) (hr : RoomG j X.A) (hk : k ≤ j) (tkW : Takes X W) (hN : X.N[i]? = some x) (hv : Vis X.env.scope x) (ha : PA X (e :: es) t)
    (hdb : (x == ("__debug__" : Str)) = false := by decide) (hcd : (x == ("__classdict__" : Str)) = false := by decide) (he : starEach (e :: es) X.env = (false, eval e X.env) :: starEach es X.env := by rfl) (hpl : (backTo pos (starEach es X.env)).any (·.1) = false := by rfl) :
    PE X (.Call (.Name x p) (e :: es) [] pos) (tCallF i n L W t) := by
  constructor
  intro pins s σ H Q I h
  obtain ⟨f, sp, slot, mem, rest⟩ := h
  obtain ⟨fd, ps, F, kp, b⟩ := (A _ mem).ex
  refine wpAny_Call_Name_kw (thn ((pe_var (pos := p) hN hv hdb hcd).run pins s σ H (fun v H1 => v = .ref f ∧ H1 = H) I ⟨.ref f, slot, rfl, rfl⟩) ?_)
  rintro u s1 ⟨v, H1, I1, r1, rfl, rfl⟩
  cases r1
  refine PySem.W.callWith_K (h₀ := X.base) I.ok.mod.kin kp (thn (ha.run pos pins s1 σ _ _ I1 rest) ?_) he hpl
  rintro us s2 ⟨vs, H2, I2, r, l1, l2, q⟩
  exact ⟨I2.kIn, run_X (us := us) (ws := []) (zs := []) F (hr.low hk) b tkW I2 r .nil l1 l2 q⟩
/-! ### the least of a list, the place of an item -/
def minL : List Int → Int
  | [] => 0
  | [x] => x
  | x :: y :: r => if x ≤ minL (y :: r) then x else minL (y :: r)
theorem minL_spec : ∀ (xs : List Int), xs ≠ [] → minL xs ∈ xs ∧ ∀ y ∈ xs, minL xs ≤ y
  | [], h => absurd rfl h
  | [x], _ => ⟨List.mem_cons_self, fun y hy => by rw [List.mem_singleton.mp hy]; exact Int.le_refl x⟩
  | x :: y :: r, _ => by
    obtain ⟨h1, h2⟩ := minL_spec (y :: r) (fun z => nomatch z)
    unfold minL
    split
    · refine ⟨List.mem_cons_self, fun z hz => ?_⟩
      rcases List.mem_cons.mp hz with rfl | hz
      · exact Int.le_refl _
      · have := h2 z hz
        omega
    · refine ⟨List.mem_cons_of_mem _ h1, fun z hz => ?_⟩
      rcases List.mem_cons.mp hz with rfl | hz
      · omega
      · exact h2 z hz
def maxL (xs : List Int) : Int := -(minL (xs.map fun x => -x))
theorem maxL_spec (xs : List Int) (h : xs ≠ []) : maxL xs ∈ xs ∧ ∀ y ∈ xs, y ≤ maxL xs := by
  obtain ⟨h1, h2⟩ := minL_spec (xs.map fun x => -x) (by simpa using h)
  obtain ⟨z, hz, e⟩ := List.mem_map.mp h1
  unfold maxL
  refine ⟨by rw [← e, Int.neg_neg]; exact hz, fun y hy => ?_⟩
  have := h2 _ (List.mem_map_of_mem hy)
  omega
section
variable {X : Cx} {K : PySem.W.Frag}
def rMinL (K : PySem.W.Frag) : List V → Hp → VK → Prop := fun vs H Q => ∃ (a : Addr) (ns : List Int), vs = [V.ref a] ∧ SqL K H a (ns.map V.int) ∧ ns ≠ [] ∧ Q (.int (minL ns)) H
def rMaxL (K : PySem.W.Frag) : List V → Hp → VK → Prop := fun vs H Q => ∃ (a : Addr) (ns : List Int), vs = [V.ref a] ∧ SqL K H a (ns.map V.int) ∧ ns ≠ [] ∧ Q (.int (maxL ns)) H
theorem cr_minL (hc : X.calm = true) (hK : X.K = K := by rfl) : CallR X (.builtin "min") (rMinL K) := by
  subst hK
  intro pins s σ H vs us Q I r h
  obtain ⟨a, ns, rfl, hs, hn, q⟩ := h
  refine cr_min hc pins s σ H _ us Q I r ⟨a, ns, rfl, hs, List.length_pos_iff.mpr hn, fun m hm hle => ?_⟩
  obtain ⟨h1, h2⟩ := minL_spec ns hn
  have e : m = minL ns := Int.le_antisymm (by have := hle _ h1; omega) (h2 m hm)
  rw [e]
  exact q
theorem cr_maxL (hc : X.calm = true) (hK : X.K = K := by rfl) : CallR X (.builtin "max") (rMaxL K) := by
  subst hK
  intro pins s σ H vs us Q I r h
  obtain ⟨a, ns, rfl, hs, hn, q⟩ := h
  refine cr_max hc pins s σ H _ us Q I r ⟨a, ns, rfl, hs, List.length_pos_iff.mpr hn, fun m hm hle => ?_⟩
  obtain ⟨h1, h2⟩ := maxL_spec ns hn
  have e : m = maxL ns := Int.le_antisymm (h2 m hm) (by have := hle _ h1; omega)
  rw [e]
  exact q
end
end Vx
namespace Vx
open PySem PySem.Spec PyProof.Rows L2
def idxL (ns : List Int) (i : Int) : Int := (ns.idxOf i : Nat)
def rIndexI (K : PySem.W.Frag) : V → List V → Hp → VK → Prop := fun x xs H Q => ∃ (a : Addr) (ns : List Int) (i : Int), x = V.ref a ∧ xs = [.int i] ∧ SqL K H a (ns.map V.int) ∧ i ∈ ns ∧ Q (.int (idxL ns i)) H
theorem mt_indexI {X : Cx} {K : PySem.W.Frag} (hK : X.K = K := by rfl) : MtR X "list.index" (rIndexI K) := by
  subst hK
  intro pins s σ H x xs v us Q I rx rxs h
  obtain ⟨a, ns, i, rfl, rfl, hs, hi, q⟩ := h
  have hl := List.idxOf_lt_length_of_mem hi
  refine mt_index pins s σ H _ _ v us Q I rx rxs ⟨a, _, .int i, ns.idxOf i, .int i, rfl, rfl, hs, rfl, flat_ints ns, ?_, by simp [eqV], fun m z hm hz => ?_, q⟩
  · rw [List.getElem?_map, List.getElem?_eq_getElem hl, List.getElem_idxOf hl] <;> rfl
  · rw [List.getElem?_map] at hz
    cases e : ns[m]? with
    | none => rw [e] at hz; cases hz
    | some y =>
      rw [e] at hz
      cases hz
      have hml : m < ns.length := by omega
      have hy : ns[m] = y := by
        rw [List.getElem?_eq_getElem hml] at e
        exact Option.some.inj e
      have := List.not_of_lt_findIdx (p := (· == i)) (xs := ns) (i := m) hm
      simp only [beq_iff_eq, hy] at this
      simp [eqV, this]
theorem cW_aftgo {σ ρ τ : Type} {s : σ} {kr : ρ → Rx τ} {k : σ → Rx τ} {K : τ → Prop} {E : Nat → Prop} (h : cW ((Lp.go s : Lp σ ρ).aft kr k) K E) : cW (k s) K E := h
end Vx
namespace Vx
open PySem PySem.Spec PyProof.Rows L2
/-! ### a truth value or a number beside a number -/
def Bi.num : Bi → Int
  | .b x => if x then 1 else 0
  | .n i => i
def Bi.dat : Bi → PyData
  | .b x => .bool x
  | .n i => .int i
section
variable {X : Cx}
def rEqBI : R2 := fun x y H Q => ∃ (b : Bi) (i : Int), x = biV b ∧ y = .int i ∧ Q (.bl (decide (b.num = i))) H
def rNeBI : R2 := fun x y H Q => ∃ (b : Bi) (i : Int), x = biV b ∧ y = .int i ∧ Q (.bl (!decide (b.num = i))) H
theorem eqv_bi (b : Bi) (i : Int) : PyData.eqv b.dat (.int i) = decide (b.num = i) := by
  cases b with
  | b x => cases x <;> (rw [Bool.eq_iff_iff]; simp [Bi.dat, Bi.num, PyData.eqv])
  | n j =>
    rw [Bool.eq_iff_iff]
    simp only [Bi.dat, Bi.num, PyData.eqv, beq_iff_eq]
    exact decide_eq_true_iff.symm
theorem dp_bi {K : PySem.W.Frag} {H : Hp} : ∀ b : Bi, Dp K H (biV b) b.dat
  | .b x => .bl x
  | .n i => .int i
theorem shaped_bi : ∀ b : Bi, SeqAt.shaped b.dat = true
  | .b x => by unfold SeqAt.shaped; simp [Bi.dat, PyData.canLay0, PyData.depth]
  | .n i => by unfold SeqAt.shaped; simp [Bi.dat, PyData.canLay0, PyData.depth]
theorem op_eqBI (hu : X.A.units + 64 < cLine) : OpR X (compareOp .Eq) rEqBI := by
  intro pins s σ H x y v u Q I rx ry h
  obtain ⟨b, i, rfl, rfl, q⟩ := h
  exact op_eqD hu pins s σ H _ _ v u Q I rx ry ⟨b.dat, .int i, dp_bi b, .int i, shaped_bi b, shaped_bi (.n i), by rw [eqv_bi]; exact q⟩
theorem op_neBI (hu : X.A.units + 64 < cLine) : OpR X (compareOp .NotEq) rNeBI := by
  intro pins s σ H x y v u Q I rx ry h
  obtain ⟨b, i, rfl, rfl, q⟩ := h
  exact op_neD hu pins s σ H _ _ v u Q I rx ry ⟨b.dat, .int i, dp_bi b, .int i, shaped_bi b, shaped_bi (.n i), by rw [eqv_bi]; exact q⟩
end
end Vx
namespace Vx
open PySem PySem.Spec PyProof.Rows L2
/-! ### == of own objects by an own __eq__ that never raises -/
section
variable {X : Cx} {k j : Nat}
def rEqX (C : Addr) (n mm : Nat) (sp : Sp) (g : List V → List V → List V) : R2 := fun x y H Q => ∃ (a b dx dy : Addr) (fs gs : List (Str × V)), x = .ref a ∧ y = .ref b ∧ H a = some (.ins C dx fs) ∧ H b = some (.ins C dy gs) ∧ 2 = n ∧ 0 = mm ∧ sp (g [x, y] []) H (fun v H' => (∃ r, v = .bl r) ∧ Q v H') E0
theorem op_eqX {C : Addr} {sp : Sp} {pats : List Pat} (c : MetX X.prog X.w X.K X.mg X.base k C "__eq__" sp pats) (pt : Pat) (hpt : pt ∈ pats) (hr : RoomG j X.A) (hk : k ≤ j) (hks : pt.2.1 = [] := by rfl) : OpR X (compareOp .Eq) (rEqX C pt.1 pt.2.1.length sp pt.2.2) := by
  intro pins s σ H x y v u Q I rx ry hq
  obtain ⟨a, b, dx, dy, fs, gs, rfl, rfl, ha, hb', l1, l2, q⟩ := hq
  obtain ⟨f, fd, ps, hc, hm, F, bb⟩ := c.ex
  cases rx
  cases ry
  obtain ⟨mA, J, _⟩ := ins_get I.hok ha
  obtain ⟨mB, J', _⟩ := ins_get I.hok hb'
  obtain ⟨od, J, _⟩ := J.look
  obtain ⟨od', J', _⟩ := J'.look
  obtain ⟨m, hF⟩ := I.fr
  have hz := run_X (us := [.ref a, .ref b]) (vs := [.ref a, .ref b]) (ws := []) (zs := []) F (hr.low hk) (bb pt hpt) (takes0 (X := X)) I (.cons rfl (.cons rfl .nil)) .nil l1 l2 q
  rw [hks] at hz
  show wpAny (model X.prog X.w) X.A (richCompare .Eq (.ref a) (.ref b)) (EP X pins σ Q) X.xe s
  refine PySem.W.cmp_K (op := .Eq) (tb := .ref C) (hr.low hk).toRoom.units0 hF I.ok.mod.kin J J'.type (by simp [PySem.W.notFirst]) hm.at_ hm.fn ?_
  refine wpAny_mono hz (fun r s' z => ?_) fun _ _ e => e
  obtain ⟨w, H', I', rw', ⟨⟨q1, rfl⟩, q2⟩⟩ := z
  cases rw'
  exact ⟨V.bl q1, H', I', rfl, q2⟩
end
end Vx
namespace Vx
open PySem PySem.Spec PyProof.Rows L2
/-! ### isinstance of the exception in hand: a built-in class, a tuple of classes -/
theorem kit_blt {K : PySem.W.Frag} {D : Addr} {T : String} {b : Bool} (h : PySem.W.subIn K (.ref D) (.type T) = some b) (h0 : PySem.W.kitMeta T = true := by decide +kernel) : PySem.W.kitOne K (.ref D) (.type T) = some b := by
  unfold PySem.W.kitOne
  rw [if_neg (show ¬ (Value.ref D == Value.type T) = true from fun z => nomatch (show false = true from z))]
  show (if PySem.W.kitMeta T = true then PySem.W.subIn K (.ref D) (.type T) else none) = some b
  rw [if_pos h0, h]
def rIsXB (K : PySem.W.Frag) (a : Addr) (cls : Value) (d : Option Addr) : List V → Hp → VK → Prop := fun xs H Q => ∃ (D : Addr) (T : String) (b : Bool), cls = .ref D ∧ d = none ∧ ExcC K D ∧ xs = [.ref a, .ty T] ∧ PySem.W.kitOne K (.ref D) (.type T) = some b ∧ Q (.bl b) H
theorem call_isXB {X : Cx} {K : PySem.W.Frag} {a : Addr} {cls : Value} {d : Option Addr} {oe : Obj} {pn : List (Addr × Obj)} (hz : Zc cls d oe) (hf : ∃ vs, oe.data = .fields vs) (hK : X.K = K := by rfl) : CallR (X.suite a ((a, oe) :: pn)) (.builtin "isinstance") (rIsXB K a cls d) := by
  subst hK
  intro pins s σ H xs us Q I r h
  obtain ⟨D, T, b, rfl, rfl, c, rfl, e, q⟩ := h
  exact call_isE c hz hf pins s σ H _ us Q I r ⟨_, _, b, rfl, fun u z => z, e, q⟩
def rIsXT (K : PySem.W.Frag) (a : Addr) (cls : Value) (d : Option Addr) : List V → Hp → VK → Prop := fun xs H Q => ∃ (D tp : Addr) (cs : List V) (ws : List Value) (b : Bool), cls = .ref D ∧ d = none ∧ ExcC K D ∧ xs = [.ref a, .ref tp] ∧ H tp = some (.tup cs) ∧ Paired ClsV cs ws ∧ PySem.W.kitAny K (.ref D) ws = some b ∧ Q (.bl b) H
theorem call_isXT {X : Cx} {K : PySem.W.Frag} {a : Addr} {cls : Value} {d : Option Addr} {oe : Obj} {pn : List (Addr × Obj)} (hz : Zc cls d oe) (hf : ∃ vs, oe.data = .fields vs) (hK : X.K = K := by rfl) : CallR (X.suite a ((a, oe) :: pn)) (.builtin "isinstance") (rIsXT K a cls d) := by
  subst hK
  intro pins s σ H xs us Q I r h
  obtain ⟨D, tp, cs, ws, b, rfl, rfl, C, rfl, hT, k, e, q⟩ := h
  cases r with
  | cons rx rr =>
    cases rr with
    | cons rt rr =>
      cases rr
      cases rx
      cases rt
      obtain ⟨hget, _⟩ := I.pin (a, oe) (List.mem_append.mpr (.inl List.mem_cons_self))
      obtain ⟨vs, hv⟩ := hf
      have J : PySem.W.InstAt s.heap a oe D none := by
        obtain ⟨oc, od, oda, osl⟩ := oe
        obtain ⟨h1, h2⟩ := hz
        dsimp only at h1 h2 hv
        subst h1 h2 hv
        exact ⟨hget, rfl, rfl, trivial⟩
      obtain ⟨_, its, rv, o, h1, h2, n, h3⟩ := (show ObjOk X.prog X.w H s.heap tp (.tup cs) from I.hok tp _ hT)
      have e3 := ClsV.all k rv
      subst e3
      obtain ⟨oc, od, dt, sl⟩ := o
      simp only at h2 h3
      subst h2 h3
      exact PySem.W.kia_tup (PySem.W.handS_kitx_exc C.hg C.hk C.hs C.hd C.ha C.hn C.ht C.hm) I.kIn J h1 e (fun z => nomatch z) fun tk => ⟨.bl b, H, I.kept (t' := tk) fun _ _ z => z, rfl, q⟩
theorem kit_self {K : PySem.W.Frag} {t : Value} (h : (t == t) = true := by simp) : PySem.W.kitOne K t t = some true := by
  unfold PySem.W.kitOne
  rw [if_pos h]
/-- what a class must say, so that isinstance asks its objects rightly -/
structure IsiC (K : PySem.W.Frag) (C : Addr) : Prop where
  ha : PySem.W.findIn K (.ref C) "__class__" = some (some (.builtin "object.__class__"))
  hn : PySem.W.specialIn K (.builtin "object.__class__") "__get__" = some (some (.builtin "getset_descriptor.__get__"))
  ht : PySem.W.takesIn K (.builtin "object.__class__") = some true
  hm : PySem.W.mroIn K C (.type "object") = some true
theorem tyX_ins {K : PySem.W.Frag} {H : Hp} {a C dx : Addr} {fs : List (Str × V)} (e : H a = some (.ins C dx fs)) (cl : Cls K C) (c : IsiC K C) : TyX K H (.ref a) (.ref C) := .base (.ins e cl c.ha c.hn c.ht c.hm)
end Vx
namespace Vx
open PySem PySem.Spec PyProof.Rows L2
theorem op_notTrue {X : Cx} : OpR X (compareOp .IsNot) (fun x y H Q => ∃ b : Bool, x = .bl b ∧ y = .bl true ∧ Q (.bl (!b)) H) := by
  intro pins s σ H x y v u Q I rx ry h
  obtain ⟨b, rfl, rfl, q⟩ := h
  cases rx
  cases ry
  show wpAny (model X.prog X.w) X.A (compareOp .IsNot (.bool b) (.bool true)) (EP X pins σ Q) X.xe s
  have e : compareOp .IsNot (.bool b) (.bool true) = pure (.bool (!b)) := by cases b <;> rfl
  rw [e]
  exact wpAny_pure ⟨.bl (!b), H, I, rfl, q⟩
end Vx
/-! # lists stored into trees -/
namespace Vx
open PySem PySem.Spec PyProof.Rows L2
section
variable {G H I : Hp} {α : Type} {f : α → Dt} {L : List Addr} {vs : List V} {xs : List α}
theorem OwAll.set {L1 : List Addr} {v : V} {d : Dt} (h : Ow G H L1 v d) : ∀ {L : List Addr} {vs : List V} {ds : List Dt} (i : Nat), i < ds.length → OwAll G H L vs ds → (∀ b ∈ L1, b ∉ L) → ∃ L', (∀ b ∈ L', b ∈ L ++ L1) ∧ OwAll G H L' (vs.set i v) (ds.set i d)
  | _, _, _, _, hi, .nil, _ => absurd hi (Nat.not_lt_zero _)
  | _, _, _, 0, _, .cons (L1 := La) (L2 := Lb) a r n, nf => by
    refine ⟨L1 ++ Lb, fun b hb => ?_, .cons h r fun b hb q => nf b hb (List.mem_append_right _ q)⟩
    rcases List.mem_append.mp hb with q | q
    · exact List.mem_append_right _ q
    · exact List.mem_append_left _ (List.mem_append_right _ q)
  | _, _, _, i + 1, hi, .cons (L1 := La) (L2 := Lb) a r n, nf => by
    obtain ⟨L', s, w⟩ := OwAll.set h i (Nat.lt_of_succ_lt_succ hi) r fun b hb q => nf b hb (List.mem_append_right _ q)
    refine ⟨La ++ L', fun b hb => ?_, .cons a w fun b hb q => ?_⟩
    · rcases List.mem_append.mp hb with q | q
      · exact List.mem_append_left _ (List.mem_append_left _ q)
      · rcases List.mem_append.mp (s b q) with z | z
        · exact List.mem_append_left _ (List.mem_append_right _ z)
        · exact List.mem_append_right _ z
    · rcases List.mem_append.mp (s b q) with z | z
      · exact n b hb z
      · exact nf b z (List.mem_append_left _ hb)
theorem ixN_len {k : Int} (e : vs.length = xs.length) (h : -(xs.length : Int) ≤ k ∧ k < xs.length) : ixN vs.length k = some ((ixN vs.length k).getD 0) := by
  rw [e]
  obtain ⟨j, hj, _⟩ := ixN_some h
  rw [hj]
  rfl
theorem OwAll.setM {k : Int} {L1 : List Addr} {v : V} {y : α} (w : OwAll G H L vs (xs.map f)) (h : -(xs.length : Int) ≤ k ∧ k < xs.length) (ow : Ow G H L1 v (f y)) (n : ∀ b ∈ L1, b ∉ L) :
    ∃ L', (∀ b ∈ L', b ∈ L ++ L1) ∧ OwAll G H L' (vs.set ((ixN vs.length k).getD 0) v) ((setL xs k y).map f) := by
  obtain ⟨j, e, hj⟩ := ixN_some h
  obtain ⟨L', s, z⟩ := OwAll.set ow j (by simpa using hj) w n
  refine ⟨L', s, ?_⟩
  unfold setL
  rw [w.lenM, e, List.map_set]
  exact z
end
theorem ne_of_len {α : Type} {xs : List α} (h : xs.length = 4 ∨ xs.length = 6 ∨ xs.length = 8) : xs ≠ [] := by
  rintro rfl
  simp at h
end Vx
namespace Vx
open PySem PySem.Spec PyProof.Rows L2
/-! ### written dicts of ints -/
inductive EI : List (Int × Int) → List DictEntry → Prop
  | nil : EI [] []
  | cons {k v : Int} {t u : Tok} {r : List (Int × Int)} {es : List DictEntry} (h : EI r es) : EI ((k, v) :: r) (⟨hashInt k, .int k t, .int v u⟩ :: es)
def lookI : List (Int × Int) → Int → Option Int
  | [], _ => none
  | (k, v) :: r, i => if i = k then some v else lookI r i
def KDI (K : PySem.W.Frag) (a : Addr) (kvs : List (Int × Int)) : Prop :=
  ∃ es n, K.lookup a = some ⟨.type "dict", none, .dict es n, #[]⟩ ∧ (a == sysModules) = false ∧ EI kvs es.toList
theorem lookI_mem {kvs : List (Int × Int)} {i : Int} : (lookI kvs i).isSome = decide (i ∈ kvs.map (·.1)) := by
  induction kvs with
  | nil => rfl
  | cons p r ih =>
    obtain ⟨k, v⟩ := p
    unfold lookI
    by_cases q : i = k
    · rw [if_pos q]; simp [q]
    · rw [if_neg q, ih]; simp [q]
theorem EI.find {i : Int} : ∀ {kvs : List (Int × Int)} {es : List DictEntry}, EI kvs es → match lookI kvs i with
    | some v => ∃ u, (es.find? fun e => keyIs (.inl i) e.key).map (·.val) = some (.int v u)
    | none => (es.find? fun e => keyIs (.inl i) e.key).map (·.val) = none
  | _, _, .nil => rfl
  | _, _, .cons (k := k) (v := v) (t := t) (u := u) (r := r) (es := es) h => by
    have ih := EI.find (i := i) h
    unfold lookI
    by_cases q : i = k
    · subst q
      rw [if_pos rfl]
      refine ⟨u, ?_⟩
      rw [List.find?_cons_of_pos (by exact keyIs_int i t)]
      rfl
    · rw [if_neg q]
      have e : ¬ (keyIs (.inl i) (Value.int k t) = true) := by
        intro z
        obtain ⟨t', e'⟩ := Value.isInt_shape (k := i) (v := Value.int k t) z
        injection e' with e1 _
        exact q e1.symm
      rw [List.find?_cons_of_neg (by exact e)]
      exact ih
theorem EI.keys {P : Program} {w : World} : ∀ {kvs : List (Int × Int)} {es : List DictEntry}, EI kvs es → ∀ e ∈ es, ∃ k, (mixKind P w).is k e.key = true ∧ e.hash = (mixKind P w).hash k
  | _, _, .nil, e, he => nomatch he
  | _, _, .cons (k := k) (t := t) h, e, he => by
    rcases List.mem_cons.mp he with rfl | he
    · exact ⟨.inl k, keyIs_int k t, rfl⟩
    · exact EI.keys h e he
section
variable {X : Cx} {K : PySem.W.Frag}
theorem KDI.map {d : Addr} {kvs : List (Int × Int)} {pins : List (Addr × Obj)} {σ : L2.St} {H : Hp} {s : Shared} (D : KDI X.K d kvs) (I : Inv X pins σ H s) : (d == sysModules) = false ∧ ∃ f, s.heap.MapOf (mixKind X.prog X.w) d f ∧ ∀ i, match lookI kvs i with
    | some v => ∃ u, f (.inl i) = some (.int v u)
    | none => f (.inl i) = none := by
  obtain ⟨es, n, hl, hd, he⟩ := D
  refine ⟨hd, fun k => findBy keyIs es k, ⟨_, es, n, I.kIn _ _ hl, ⟨rfl, rfl, rfl⟩, rfl, fun e q => EI.keys he e (Array.mem_toList_iff.mpr q), fun _ => rfl⟩, fun i => ?_⟩
  have := EI.find (i := i) he
  have e : findBy keyIs es (.inl i) = (es.toList.find? fun e => keyIs (.inl i) e.key).map (·.val) := by
    obtain ⟨l⟩ := es
    unfold findBy
    rw [List.find?_toArray]
  show match lookI kvs i with
    | some v => ∃ u, findBy keyIs es (.inl i) = some (.int v u)
    | none => findBy keyIs es (.inl i) = none
  rw [e]
  exact this
def rInDI (K : PySem.W.Frag) : R2 := fun x y H Q => ∃ (i : Int) (d : Addr) (kvs : List (Int × Int)) (ks : List Int), x = .int i ∧ y = .ref d ∧ KDI K d kvs ∧ ks = kvs.map (·.1) ∧ Q (.bl (decide (i ∈ ks))) H
def rNotInDI (K : PySem.W.Frag) : R2 := fun x y H Q => ∃ (i : Int) (d : Addr) (kvs : List (Int × Int)) (ks : List Int), x = .int i ∧ y = .ref d ∧ KDI K d kvs ∧ ks = kvs.map (·.1) ∧ Q (.bl (!decide (i ∈ ks))) H
def rIxDI (K : PySem.W.Frag) : R2 := fun x y H Q => ∃ (d : Addr) (i v : Int) (kvs : List (Int × Int)), x = .ref d ∧ y = .int i ∧ KDI K d kvs ∧ lookI kvs i = some v ∧ Q (.int v) H
theorem op_inDI (hK : X.K = K := by rfl) : OpR X (compareOp .In) (rInDI K) := by
  subst hK
  intro pins s σ H x y v u Q I rx ry h
  obtain ⟨i, d, kvs, ks, rfl, rfl, D, rfl, q⟩ := h
  rw [← lookI_mem] at q
  obtain ⟨t, rfl⟩ := rx
  cases ry
  obtain ⟨hd, f, hm, hf⟩ := D.map I
  refine wpAny_in_of (knd := mixKind X.prog X.w) (kV_is (k := .inl i) ⟨t, rfl⟩) hd hm ?_
  have e : (f (.inl i)).isSome = (lookI kvs i).isSome := by
    have := hf i
    split at this
    · next v hv => obtain ⟨u, hu⟩ := this; rw [hu, hv]; rfl
    · next hv => rw [this, hv]; rfl
  rw [e]
  exact ⟨.bl (lookI kvs i).isSome, H, I.tok _, rfl, q⟩
theorem op_notInDI (hK : X.K = K := by rfl) : OpR X (compareOp .NotIn) (rNotInDI K) := by
  subst hK
  intro pins s σ H x y v u Q I rx ry h
  obtain ⟨i, d, kvs, ks, rfl, rfl, D, rfl, q⟩ := h
  rw [← lookI_mem] at q
  obtain ⟨t, rfl⟩ := rx
  cases ry
  obtain ⟨hd, f, hm, hf⟩ := D.map I
  refine wpAny_notIn_of (knd := mixKind X.prog X.w) (kV_is (k := .inl i) ⟨t, rfl⟩) hd hm ?_
  have e : (f (.inl i)).isSome = (lookI kvs i).isSome := by
    have := hf i
    split at this
    · next v hv => obtain ⟨u, hu⟩ := this; rw [hu, hv]; rfl
    · next hv => rw [this, hv]; rfl
  rw [e]
  exact ⟨.bl (!(lookI kvs i).isSome), H, I.tok _, rfl, q⟩
theorem ix_DI (hK : X.K = K := by rfl) : IxR X (rIxDI K) := by
  subst hK
  intro value slice pins s σ H x y v u Q I rx ry h hs
  obtain ⟨p, i, r, kvs, rfl, rfl, D, e, q⟩ := h
  obtain rfl : v = Value.ref p := rx
  obtain ⟨t, rfl⟩ := ry
  obtain ⟨hd, f, hm, hf⟩ := D.map I
  have := hf i
  rw [e] at this
  obtain ⟨u, hu⟩ := this
  exact tail_any hm.typeIs slot_dict_getitem.lookup (wpAny_getItem_of (knd := mixKind X.prog X.w) (kV_is (k := .inl i) ⟨t, rfl⟩) hm hu ⟨.int r, H, I.tok _, ⟨_, rfl⟩, q⟩) hs
end
/-- the value at a key that is there -/
def dictI (kvs : List (Int × Int)) (i : Int) : Int := (lookI kvs i).getD 0
theorem lookI_at {kvs : List (Int × Int)} {i : Int} (h : i ∈ kvs.map (·.1)) : lookI kvs i = some (dictI kvs i) := by
  have := lookI_mem (kvs := kvs) (i := i)
  rw [decide_eq_true h] at this
  unfold dictI
  cases e : lookI kvs i with
  | none => rw [e] at this; cases this
  | some v => rfl
/-! ### walks over two lists, over numbered items, backwards -/
theorem pi_enumK {X : Cx} {K : PySem.W.Frag} {e : Expr} {ta : TA} {p pos tpos : Pos} {elts : List Expr} {kk : Nat} (hg : Gl X "enumerate") (hm : X.mg "enumerate" = none) (ha : PA X [e] ta) (hK : X.K = K := by rfl) (hs : starEach [e] X.env = [(false, eval e X.env)] := by rfl) :
    PI X (.Tuple elts kk tpos) (.Call (.Name "enumerate" p) [e] [] pos) (iEnum K ta) := hK ▸ pi_enum hg hm ha hs
section
variable {K : PySem.W.Frag} {a b : Addr} {xs ys : List V} {g : TG} {tb : TS} {tt : TT} {te : TE} {D : Ends} {σ : L2.St} {H H1 : Hp} {vs : List Nat} {DD : Addr} {Qd : Hp → Prop}
theorem for_enum (Pv : Nat → L2.St → Hp → Prop) (h0 : Pv 0 σ H) (hq : ∀ i σ H, Pv i σ H → SqL K H a xs)
    (hs : ∀ (i : Nat) (y : V) (T : Addr) (σ : L2.St) (H : Hp), xs[i]? = some y → H T = none → Pv i σ H → g (.ref T) σ (upd H T (.tup [.int (i : Nat), y])) fun σ2 H2 => tb { D with nx := Pv (i + 1), ct := Pv (i + 1), bk := D.nx } σ2 H2) (hd : ∀ σ H, Pv xs.length σ H → D.nx σ H) :
    ∃ W : Nat → Nat → L2.St → Hp → Prop, (∃ m, W 0 m σ H) ∧ ∀ i m σ H, W i m σ H →
      ((Ite K a).stop i H ∧ D.nx σ H) ∨ ((Ite K a).go i H ∧ ∃ N : L2.St → Hp → Prop, (∀ σ' H', N σ' H' → ∃ m', m' < m ∧ W (i + 1) m' σ' H') ∧ ∀ v H', (Ite K a).yld i H v H' → g v σ H' fun σ2 H2 => tb { D with nx := N, ct := N, bk := D.nx } σ2 H2) := by
  refine for_it walk_enum Pv h0 (fun i σ H _ p => hq i σ H p) (fun i x σ H H' hi p y => ?_) hd
  obtain ⟨T, x1, y1, rfl, hT, rfl, h1, h2⟩ := y
  cases h1
  exact hs i y1 T σ H h2 hT p
theorem lc_enum (Pv : Nat → Hp → Prop) (h0 : Pv 0 (upd H1 DD (.lst []))) (hq : ∀ i H, i ≤ xs.length → Pv i H → SqL K H a xs)
    (hs : ∀ (i : Nat) (y : V) (T : Addr) (H : Hp), xs[i]? = some y → H T = none → Pv i H → g (.ref T) (wipe σ vs) (upd H T (.tup [.int (i : Nat), y])) fun σ2 H2 => wipe σ2 vs = wipe σ vs ∧ tt σ2 H2 fun b H3 =>
      if b = true then te σ2 H3 fun y H4 => ∃ acc, H4 DD = some (.lst acc) ∧ acc.length < sizeLine ∧ Pv (i + 1) (upd H4 DD (.lst (acc ++ [y]))) else Pv (i + 1) H3) (hd : ∀ H, Pv xs.length H → Qd H) :
    ∃ W : Nat → Nat → Hp → Prop, (∃ m, W 0 m (upd H1 DD (.lst []))) ∧ ∀ i m H, W i m H →
      ((Ite K a).stop i H ∧ Qd H) ∨ ((Ite K a).go i H ∧ ∃ Nx : Hp → Prop, (∀ H', Nx H' → ∃ m', m' < m ∧ W (i + 1) m' H') ∧ ∀ x H', (Ite K a).yld i H x H' → g x (wipe σ vs) H' fun σ2 H2 => wipe σ2 vs = wipe σ vs ∧ tt σ2 H2 fun b H3 =>
        if b = true then te σ2 H3 fun y H4 => ∃ acc, H4 DD = some (.lst acc) ∧ acc.length < sizeLine ∧ Nx (upd H4 DD (.lst (acc ++ [y]))) else Nx H3) := by
  refine lc_it walk_enum Pv h0 hq (fun i x H H' hi p y => ?_) hd
  obtain ⟨T, x1, y1, rfl, hT, rfl, h1, h2⟩ := y
  cases h1
  exact hs i y1 T H h2 hT p
/-- zip of two lists of any lengths -/
theorem for_zipM (n : Nat) (hn : n = min xs.length ys.length) (Pv : Nat → L2.St → Hp → Prop) (h0 : Pv 0 σ H) (hq : ∀ i σ H, Pv i σ H → SqL K H a xs ∧ SqL K H b ys)
    (hs : ∀ (i : Nat) (x y : V) (T : Addr) (σ : L2.St) (H : Hp), xs[i]? = some x → ys[i]? = some y → H T = none → Pv i σ H → g (.ref T) σ (upd H T (.tup [x, y])) fun σ2 H2 => tb { D with nx := Pv (i + 1), ct := Pv (i + 1), bk := D.nx } σ2 H2) (hd : ∀ σ H, Pv n σ H → D.nx σ H) :
    ∃ W : Nat → Nat → L2.St → Hp → Prop, (∃ m, W 0 m σ H) ∧ ∀ i m σ H, W i m σ H →
      ((Itz K a b).stop i H ∧ D.nx σ H) ∨ ((Itz K a b).go i H ∧ ∃ N : L2.St → Hp → Prop, (∀ σ' H', N σ' H' → ∃ m', m' < m ∧ W (i + 1) m' σ' H') ∧ ∀ v H', (Itz K a b).yld i H v H' → g v σ H' fun σ2 H2 => tb { D with nx := N, ct := N, bk := D.nx } σ2 H2) := by
  refine for_it (walk_zip hn) Pv h0 (fun i σ H _ p => hq i σ H p) (fun i x σ H H' hi p y => ?_) hd
  obtain ⟨T, x1, y1, rfl, hT, rfl, h1, h2⟩ := y
  exact hs i x1 y1 T σ H h1 h2 hT p
theorem lc_zipM (n : Nat) (hn : n = min xs.length ys.length) (Pv : Nat → Hp → Prop) (h0 : Pv 0 (upd H1 DD (.lst []))) (hq : ∀ i H, i ≤ n → Pv i H → SqL K H a xs ∧ SqL K H b ys)
    (hs : ∀ (i : Nat) (x y : V) (T : Addr) (H : Hp), xs[i]? = some x → ys[i]? = some y → H T = none → Pv i H → g (.ref T) (wipe σ vs) (upd H T (.tup [x, y])) fun σ2 H2 => wipe σ2 vs = wipe σ vs ∧ tt σ2 H2 fun b H3 =>
      if b = true then te σ2 H3 fun y H4 => ∃ acc, H4 DD = some (.lst acc) ∧ acc.length < sizeLine ∧ Pv (i + 1) (upd H4 DD (.lst (acc ++ [y]))) else Pv (i + 1) H3) (hd : ∀ H, Pv n H → Qd H) :
    ∃ W : Nat → Nat → Hp → Prop, (∃ m, W 0 m (upd H1 DD (.lst []))) ∧ ∀ i m H, W i m H →
      ((Itz K a b).stop i H ∧ Qd H) ∨ ((Itz K a b).go i H ∧ ∃ Nx : Hp → Prop, (∀ H', Nx H' → ∃ m', m' < m ∧ W (i + 1) m' H') ∧ ∀ x H', (Itz K a b).yld i H x H' → g x (wipe σ vs) H' fun σ2 H2 => wipe σ2 vs = wipe σ vs ∧ tt σ2 H2 fun b H3 =>
        if b = true then te σ2 H3 fun y H4 => ∃ acc, H4 DD = some (.lst acc) ∧ acc.length < sizeLine ∧ Nx (upd H4 DD (.lst (acc ++ [y]))) else Nx H3) := by
  refine lc_it (walk_zip hn) Pv h0 hq (fun i x H H' hi p y => ?_) hd
  obtain ⟨T, x1, y1, rfl, hT, rfl, h1, h2⟩ := y
  exact hs i x1 y1 T H h1 h2 hT p
end
theorem zipM_len {α β : Type} {xs : List α} {ys : List β} : min xs.length ys.length = (xs.zip ys).length := by rw [List.length_zip]
theorem zipM_n {α β : Type} {vs ws : List V} {xs : List α} {ys : List β} (a : vs.length = xs.length) (b : ws.length = ys.length) : min xs.length ys.length = min vs.length ws.length := by rw [a, b]
def rListTK (K : PySem.W.Frag) : List V → Hp → VK → Prop := fun xs H Q => ∃ (p : Addr) (vs : List V), xs = [.ref p] ∧ SqT K H p vs ∧ ∀ l, H l = none → Q (.ref l) (upd H l (.lst vs))
theorem call_listTK {X : Cx} {K : PySem.W.Frag} (hK : X.K = K := by rfl) : CallR X (.type "list") (rListTK K) := by
  subst hK
  intro pins s σ H xs us Q I r h
  obtain ⟨p, vs, rfl, hs, q⟩ := h
  exact call_list_of pins s σ H _ us Q I r ⟨p, _, rfl, Or.inr hs, q⟩
/-- two lists that keep step -/
inductive F2 {α β : Type} (P : α → β → Prop) : List α → List β → Prop
  | nil : F2 P [] []
  | cons {a : α} {b : β} {l : List α} {m : List β} (h : P a b) (t : F2 P l m) : F2 P (a :: l) (b :: m)
theorem F2.get {α β : Type} {P : α → β → Prop} : ∀ {l : List α} {m : List β}, F2 P l m → ∀ (j : Nat), j < l.length → ∃ a b, l[j]? = some a ∧ m[j]? = some b ∧ P a b
  | _, _, .nil, j, h => absurd h (Nat.not_lt_zero _)
  | _, _, .cons h t, 0, _ => ⟨_, _, rfl, rfl, h⟩
  | _, _, .cons h t, j + 1, hj => t.get j (Nat.lt_of_succ_lt_succ hj)
theorem F2.at {α β : Type} [Inhabited α] [Inhabited β] {P : α → β → Prop} {l : List α} {m : List β} (h : F2 P l m) (k : Int) (h0 : 0 ≤ k) (h1 : k < l.length) : P (itD l k) (itD m k) := by
  obtain ⟨j, rfl⟩ : ∃ j : Nat, k = (j : Int) := ⟨k.toNat, by omega⟩
  obtain ⟨a, b, ha, hb, p⟩ := h.get j (by omega)
  have e1 : itD l (j : Int) = a := by unfold itD; rw [atI_nat ha]; rfl
  have e2 : itD m (j : Int) = b := by unfold itD; rw [atI_nat hb]; rfl
  rw [e1, e2]
  exact p
theorem SqT.cast {K : PySem.W.Frag} {H : Hp} {a : Addr} {xs ys : List V} (h : SqT K H a xs) (e : xs = ys) : SqT K H a ys := e ▸ h
/-- enumerate(xs) -/
def enumL {α : Type} (xs : List α) : List (Int × α) := (rng 0 xs.length).zip xs
theorem enumL_len {α : Type} (xs : List α) : (enumL xs).length = xs.length := by
  unfold enumL
  rw [List.length_zip, rng_len, Nat.min_self]
theorem enumL_get {α : Type} {xs : List α} {i : Nat} {x : α} (h : xs[i]? = some x) : (enumL xs)[i]? = some ((i : Int), x) := by
  have hl : i < xs.length := (List.getElem?_eq_some_iff.mp h).1
  unfold enumL
  rw [List.getElem?_zip_eq_some]
  refine ⟨?_, h⟩
  have := rng_get (lo := 0) hl
  rw [this]
  congr 1
  omega
end Vx
namespace Vx
open PySem PySem.Spec PyProof.Rows L2
theorem wipe_get : ∀ (σ : L2.St) (vs : List Nat) (j : Nat), (wipe σ vs)[j]? = if j ∈ vs ∧ j < σ.length then some none else σ[j]?
  | σ, [], j => by simp [wipe]
  | σ, v :: vs, j => by
    unfold wipe
    by_cases e : v = j
    · subst e
      by_cases h : v < σ.length
      · rw [List.getElem?_set_self (by rw [wipe_length]; exact h), if_pos ⟨List.mem_cons_self, h⟩]
      · rw [if_neg (fun z => h z.2), List.getElem?_eq_none (by rw [List.length_set, wipe_length]; omega), List.getElem?_eq_none (by omega)]
    · rw [List.getElem?_set_ne e, wipe_get σ vs j]
      have : (j ∈ v :: vs ∧ j < σ.length) ↔ (j ∈ vs ∧ j < σ.length) := by
        constructor
        · rintro ⟨h1, h2⟩
          rcases List.mem_cons.mp h1 with rfl | h1
          · exact absurd rfl e
          · exact ⟨h1, h2⟩
        · rintro ⟨h1, h2⟩
          exact ⟨List.mem_cons_of_mem _ h1, h2⟩
      by_cases q : j ∈ vs ∧ j < σ.length
      · rw [if_pos q, if_pos (this.mpr q)]
      · rw [if_neg q, if_neg (fun z => q (this.mp z))]
theorem wipe_wipe {σ : L2.St} {vs : List Nat} : wipe (wipe σ vs) vs = wipe σ vs := by
  apply List.ext_getElem?
  intro j
  rw [wipe_get (wipe σ vs), wipe_length]
  by_cases q : j ∈ vs ∧ j < σ.length
  · rw [if_pos q, wipe_get, if_pos q]
  · rw [if_neg q]
theorem wipe_set {σ : L2.St} {vs : List Nat} {v : Nat} {x : Option V} (h : v ∈ vs) : wipe (σ.set v x) vs = wipe σ vs := by
  apply List.ext_getElem?
  intro j
  rw [wipe_get, wipe_get, List.length_set]
  by_cases q : j ∈ vs ∧ j < σ.length
  · rw [if_pos q, if_pos q]
  · rw [if_neg q, if_neg q]
    by_cases e : v = j
    · subst e
      have hl : ¬ v < σ.length := fun z => q ⟨h, z⟩
      rw [List.getElem?_eq_none (by rw [List.length_set]; omega), List.getElem?_eq_none (by omega)]
    · rw [List.getElem?_set_ne e]
/-- a comprehension over a step range -/
theorem lc_rangeC {lo c : Int} {n : Nat} {g : TG} {tt : TT} {te : TE} {vs : List Nat} {σ : L2.St} {H1 : Hp} {D : Addr} {Qd : Hp → Prop} (Pv : Nat → Hp → Prop) (h0 : Pv 0 (upd H1 D (.lst [])))
    (hs : ∀ i H, i < n → Pv i H → g (.int (lo + (i : Nat) * c)) (wipe σ vs) H fun σ2 H2 => wipe σ2 vs = wipe σ vs ∧ tt σ2 H2 fun b H3 =>
      if b = true then te σ2 H3 fun y H4 => ∃ acc, H4 D = some (.lst acc) ∧ acc.length < sizeLine ∧ Pv (i + 1) (upd H4 D (.lst (acc ++ [y]))) else Pv (i + 1) H3) (hd : ∀ H, Pv n H → Qd H) :
    ∃ W : Nat → Nat → Hp → Prop, (∃ m, W 0 m (upd H1 D (.lst []))) ∧ ∀ i m H, W i m H →
      ((Itc lo c n).stop i H ∧ Qd H) ∨ ((Itc lo c n).go i H ∧ ∃ Nx : Hp → Prop, (∀ H', Nx H' → ∃ m', m' < m ∧ W (i + 1) m' H') ∧ ∀ x H', (Itc lo c n).yld i H x H' → g x (wipe σ vs) H' fun σ2 H2 => wipe σ2 vs = wipe σ vs ∧ tt σ2 H2 fun b H3 =>
        if b = true then te σ2 H3 fun y H4 => ∃ acc, H4 D = some (.lst acc) ∧ acc.length < sizeLine ∧ Nx (upd H4 D (.lst (acc ++ [y]))) else Nx H3) := by
  refine ⟨fun i m H => m = n - i ∧ i ≤ n ∧ Pv i H, ⟨n, by simp, Nat.zero_le _, h0⟩, ?_⟩
  rintro i m H ⟨rfl, hi, p⟩
  rcases Nat.lt_or_ge i n with hlt | hge
  · refine .inr ⟨hlt, Pv (i + 1), fun H' p' => ⟨n - (i + 1), by omega, rfl, hlt, p'⟩, fun x H' y => ?_⟩
    obtain ⟨e, y⟩ := y
    subst e y
    exact hs i _ hlt p
  · cases Nat.le_antisymm hi hge
    exact .inl ⟨Nat.le_refl _, hd H p⟩

/-! ### reversed(list of ints), any(list of ints) -/
theorem pi_revK {X : Cx} {K : PySem.W.Frag} {tg : Expr} {e : Expr} {ta : TA} {p pos : Pos} (hg : Gl X "reversed") (hm : X.mg "reversed" = none) (ha : PA X [e] ta) (hK : X.K = K := by rfl) (hs : starEach [e] X.env = [(false, eval e X.env)] := by rfl) :
    PI X tg (.Call (.Name "reversed" p) [e] [] pos) (iRev K ta) := hK ▸ pi_reversed hg hm ha hs
theorem for_revI {K : PySem.W.Frag} {a : Addr} {xs : List Int} {g : TG} {tb : TS} {D : Ends} {σ : L2.St} {H : Hp} (Pv : Nat → L2.St → Hp → Prop) (h0 : Pv 0 σ H) (hl : ∀ i σ H, i ≤ (xs.reverse.map V.int).length → Pv i σ H → SqL K H a (xs.map V.int))
    (hs : ∀ i x σ H, (xs.reverse.map V.int)[i]? = some x → Pv i σ H → g x σ H fun σ2 H2 => tb { D with nx := Pv (i + 1), ct := Pv (i + 1), bk := D.nx } σ2 H2) (hd : ∀ σ H, Pv (xs.reverse.map V.int).length σ H → D.nx σ H) :
    ∃ W : Nat → Nat → L2.St → Hp → Prop, (∃ m, W 0 m σ H) ∧ ∀ i m σ H, W i m σ H →
      ((Itv K a (xs.map V.int).length).stop i H ∧ D.nx σ H) ∨ ((Itv K a (xs.map V.int).length).go i H ∧ ∃ N : L2.St → Hp → Prop, (∀ σ' H', N σ' H' → ∃ m', m' < m ∧ W (i + 1) m' σ' H') ∧ ∀ x H', (Itv K a (xs.map V.int).length).yld i H x H' → g x σ H' fun σ2 H2 => tb { D with nx := N, ct := N, bk := D.nx } σ2 H2) := by
  have en : (xs.reverse.map V.int).length = (xs.map V.int).length := by rw [List.length_map, List.length_map, List.length_reverse]
  rw [en] at hl hd
  refine for_it walk_rev Pv h0 hl (fun i x σ H H' hi p y => ?_) hd
  obtain ⟨rfl, hx⟩ := y
  refine hs i x σ _ ?_ p
  rw [List.map_reverse, List.getElem?_reverse hi]
  exact hx
theorem ints_get : ∀ {ns : List Int} {us : List Value} {i : Nat} {v : Value}, IntsAre us ns → us[i]? = some v → ∃ t, v = .int (ns.getD i 0) t := by
  intro ns us i v h
  induction h generalizing i with
  | nil => intro z; simp at z
  | cons n t _ ih =>
    intro z
    cases i with
    | zero => simp at z; exact ⟨t, by rw [← z]; rfl⟩
    | succ i => exact ih (by simpa using z)
theorem any_rangeI : ∀ ns : List Int, (List.range ns.length).any (fun i => ns.getD i 0 != 0) = ns.any (fun x => x != 0)
  | [] => rfl
  | b :: bs => by
    rw [List.length_cons, List.range_succ_eq_map, List.any_cons, List.any_map, List.any_cons, ← any_rangeI bs]
    all_goals rfl
theorem ints_len : ∀ {ns : List Int} {us : List Value}, IntsAre us ns → us.length = ns.length := by
  intro ns us h
  induction h with
  | nil => rfl
  | cons _ _ _ ih => simp [ih]
def rAnyI (K : PySem.W.Frag) : List V → Hp → VK → Prop := fun vs H Q => ∃ (a : Addr) (ns : List Int), vs = [V.ref a] ∧ SqL K H a (ns.map V.int) ∧ Q (.bl (ns.any fun x => x != 0)) H
theorem cr_anyI {X : Cx} (hc : X.calm = true) : CallR X (.builtin "any") (rAnyI X.K) := by
  intro pins s σ H vs us Q I r h
  obtain ⟨a, ns, rfl, hs, q⟩ := h
  obtain ⟨its, rv, hl, _⟩ := I.list hs
  rw [Vals.ref1 r]
  have hb := rv.ints
  refine call_any_walk (iter_any hl.isList fun s₂ e2 st hne => ?_)
  subst e2
  have ht : TruthOf X.prog X.w X.A.in1 (fun i v => its.toArray[i]? = some v) (fun i => ns.getD i 0 != 0) := fun i v s Q E hv hq => by
    obtain ⟨t, rfl⟩ := ints_get hb (by simpa using hv)
    exact PyProof.Rows.truthy_int hq
  refine ⟨_, _, _, _, _, _, _, rfl, Walks.list (A := X.A.in1) (I.ok.hd hc) _ a hne its.toArray, st, ht, fun h' tk hk => ?_⟩
  refine ⟨.bl _, H, I.kept fun b o eo => hk b o (fun hmem => ?_) (Heap.get?_push_of_some _ eo), ?_, q⟩
  · rcases List.mem_cons.mp hmem with e1 | hmem
    · exact absurd (e1 ▸ Heap.lt_size eo) (Nat.lt_irrefl _)
    · cases hmem
  · show Value.bool _ = Value.bool _
    rw [← any_rangeI, List.size_toArray, ints_len hb]
theorem cr_anyIK {X : Cx} {K : PySem.W.Frag} (hc : X.calm = true) (hK : X.K = K := by rfl) : CallR X (.builtin "any") (rAnyI K) := hK ▸ cr_anyI hc
/-- an item of a list of data stored anew -/
theorem RpAll.setM {α : Type} {f : α → PyData} {G : Hp} {vs : List V} {xs : List α} {k : Int} {v : V} {y : α} (d : RpAll G vs (xs.map f)) (r : Rp G v (f y)) : RpAll G (vs.set ((ixN vs.length k).getD 0) v) ((setL xs k y).map f) := by
  have e : vs.length = xs.length := by rw [d.len, List.length_map]
  unfold setL
  rw [List.map_set, e]
  exact RpAll.set r _ d
end Vx
/-! # data of any shape: None beside data, tuples of several shapes -/
namespace Vx
open PySem PySem.Spec PyProof.Rows L2
def encD (d : PyData) : PyData := d
def encN (_ : Unit) : PyData := .none
def encT1 {α : Type} (f : α → PyData) (x : α) : PyData := .tuple [f x]
instance instInhD : Inhabited PyData := ⟨.none⟩
/-- a known shape: what is laid, what is read back, whether the data has the shape -/
structure Cst (α : Type) where
  enc : α → PyData
  dec : PyData → α
  ok : PyData → Bool
  h : ∀ d, ok d = true → enc (dec d) = d
  oke : ∀ x, ok (enc x) = true
  de : ∀ x, dec (enc x) = x
def cI : Cst Int := ⟨PyData.int, fun d => match d with | .int i => i | _ => 0, fun d => match d with | .int _ => true | _ => false, fun d h => (by cases d <;> first | rfl | (cases h)), fun _ => rfl, fun _ => rfl⟩
def cB : Cst Bool := ⟨PyData.bool, fun d => match d with | .bool i => i | _ => false, fun d => match d with | .bool _ => true | _ => false, fun d h => (by cases d <;> first | rfl | (cases h)), fun _ => rfl, fun _ => rfl⟩
def cS : Cst Str := ⟨PyData.str, fun d => match d with | .str i => i | _ => "", fun d => match d with | .str _ => true | _ => false, fun d h => (by cases d <;> first | rfl | (cases h)), fun _ => rfl, fun _ => rfl⟩
def cN : Cst Unit := ⟨encN, fun _ => (), fun d => match d with | .none => true | _ => false, fun d h => (by cases d <;> first | rfl | (cases h)), fun _ => rfl, fun _ => rfl⟩
def cD : Cst PyData := ⟨encD, fun d => d, fun _ => true, fun _ _ => rfl, fun _ => rfl, fun _ => rfl⟩
theorem map_dec {α : Type} (c : Cst α) : ∀ xs : List PyData, xs.all c.ok = true → (xs.map c.dec).map c.enc = xs
  | [], _ => rfl
  | x :: xs, h => by
    rw [List.all_cons, Bool.and_eq_true] at h
    rw [List.map_cons, List.map_cons, c.h x h.1, map_dec c xs h.2]
def cL {α : Type} (c : Cst α) : Cst (List α) where
  enc := encL c.enc
  dec := fun d => match d with | .list xs => xs.map c.dec | _ => []
  ok := fun d => match d with | .list xs => xs.all c.ok | _ => false
  h := fun d h => by
    cases d with
    | list xs => exact congrArg PyData.list (map_dec c xs h)
    | _ => cases h
  oke := fun x => by
    show (x.map c.enc).all c.ok = true
    rw [List.all_map, List.all_eq_true]
    exact fun a _ => c.oke a
  de := fun x => by
    show (x.map c.enc).map c.dec = x
    rw [List.map_map]
    have e : c.dec ∘ c.enc = id := funext c.de
    rw [e, List.map_id]
def cT1 {α : Type} (a : Cst α) : Cst α where
  enc := encT1 a.enc
  dec := fun d => match d with | .tuple [x] => a.dec x | _ => a.dec .none
  ok := fun d => match d with | .tuple [x] => a.ok x | _ => false
  h := fun d h => by
    split at h
    · next x => exact congrArg (fun z => PyData.tuple [z]) (a.h x h)
    · cases h
  oke := fun x => a.oke x
  de := fun x => a.de x
def cT2 {α β : Type} (a : Cst α) (b : Cst β) : Cst (α × β) where
  enc := encT2 a.enc b.enc
  dec := fun d => match d with | .tuple [x, y] => (a.dec x, b.dec y) | _ => (a.dec .none, b.dec .none)
  ok := fun d => match d with | .tuple [x, y] => a.ok x && b.ok y | _ => false
  h := fun d h => by
    split at h
    · next x y =>
      rw [Bool.and_eq_true] at h
      show PyData.tuple [a.enc (a.dec x), b.enc (b.dec y)] = _
      rw [a.h x h.1, b.h y h.2]
    · cases h
  oke := fun x => by show (a.ok (a.enc x.1) && b.ok (b.enc x.2)) = true; rw [a.oke, b.oke]; rfl
  de := fun x => by show (a.dec (a.enc x.1), b.dec (b.enc x.2)) = x; rw [a.de, b.de]
def cT3 {α β γ : Type} (a : Cst α) (b : Cst β) (c : Cst γ) : Cst (α × β × γ) where
  enc := encT3 a.enc b.enc c.enc
  dec := fun d => match d with | .tuple [x, y, z] => (a.dec x, b.dec y, c.dec z) | _ => (a.dec .none, b.dec .none, c.dec .none)
  ok := fun d => match d with | .tuple [x, y, z] => a.ok x && b.ok y && c.ok z | _ => false
  h := fun d h => by
    split at h
    · next x y z =>
      simp only [Bool.and_eq_true] at h
      show PyData.tuple [a.enc (a.dec x), b.enc (b.dec y), c.enc (c.dec z)] = _
      rw [a.h x h.1.1, b.h y h.1.2, c.h z h.2]
    · cases h
  oke := fun x => by show (a.ok (a.enc x.1) && b.ok (b.enc x.2.1) && c.ok (c.enc x.2.2)) = true; rw [a.oke, b.oke, c.oke]; rfl
  de := fun x => by show (a.dec (a.enc x.1), b.dec (b.enc x.2.1), c.dec (c.enc x.2.2)) = x; rw [a.de, b.de, c.de]
def cT4 {α β γ δ : Type} (a : Cst α) (b : Cst β) (c : Cst γ) (e : Cst δ) : Cst (α × β × γ × δ) where
  enc := encT4 a.enc b.enc c.enc e.enc
  dec := fun d => match d with | .tuple [x, y, z, w] => (a.dec x, b.dec y, c.dec z, e.dec w) | _ => (a.dec .none, b.dec .none, c.dec .none, e.dec .none)
  ok := fun d => match d with | .tuple [x, y, z, w] => a.ok x && b.ok y && c.ok z && e.ok w | _ => false
  h := fun d h => by
    split at h
    · next x y z w =>
      simp only [Bool.and_eq_true] at h
      show PyData.tuple [a.enc (a.dec x), b.enc (b.dec y), c.enc (c.dec z), e.enc (e.dec w)] = _
      rw [a.h x h.1.1.1, b.h y h.1.1.2, c.h z h.1.2, e.h w h.2]
    · cases h
  oke := fun x => by show (a.ok (a.enc x.1) && b.ok (b.enc x.2.1) && c.ok (c.enc x.2.2.1) && e.ok (e.enc x.2.2.2)) = true; rw [a.oke, b.oke, c.oke, e.oke]; rfl
  de := fun x => by show (a.dec (a.enc x.1), b.dec (b.enc x.2.1), c.dec (c.enc x.2.2.1), e.dec (e.enc x.2.2.2)) = x; rw [a.de, b.de, c.de, e.de]
section
variable {H : Hp} {v : V} {d : PyData}
theorem rp_dcast {α : Type} (c : Cst α) (g : c.ok d = true) (r : Rp H v d) : Rp H v (c.enc (c.dec d)) := by rw [c.h d g]; exact r
def dNone : PyData → Bool
  | .none => true
  | _ => false
def dSeq : PyData → Bool
  | .list _ => true
  | .tuple _ => true
  | _ => false
def dTup : PyData → Bool
  | .tuple _ => true
  | _ => false
def dLst : PyData → Bool
  | .list _ => true
  | _ => false
def dInt : PyData → Bool
  | .int _ => true
  | .bool _ => true
  | _ => false
def dBool : PyData → Bool
  | .bool _ => true
  | _ => false
def dGet : PyData → Nat → PyData
  | .tuple xs, k => xs.getD k .none
  | .list xs, k => xs.getD k .none
  | _, _ => .none
def dHasT : PyData → Nat → Bool
  | .tuple xs, k => decide (k < xs.length)
  | _, _ => false
theorem rp_ref (g : dSeq d = true) (r : Rp H v d) : ∃ a, v = .ref a := by
  cases r <;> first | exact ⟨_, rfl⟩ | cases g
theorem rp_dget {k : Nat} (g : dHasT d k = true) (r : Rp H v d) : ∃ a vs u, v = .ref a ∧ H a = some (.tup vs) ∧ atI vs (k : Int) = some u ∧ Rp H u (dGet d k) := by
  cases r with
  | tup h rs =>
    rename_i ds
    have hk : k < ds.length := of_decide_eq_true g
    obtain ⟨u, h1, h2⟩ := RpAll.at' (i := k) (d := ds[k]) rs (List.getElem?_eq_getElem hk)
    refine ⟨_, _, u, rfl, h, ?_, ?_⟩
    · exact atI_nat h1
    · show Rp H u (ds.getD k .none)
      rw [List.getD_eq_getElem?_getD, List.getElem?_eq_getElem hk]
      exact h2
  | _ => cases g
theorem rp_non {x : Unit} (r : Rp H v (encN x)) : v = .non := by unfold encN at r; cases r; rfl
theorem rp_tup1 {α : Type} {f : α → PyData} {x : α} (r : Rp H v (encT1 f x)) : ∃ a v1, v = .ref a ∧ H a = some (.tup [v1]) ∧ Rp H v1 (f x) := by
  unfold encT1 at r
  cases r with
  | tup h1 h2 =>
    cases h2 with
    | cons r1 t => cases t; exact ⟨_, _, rfl, h1, r1⟩
theorem rp_mk1 {α : Type} {f : α → PyData} {a : Addr} {v1 : V} {x : α} (h1 : H a = some (.tup [v1])) (r1 : Rp H v1 (f x)) : Rp H (.ref a) (encT1 f x) := .tup h1 (.cons r1 .nil)
theorem rp_none_iff (r : Rp H v d) : decide (v = V.non) = dNone d := by
  cases r <;> simp [dNone]
end
section
variable {X : Cx}
def rIsND : R2 := fun x y H Q => ∃ d, y = .non ∧ Rp H x d ∧ Q (.bl (dNone d)) H
def rNotND : R2 := fun x y H Q => ∃ d, y = .non ∧ Rp H x d ∧ Q (.bl (!dNone d)) H
theorem op_isND : OpR X (compareOp .Is) rIsND := by
  intro pins s σ H x y v u Q I rx ry h
  obtain ⟨d, e, r, q⟩ := h
  exact op_isN pins s σ H x y v u Q I rx ry ⟨e, by rw [rp_none_iff r]; exact q⟩
theorem op_notND : OpR X (compareOp .IsNot) rNotND := by
  intro pins s σ H x y v u Q I rx ry h
  obtain ⟨d, e, r, q⟩ := h
  exact op_notN pins s σ H x y v u Q I rx ry ⟨e, by rw [rp_none_iff r]; exact q⟩
def rEqD : R2 := fun x y H Q => ∃ a b : PyData, Rp H x a ∧ Rp H y b ∧ (SeqAt.shaped a = true ∧ SeqAt.shaped b = true) ∧ Q (.bl (PyData.eqv a b)) H
def rNeD : R2 := fun x y H Q => ∃ a b : PyData, Rp H x a ∧ Rp H y b ∧ (SeqAt.shaped a = true ∧ SeqAt.shaped b = true) ∧ Q (.bl (!PyData.eqv a b)) H
theorem op_eqDD (hu : X.A.units + 64 < cLine) : OpR X (compareOp .Eq) rEqD := by
  intro pins s σ H x y v u Q I rx ry h
  obtain ⟨a, b, h1, h2, ⟨s1, s2⟩, q⟩ := h
  exact op_eqD hu pins s σ H _ _ v u Q I rx ry ⟨_, _, h1.dp, h2.dp, s1, s2, q⟩
theorem op_neDD (hu : X.A.units + 64 < cLine) : OpR X (compareOp .NotEq) rNeD := by
  intro pins s σ H x y v u Q I rx ry h
  obtain ⟨a, b, h1, h2, ⟨s1, s2⟩, q⟩ := h
  exact op_neD hu pins s σ H _ _ v u Q I rx ry ⟨_, _, h1.dp, h2.dp, s1, s2, q⟩
def dTy : PyData → String
  | .none => "NoneType"
  | .bool _ => "bool"
  | .int _ => "int"
  | .str _ => "str"
  | .list _ => "list"
  | .tuple _ => "tuple"
  | .dict _ => "dict"
theorem Rp.tyX {K : PySem.W.Frag} {H : Hp} {v : V} {d : PyData} (r : Rp H v d) : TyX K H v (.type (dTy d)) := by
  cases r with
  | non => exact .base .non
  | bl b => exact .base (.bl b)
  | int i => exact .base (.int i)
  | str x => exact .base (.str x)
  | lst h _ => exact .base (.lst h)
  | tup h _ => exact .base (.tup h)
def rIsiD (T : String) (f : PyData → Bool) : List V → Hp → VK → Prop := fun xs H Q => ∃ (x : V) (d : PyData), xs = [x, .ty T] ∧ Rp H x d ∧ Q (.bl (f d)) H
theorem call_isiD {T : String} {f : PyData → Bool} (hT : ∀ d, kitB (dTy d) T = some (f d)) : CallR X (.builtin "isinstance") (rIsiD T f) := by
  intro pins s σ H xs us Q I r h
  obtain ⟨x, d, rfl, rx, q⟩ := h
  exact call_isi pins s σ H _ us Q I r ⟨x, .ty T, _, _, _, rfl, .ty T, rx.tyX, kit_ty (hT d), q⟩
theorem kit_dTup (d : PyData) : kitB (dTy d) "tuple" = some (dTup d) := by
  cases d with
  | none => exact (by decide +kernel : kitB "NoneType" "tuple" = some false)
  | bool _ => exact (by decide +kernel : kitB "bool" "tuple" = some false)
  | int _ => exact (by decide +kernel : kitB "int" "tuple" = some false)
  | str _ => exact (by decide +kernel : kitB "str" "tuple" = some false)
  | list _ => exact (by decide +kernel : kitB "list" "tuple" = some false)
  | tuple _ => exact (by decide +kernel : kitB "tuple" "tuple" = some true)
  | dict _ => exact (by decide +kernel : kitB "dict" "tuple" = some false)
theorem kit_dLst (d : PyData) : kitB (dTy d) "list" = some (dLst d) := by
  cases d with
  | none => exact (by decide +kernel : kitB "NoneType" "list" = some false)
  | bool _ => exact (by decide +kernel : kitB "bool" "list" = some false)
  | int _ => exact (by decide +kernel : kitB "int" "list" = some false)
  | str _ => exact (by decide +kernel : kitB "str" "list" = some false)
  | list _ => exact (by decide +kernel : kitB "list" "list" = some true)
  | tuple _ => exact (by decide +kernel : kitB "tuple" "list" = some false)
  | dict _ => exact (by decide +kernel : kitB "dict" "list" = some false)
theorem kit_dInt (d : PyData) : kitB (dTy d) "int" = some (dInt d) := by
  cases d with
  | none => exact (by decide +kernel : kitB "NoneType" "int" = some false)
  | bool _ => exact (by decide +kernel : kitB "bool" "int" = some true)
  | int _ => exact (by decide +kernel : kitB "int" "int" = some true)
  | str _ => exact (by decide +kernel : kitB "str" "int" = some false)
  | list _ => exact (by decide +kernel : kitB "list" "int" = some false)
  | tuple _ => exact (by decide +kernel : kitB "tuple" "int" = some false)
  | dict _ => exact (by decide +kernel : kitB "dict" "int" = some false)
theorem kit_dBool (d : PyData) : kitB (dTy d) "bool" = some (dBool d) := by
  cases d with
  | none => exact (by decide +kernel : kitB "NoneType" "bool" = some false)
  | bool _ => exact (by decide +kernel : kitB "bool" "bool" = some true)
  | int _ => exact (by decide +kernel : kitB "int" "bool" = some false)
  | str _ => exact (by decide +kernel : kitB "str" "bool" = some false)
  | list _ => exact (by decide +kernel : kitB "list" "bool" = some false)
  | tuple _ => exact (by decide +kernel : kitB "tuple" "bool" = some false)
  | dict _ => exact (by decide +kernel : kitB "dict" "bool" = some false)
end
/-! ### written dicts of numbers with text keys -/
inductive ES (P : Params) : List (Str × Int) → List DictEntry → Prop
  | nil : ES P [] []
  | cons {h k v} {t u : Tok} {r : List (Str × Int)} {es : List DictEntry} (e : h = PyData.keyHash P k) (x : ES P r es) : ES P ((k, v) :: r) (⟨h, .str k t, .int v u⟩ :: es)
def lookS : List (Str × Int) → Str → Option Int
  | [], _ => none
  | (k, v) :: r, i => if k = i then some v else lookS r i
def KDS (K : PySem.W.Frag) (w : World) (a : Addr) (kvs : List (Str × Int)) : Prop :=
  ∃ es n, K.lookup a = some ⟨.type "dict", none, .dict es n, #[]⟩ ∧ ES w.params kvs es.toList
theorem ES.lit {P : Params} : ∀ {kvs : List (Str × Int)} {es : List DictEntry}, ES P kvs es → PySem.W.KeysLit P es
  | _, _, .nil => trivial
  | _, _, .cons e x => ⟨⟨_, _, rfl, e⟩, ES.lit x⟩
theorem ES.find {P : Params} {i : Str} {v : Int} : ∀ {kvs : List (Str × Int)} {es : List DictEntry}, ES P kvs es → lookS kvs i = some v → ∃ e u, es.find? (fun e => e.key.isStr i) = some e ∧ e.val = .int v u
  | _, _, .nil, h => by cases h
  | _, _, .cons (k := k) (u := u) e x, h => by
    unfold lookS at h
    by_cases q : k = i
    · rw [if_pos q] at h
      subst q
      cases h
      refine ⟨_, u, List.find?_cons_of_pos ?_, rfl⟩
      simp [Value.isStr]
    · rw [if_neg q] at h
      obtain ⟨e', u', h1, h2⟩ := ES.find x h
      refine ⟨e', u', ?_, h2⟩
      rw [List.find?_cons_of_neg]
      · exact h1
      · simp [Value.isStr, q]
theorem KDS.at {K : PySem.W.Frag} {w : World} {a : Addr} {kvs : List (Str × Int)} {z : Str} {v : Int} (D : KDS K w a kvs) (h : lookS kvs z = some v) : KDct K w a z (.int v) := by
  obtain ⟨es, n, hl, x⟩ := D
  obtain ⟨e, u, h1, h2⟩ := x.find h
  refine ⟨es, n, .int v u, hl, x.lit, ?_, ⟨u, rfl⟩⟩
  unfold PySem.W.nsIn
  rw [hl]
  show (match es.toList.find? (fun e => e.key.isStr z) with
      | some e => some (some e.val)
      | none => if es.toList.any (·.refKey) then none else some none) = _
  rw [h1]
  show some (some e.val) = _
  rw [h2]
def rIxDS (K : PySem.W.Frag) (w : World) : R2 := fun x y H Q => ∃ (p : Addr) (z : Str) (kvs : List (Str × Int)) (v : Int), x = .ref p ∧ y = .str z ∧ KDS K w p kvs ∧ lookS kvs z = some v ∧ Q (.int v) H
theorem ix_DS {X : Cx} {K : PySem.W.Frag} {w : World} (hK : X.K = K := by rfl) (hw : X.w = w := by rfl) : IxR X (rIxDS K w) := by
  subst hK hw
  intro value slice pins s σ H x y v u Q I rx ry h hs
  obtain ⟨p, z, kvs, r, e1, e2, D, e, q⟩ := h
  exact ix_kdict value slice pins s σ H x y v u Q I rx ry ⟨p, z, .int r, e1, e2, D.at e, q⟩ hs
def dictS (kvs : List (Str × Int)) (i : Str) : Int := (lookS kvs i).getD 0
def hasS (kvs : List (Str × Int)) (i : Str) : Bool := (lookS kvs i).isSome
theorem lookS_at {kvs : List (Str × Int)} {i : Str} (h : hasS kvs i = true) : lookS kvs i = some (dictS kvs i) := by
  unfold hasS at h
  unfold dictS
  cases e : lookS kvs i with
  | none => rw [e] at h; cases h
  | some v => rfl
/-! ### for the mathematics -/
theorem eqv_enc {α : Type} [DecidableEq α] {n : Nat} {f : α → PyData} (ok : EncOk n f) (x y : α) : PyData.eqv (f x) (f y) = decide (x = y) := ok.eqv x y
end Vx
namespace Vx
open PySem PySem.Spec PyProof.Rows L2
theorem sm_str {x : Str} (h : (reprText x).length ≤ 20) : Sm 1 0 (.str x) := ⟨by simp only [smallD, decide_eq_true_eq]; exact h, by simp [nodes], by simp [PyData.depth]⟩
theorem sm_none : Sm 1 0 (encN ()) := sm_non
theorem sm_T1 {α : Type} {f : α → PyData} {n k : Nat} {p : α} (h1 : Sm n k (f p)) : Sm (1 + n) (k + 1) (encT1 f p) := by
  obtain ⟨a1, a2, a3⟩ := h1
  refine ⟨by simp [encT1, smallD, smallAll, a1], ?_, ?_⟩
  · simp only [encT1, nodes, nodesAll]
    omega
  · simp only [encT1, PyData.depth, PyData.depthAll]
    omega
theorem sm_T4 {α β γ δ : Type} {f : α → PyData} {g : β → PyData} {h : γ → PyData} {e : δ → PyData} {n k m j l i o q : Nat} {p : α × β × γ × δ} (h1 : Sm n k (f p.1)) (h2 : Sm m j (g p.2.1)) (h3 : Sm l i (h p.2.2.1)) (h4 : Sm o q (e p.2.2.2)) : Sm (1 + n + m + l + o) (max k (max j (max i q)) + 1) (encT4 f g h e p) := by
  obtain ⟨a1, a2, a3⟩ := h1
  obtain ⟨b1, b2, b3⟩ := h2
  obtain ⟨c1, c2, c3⟩ := h3
  obtain ⟨d1, d2, d3⟩ := h4
  refine ⟨by simp [encT4, smallD, smallAll, a1, b1, c1, d1], ?_, ?_⟩
  · simp only [encT4, nodes, nodesAll]
    omega
  · simp only [encT4, PyData.depth, PyData.depthAll]
    omega
theorem Sm.enc {n k : Nat} {d : PyData} (h : Sm n k d) : Sm n k (encD d) := h
end Vx
namespace Vx
theorem len8 {α : Type} {l : List α} (h : l.length = 8) : ∃ x0 x1 x2 x3 x4 x5 x6 x7, l = [x0, x1, x2, x3, x4, x5, x6, x7] := by
  obtain ⟨x0, r, rfl, h2⟩ := len_s h
  obtain ⟨x1, x2, x3, x4, x5, x6, x7, rfl⟩ := len7 h2
  exact ⟨x0, x1, x2, x3, x4, x5, x6, x7, rfl⟩
theorem len9 {α : Type} {l : List α} (h : l.length = 9) : ∃ x0 x1 x2 x3 x4 x5 x6 x7 x8, l = [x0, x1, x2, x3, x4, x5, x6, x7, x8] := by
  obtain ⟨x0, r, rfl, h2⟩ := len_s h
  obtain ⟨x1, x2, x3, x4, x5, x6, x7, x8, rfl⟩ := len8 h2
  exact ⟨x0, x1, x2, x3, x4, x5, x6, x7, x8, rfl⟩
theorem len10 {α : Type} {l : List α} (h : l.length = 10) : ∃ x0 x1 x2 x3 x4 x5 x6 x7 x8 x9, l = [x0, x1, x2, x3, x4, x5, x6, x7, x8, x9] := by
  obtain ⟨x0, r, rfl, h2⟩ := len_s h
  obtain ⟨x1, x2, x3, x4, x5, x6, x7, x8, x9, rfl⟩ := len9 h2
  exact ⟨x0, x1, x2, x3, x4, x5, x6, x7, x8, x9, rfl⟩
theorem len11 {α : Type} {l : List α} (h : l.length = 11) : ∃ x0 x1 x2 x3 x4 x5 x6 x7 x8 x9 x10, l = [x0, x1, x2, x3, x4, x5, x6, x7, x8, x9, x10] := by
  obtain ⟨x0, r, rfl, h2⟩ := len_s h
  obtain ⟨x1, x2, x3, x4, x5, x6, x7, x8, x9, x10, rfl⟩ := len10 h2
  exact ⟨x0, x1, x2, x3, x4, x5, x6, x7, x8, x9, x10, rfl⟩
theorem len12 {α : Type} {l : List α} (h : l.length = 12) : ∃ x0 x1 x2 x3 x4 x5 x6 x7 x8 x9 x10 x11, l = [x0, x1, x2, x3, x4, x5, x6, x7, x8, x9, x10, x11] := by
  obtain ⟨x0, r, rfl, h2⟩ := len_s h
  obtain ⟨x1, x2, x3, x4, x5, x6, x7, x8, x9, x10, x11, rfl⟩ := len11 h2
  exact ⟨x0, x1, x2, x3, x4, x5, x6, x7, x8, x9, x10, x11, rfl⟩
end Vx
namespace Vx
open PySem PySem.Spec PyProof.Rows L2
theorem Sep.mutnews {M : List Addr} {H0 G0 G H H' : Hp} {O : List Addr} (S : Sep M H0 G0 G H O) {L : List Addr} (x : SameXs L H H') (hL : ∀ a ∈ L, a ∈ O) (hs : ∀ a ∈ L, H' a ≠ none) (N : List Addr) (hN : ∀ a ∈ N, H a = none ∧ H' a ≠ none ∧ H0 a = none) : Sep M H0 G0 G H' (N ++ O) := by
  have S1 := S.mut x hL hs
  refine ⟨S1.base, S1.pm, S1.sG, S1.g0, S1.gn, fun a ha => ?_⟩
  rcases List.mem_append.mp ha with z | z
  · obtain ⟨h1, h2, h3⟩ := hN a z
    exact ⟨S.gfree h1, h2, .inr h3⟩
  · exact S1.ow a z
end Vx
/-! # sorted(set(xs)), xs a list of numbers -/
namespace Vs
open PySem PySem.Spec PyProof.Rows L2
section
variable {prog : Program} {wo : World} {Ar : Around} {Er : Value → Shared → Prop} {st : Shared}
/-- the object that set.__new__ lays -/
abbrev bare (wo : World) : Obj := { cls := .type "set", dict := none, data := .set #[] 0 (.fresh 0 0 (!wo.params.followText "set-order")) }
theorem get_bare (h : Heap) : (h.push (bare wo)).get? h.objs.size = some (bare wo) := Heap.get?_push_size _ rfl
/-- set.__init__ of a new, empty set over a list of numbers -/
theorem init_list {lst : Addr} {arr : Array Value} {ks : List Int} (calm : Ar.handled = none) (isl : st.heap.IsList lst arr) (hin : IntsAre arr.toList ks) (few : ks.length + 1 < scanBound)
    (R : Result → Shared → Prop)
    (fin : ∀ (g : Heap) (tk c : Nat), SetR wo g st.heap.objs.size (fun j => decide (j ∈ ks)) c → c ≤ ks.length → (∀ b o, st.heap.get? b = some o → g.get? b = some o) → R (.ok (.ret .none)) { st with heap := g, toks := tk }) :
    codeAny (model prog wo) Ar (.call (.builtin "set.__init__") ⟨[.ref st.heap.objs.size, .ref lst], []⟩) R { st with heap := st.heap.push (bare wo) } := by
  have typ : Shared.TypeIs { st with heap := st.heap.push (bare wo) } (.ref st.heap.objs.size) "set" := ⟨_, get_bare _, rfl⟩
  have len : arr.size = ks.length := by
    have z := hin.length
    rwa [Array.length_toList] at z
  refine codeAny_call_builtin F.called_set.init.plain F.entry_set_init (check_set_init_1 typ ?_)
  obtain ⟨⟨k1, k2, k3, k4⟩, ho, e1, m, e2⟩ := isl
  simp only at e1 e2
  subst e1 e2
  have below : lst < st.heap.objs.size := Heap.lt_size ho
  have il : (st.heap.push (bare wo)).IsList lst arr := ⟨_, Heap.get?_push_of_some _ ho, rfl, m, rfl⟩
  have a1 := F.sub_list_set
  have a2 := F.sub_list_frozenset
  have a3 : (Value.type "list" == Value.type "dict") = false := by decide
  have a4 := Heap.get?_push_of_some (bare wo) ho
  unfold Builtin.«set.__init__» noKeywords Builtin.Frozenset.updateFrom
  generalize hw : pyIter = WK
  wp_walk
  subst hw
  refine wpAny_pyIter_list il (wpAny_bind (wpAny_runValue ?_))
  have sz : (st.heap.push (bare wo)).objs.size = st.heap.objs.size + 1 := Heap.size_push ..
  have c3 : Ar.in1.in1.handled = none := by simp [calm]
  have far : lst ≠ (st.heap.push (bare wo)).objs.size := by rw [sz]; exact Nat.ne_of_lt (Nat.lt_succ_of_lt below)
  have out : st.heap.objs.size ∉ [(st.heap.push (bare wo)).objs.size, lst] := by
    intro z
    rcases List.mem_cons.mp z with z | z
    · rw [sz] at z; exact absurd z (Nat.ne_of_lt (Nat.lt_succ_self _))
    · exact absurd (List.mem_singleton.mp z) (Nat.ne_of_gt below)
  refine set_update_ints ((Walks.list c3 _ lst far arr).toS) st.heap.objs.size out ks len few (fun i v hv => ?_) (arr.size - 0) 0 _ (by omega) (Nat.zero_le _) ?_ ?_ ?_
  · have hi : i < ks.length := by rw [← len]; exact (Array.getElem?_eq_some_iff.mp hv).1
    obtain ⟨t, e⟩ := PyProof.Rows.IntsAre.int_at hin i v (by rw [Array.getElem?_toList]; exact hv)
    refine ⟨ks[i], t, List.getElem?_eq_getElem hi, ?_⟩
    rw [e, List.getD_eq_getElem?_getD, List.getElem?_eq_getElem hi] <;> rfl
  · exact ⟨⟨_, Heap.get?_push_size _ rfl, rfl, rfl⟩, il.push _⟩
  · exact ⟨0, Nat.le_refl 0, setR_new_at (Heap.get?_push_of_some _ (get_bare _))⟩
  · rintro ⟨g, q1, q2, q3, q4⟩ c mv hc hs
    have b1 : q1 = st.gens := mv.gens
    have b2 : q2 = st.drawn := mv.drawn
    have b3 : q4 = st.os := mv.os
    subst b1 b2 b3
    refine wpAny_pure ?_
    refine wpAny_pure ?_
    rw [len] at hc
    refine fin g q3 c hs hc fun b o e => ?_
    have hb : b < st.heap.objs.size := Heap.lt_size e
    refine mv.heap b o (fun z => ?_) (Heap.get?_push_of_some _ (Heap.get?_push_of_some _ e))
    rcases List.mem_cons.mp z with z | z
    · exact absurd z (Nat.ne_of_lt hb)
    · have z := List.mem_singleton.mp z
      rw [sz] at z
      exact absurd z (Nat.ne_of_lt (Nat.lt_succ_of_lt hb))
end
end Vs
namespace Vs
open PySem PySem.Spec PyProof.Rows L2
section
variable {prog : Program} {wo : World} {Ar : Around} {Er : Value → Shared → Prop} {st : Shared}
/-- set(xs): a new set of the numbers of a list -/
theorem make_list {lst : Addr} {arr : Array Value} {ks : List Int} {Q : Value → Shared → Prop} (calm : Ar.handled = none) (isl : st.heap.IsList lst arr) (hin : IntsAre arr.toList ks) (few : ks.length + 1 < scanBound)
    (fin : ∀ (g : Heap) (tk c : Nat), SetR wo g st.heap.objs.size (fun j => decide (j ∈ ks)) c → c ≤ ks.length → (∀ b o, st.heap.get? b = some o → g.get? b = some o) → Q (.ref st.heap.objs.size) { st with heap := g, toks := tk }) :
    wpAny (model prog wo) Ar (call (.type "set") [.ref lst]) Q Er st := by
  obtain ⟨cc, tl, hmro⟩ := F.called_set.mro
  have m1 := F.called_set.made
  have m2 := F.called_set.sub
  have m3 := F.called_set.notType
  have m4 := F.called_set.canCreate
  have m5 := F.typeCall_set_1 (.ref lst)
  refine wpAny_call (codeAny_of_tree ?_)
  show wpAny _ _ (callAny (.type "set") _) _ _ _
  refine wpAny_pure ⟨Code.quiet_builtin _ (by decide +kernel), codeAny_builtin F.entry_type_call ?_⟩
  rw [Around.under_plain (weight_type_call_type "set" [.ref lst] []) rfl]
  repeat (any_goals (first | assumption | wp_step))
  refine codeAny_mono (code_set_led1 (.ref lst) (E := Er) (Q₁ := fun obj z => obj = .ref st.heap.objs.size ∧ z = { st with heap := st.heap.push (bare wo) }) ⟨rfl, rfl⟩) fun r z hr => ?_
  match r, hr with
  | .error e, hr => exact hr
  | .ok (.ret obj), hr =>
    obtain ⟨rfl, rfl⟩ := hr
    have m6 := F.called_set.init.lookup
    have m7 := F.called_set.init.bind (.ref st.heap.objs.size)
    have typ : Shared.TypeIs { st with heap := st.heap.push (bare wo) } (.ref st.heap.objs.size) "set" := ⟨_, get_bare _, rfl⟩
    repeat (any_goals (first | assumption | wp_step))
    refine codeAny_mono (init_list (R := wants (fun r z => r = .none ∧ ∃ g tk c, z = { st with heap := g, toks := tk } ∧ SetR wo g st.heap.objs.size (fun j => decide (j ∈ ks)) c ∧ c ≤ ks.length ∧ ∀ b o, st.heap.get? b = some o → g.get? b = some o) Er)
      (by simp [calm]) isl hin few fun g tk c a b k => ⟨rfl, g, tk, c, rfl, a, b, k⟩) fun r z hr => ?_
    match r, hr with
    | .error e, hr => exact hr
    | .ok (.ret v), hr =>
      obtain ⟨rfl, g, tk, c, rfl, a, b, k⟩ := hr
      repeat (any_goals (first | assumption | wp_step))
      exact fin _ _ _ a b k
end
section
variable {X : Cx}
/-- set(xs) -/
def rSetI (w : World) : List V → Hp → VK → Prop := fun xs H Q => ∃ (l : Addr) (ks : List Int), xs = [V.ref l] ∧ (∃ K, SqL K H l (ks.map V.int)) ∧ ks.length ≤ 50 ∧
  ∀ (p : Addr) (n : Nat), n ≤ ks.length → H p = none → Q (.ref p) (upd H p (SetO w p (fun j => decide (j ∈ ks)) n))
end
end Vs
namespace Vx
open PySem PySem.Spec PyProof.Rows L2
section
variable {X : Cx}
def rSetI (K : PySem.W.Frag) (w : World) : List V → Hp → VK → Prop := fun xs H Q => ∃ (l : Addr) (ks : List Int), xs = [V.ref l] ∧ SqL K H l (ks.map V.int) ∧ ks.length ≤ 50 ∧
  ∀ (p : Addr) (n : Nat), n ≤ ks.length → H p = none → Q (.ref p) (upd H p (SetO w p (fun j => decide (j ∈ ks)) n))
theorem cr_setI {K : PySem.W.Frag} {w : World} (hc : X.calm = true) (hK : X.K = K := by rfl) (hw : X.w = w := by rfl) : CallR X (.type "set") (rSetI K w) := by
  subst hK hw
  intro pins s σ H xs us Q I r h
  obtain ⟨l, ks, rfl, hl, hf, q⟩ := h
  rw [Vals.ref1 r]
  obtain ⟨its, rv, pl, hz⟩ := I.list hl
  have hb : scanBound = 4096 := rfl
  refine Vs.make_list (I.ok.hd hc) pl.isList (by simpa using ints_of_vals rv) (by omega) fun g tk c R hcn k => ?_
  exact ⟨.ref _, upd H _ (SetO X.w _ (fun j => decide (j ∈ ks)) c), I.laid (t' := tk) k (Nat.le_refl _) (setO_new R), rfl, q _ c hcn (I.hok.fresh (Nat.le_refl _))⟩
def rSortSet (w : World) : List V → Hp → VK → Prop := fun vs H Q => ∃ (a : Addr) (ks : List Int) (n : Nat), vs = [V.ref a] ∧ H a = some (SetO w a (fun j => decide (j ∈ ks)) n) ∧ n ≤ 50 ∧
  ∀ (ns : List Int) (p : Addr), ns.Pairwise (· < ·) → (∀ k : Int, k ∈ ns ↔ k ∈ ks) → H p = none → Q (.ref p) (upd H p (.lst (ns.map V.int)))
theorem cr_sortSet {w : World} (hc : X.calm = true) (hw : X.w = w := by rfl) : CallR X (.builtin "sorted") (rSortSet w) := by
  subst hw
  intro pins s σ H vs us Q I r h
  obtain ⟨a, ks, n, rfl, ha, h64, q⟩ := h
  exact cr_sortedSet hc pins s σ H _ us Q I r ⟨a, _, n, rfl, ha, by omega, fun ns p pw hm hl hn => q ns p pw (fun k => (hm k).trans decide_eq_true_iff) hn⟩
end
/-! ### numbers in order, each once -/
def insS (x : Int) : List Int → List Int
  | [] => [x]
  | y :: r => if x < y then x :: y :: r else if x = y then y :: r else y :: insS x r
def sortSet (xs : List Int) : List Int := xs.foldr insS []
theorem insS_mem {x k : Int} : ∀ {l : List Int}, k ∈ insS x l ↔ k = x ∨ k ∈ l
  | [] => by simp [insS]
  | y :: r => by
    unfold insS
    split
    · simp
    · split
      · next h => subst h; simp
      · rw [List.mem_cons, insS_mem (l := r), List.mem_cons]
        constructor <;> (intro h; rcases h with h | h | h <;> simp [h])
theorem insS_pw {x : Int} : ∀ {l : List Int}, l.Pairwise (· < ·) → (insS x l).Pairwise (· < ·)
  | [], _ => by simp [insS]
  | y :: r, h => by
    have hy := List.pairwise_cons.mp h
    unfold insS
    split
    · next c =>
      refine List.pairwise_cons.mpr ⟨fun z hz => ?_, h⟩
      rcases List.mem_cons.mp hz with rfl | hz
      · exact c
      · exact Int.lt_trans c (hy.1 z hz)
    · next c =>
      split
      · exact h
      · refine List.pairwise_cons.mpr ⟨fun z hz => ?_, insS_pw hy.2⟩
        rcases insS_mem.mp hz with rfl | hz
        · omega
        · exact hy.1 z hz
theorem sortSet_mem {k : Int} : ∀ {l : List Int}, k ∈ sortSet l ↔ k ∈ l
  | [] => Iff.rfl
  | y :: r => by
    show k ∈ insS y (sortSet r) ↔ _
    rw [insS_mem, sortSet_mem (l := r), List.mem_cons]
theorem sortSet_pw : ∀ l : List Int, (sortSet l).Pairwise (· < ·)
  | [] => List.Pairwise.nil
  | y :: r => insS_pw (sortSet_pw r)
theorem pw_uniq : ∀ {a b : List Int}, a.Pairwise (· < ·) → b.Pairwise (· < ·) → (∀ k : Int, k ∈ a ↔ k ∈ b) → a = b
  | [], [], _, _, _ => rfl
  | [], y :: r, _, _, h => absurd ((h y).mpr List.mem_cons_self) (by simp)
  | x :: r, [], _, _, h => absurd ((h x).mp List.mem_cons_self) (by simp)
  | x :: r, y :: t, p, q, h => by
    have p := List.pairwise_cons.mp p
    have q := List.pairwise_cons.mp q
    have e : x = y := by
      rcases List.mem_cons.mp ((h x).mp List.mem_cons_self) with e | e
      · exact e
      · rcases List.mem_cons.mp ((h y).mpr List.mem_cons_self) with e2 | e2
        · exact e2.symm
        · have := q.1 x e
          have := p.1 y e2
          omega
    subst e
    rw [pw_uniq p.2 q.2 fun k => ?_]
    have hk := h k
    rw [List.mem_cons, List.mem_cons] at hk
    constructor
    · intro z
      rcases hk.mp (.inr z) with e | e
      · have := p.1 k z; omega
      · exact e
    · intro z
      rcases hk.mpr (.inr z) with e | e
      · have := q.1 k z; omega
      · exact e
theorem sortSet_of {ks ns : List Int} (p : ns.Pairwise (· < ·)) (h : ∀ k : Int, k ∈ ns ↔ k ∈ ks) : ns = sortSet ks := pw_uniq p (sortSet_pw ks) fun k => (h k).trans sortSet_mem.symm
theorem gen_new2 {H H' : Hp} {p q : Addr} {o u : HO} (n : H p = none) (m : upd H p o q = none) (h : upd (upd H p o) q u = H') : Same H H' ∧ H' q = some u ∧ H q = none := by
  have hne : q ≠ p := fun z => by rw [z, upd_same] at m; cases m
  have hq : H q = none := by rwa [upd_ne hne] at m
  subst h
  refine ⟨fun b x e => ?_, upd_same, hq⟩
  rw [upd_ne (fun z => by rw [z, hq] at e; cases e), upd_ne (fun z => by rw [z, n] at e; cases e)]
  exact e
/-! ### texts in tuples and lists -/
theorem map_getF {α : Type} {f : α → V} {xs : List α} {i : Nat} {x : V} (h : (xs.map f)[i]? = some x) : ∃ o, xs[i]? = some o ∧ x = f o := by
  rw [List.getElem?_map] at h
  cases e : xs[i]? with
  | none => rw [e] at h; cases h
  | some o => rw [e] at h; exact ⟨o, rfl, (Option.some.inj h).symm⟩
theorem inV_strs (x : Str) : ∀ xs : List Str, inV (V.str x) (xs.map V.str) = decide (x ∈ xs)
  | [] => by simp [inV]
  | y :: r => by
    have h := inV_strs x r
    unfold inV at h ⊢
    rw [List.map_cons, List.any_cons, h]
    by_cases c : x = y
    · subst c
      simp [eqV]
    · simp [eqV, c, Ne.symm c]
theorem flat_strs : ∀ xs : List Str, (xs.map V.str).all flatV = true
  | [] => rfl
  | _ :: r => flat_strs r
section
variable {X : Cx} {K : PySem.W.Frag}
def rInS (K : PySem.W.Frag) : R2 := fun x y H Q => ∃ (i : Str) (p : Addr) (xs : List Str), x = .str i ∧ y = .ref p ∧ (SqL K H p (xs.map V.str) ∨ SqT K H p (xs.map V.str)) ∧ Q (.bl (decide (i ∈ xs))) H
theorem op_inS (hK : X.K = K := by rfl) : OpR X (compareOp .In) (rInS K) := by
  subst hK
  intro pins s σ H x y v u Q I rx ry h
  obtain ⟨i, p, xs, e1, e2, hs, q⟩ := h
  refine op_in_seq pins s σ H _ _ v u Q I rx ry ⟨p, _, e2, hs, by rw [e1]; rfl, flat_strs xs, ?_⟩
  rw [if_neg Bool.false_ne_true, e1, inV_strs]
  exact q
/-- a list or a tuple of numbers -/
def SeqI (K : PySem.W.Frag) (H : Hp) (v : V) (xs : List Int) : Prop := ∃ a, v = .ref a ∧ (H a = some (.lst (xs.map V.int)) ∨ H a = some (.tup (xs.map V.int)) ∨ ∀ H, SqT K H a (xs.map V.int))
def rListSI (K : PySem.W.Frag) : List V → Hp → VK → Prop := fun xs H Q => ∃ (v : V) (ks : List Int), xs = [v] ∧ SeqI K H v ks ∧ ∀ l, H l = none → Q (.ref l) (upd H l (.lst (ks.map V.int)))
theorem call_listSI (hK : X.K = K := by rfl) : CallR X (.type "list") (rListSI K) := by
  subst hK
  intro pins s σ H xs us Q I r h
  obtain ⟨v, ks, rfl, ⟨a, rfl, h2⟩, q⟩ := h
  refine call_list_of pins s σ H _ us Q I r ⟨a, _, rfl, ?_, q⟩
  rcases h2 with z | z | z
  · exact .inl (SqL.of z)
  · exact .inr (SqT.of z)
  · exact .inr (z H)
theorem SeqI.mono {H H' : Hp} {v : V} {xs : List Int} (e : Same H H') (h : SeqI K H v xs) : SeqI K H' v xs := by
  obtain ⟨a, e1, h⟩ := h
  refine ⟨a, e1, ?_⟩
  rcases h with z | z | z
  · exact .inl (e _ _ z)
  · exact .inr (.inl (e _ _ z))
  · exact .inr (.inr z)
def rTupLK (K : PySem.W.Frag) : List V → Hp → VK → Prop := fun xs H Q => ∃ (p : Addr) (ks : List Int), xs = [.ref p] ∧ SqL K H p (ks.map V.int) ∧ ∀ l, H l = none → Q (.ref l) (upd H l (.tup (ks.map V.int)))
theorem call_tupLK (hK : X.K = K := by rfl) : CallR X (.type "tuple") (rTupLK K) := by
  subst hK
  intro pins s σ H xs us Q I r h
  obtain ⟨p, ks, rfl, hs, q⟩ := h
  exact call_tuple_of pins s σ H _ us Q I r ⟨p, _, rfl, .inl ⟨hs, q⟩⟩
end
/-! ### written dicts of tuples with text keys -/
def lookG {α : Type} : List (Str × α) → Str → Option α
  | [], _ => none
  | (k, v) :: r, i => if k = i then some v else lookG r i
def dictG {α : Type} [Inhabited α] (kvs : List (Str × α)) (i : Str) : α := (lookG kvs i).getD default
def hasG {α : Type} (kvs : List (Str × α)) (i : Str) : Bool := (lookG kvs i).isSome
theorem lookG_at {α : Type} [Inhabited α] {kvs : List (Str × α)} {i : Str} (h : hasG kvs i = true) : lookG kvs i = some (dictG kvs i) := by
  unfold hasG at h
  unfold dictG
  cases e : lookG kvs i with
  | none => rw [e] at h; cases h
  | some v => rfl
inductive EA (P : Params) : List (Str × Addr) → List DictEntry → Prop
  | nil : EA P [] []
  | cons {h k a} {t : Tok} {r : List (Str × Addr)} {es : List DictEntry} (e : h = PyData.keyHash P k) (x : EA P r es) : EA P ((k, a) :: r) (⟨h, .str k t, .ref a⟩ :: es)
def KDA (K : PySem.W.Frag) (w : World) (a : Addr) (kvs : List (Str × Addr)) : Prop :=
  ∃ es n, K.lookup a = some ⟨.type "dict", none, .dict es n, #[]⟩ ∧ EA w.params kvs es.toList
theorem EA.lit {P : Params} : ∀ {kvs : List (Str × Addr)} {es : List DictEntry}, EA P kvs es → PySem.W.KeysLit P es
  | _, _, .nil => trivial
  | _, _, .cons e x => ⟨⟨_, _, rfl, e⟩, EA.lit x⟩
theorem EA.find {P : Params} {i : Str} {a : Addr} : ∀ {kvs : List (Str × Addr)} {es : List DictEntry}, EA P kvs es → lookG kvs i = some a → ∃ e, es.find? (fun e => e.key.isStr i) = some e ∧ e.val = .ref a
  | _, _, .nil, h => by cases h
  | _, _, .cons (k := k) e x, h => by
    unfold lookG at h
    by_cases q : k = i
    · rw [if_pos q] at h
      subst q
      cases h
      refine ⟨_, List.find?_cons_of_pos ?_, rfl⟩
      simp [Value.isStr]
    · rw [if_neg q] at h
      obtain ⟨e', h1, h2⟩ := EA.find x h
      refine ⟨e', ?_, h2⟩
      rw [List.find?_cons_of_neg]
      · exact h1
      · simp [Value.isStr, q]
def rIxDA (K : PySem.W.Frag) (w : World) : R2 := fun x y H Q => ∃ (p : Addr) (z : Str) (kvs : List (Str × Addr)) (a : Addr), x = .ref p ∧ y = .str z ∧ KDA K w p kvs ∧ lookG kvs z = some a ∧ Q (.ref a) H
theorem ix_DA {X : Cx} {K : PySem.W.Frag} {w : World} (hK : X.K = K := by rfl) (hw : X.w = w := by rfl) : IxR X (rIxDA K w) := by
  subst hK hw
  intro value slice pins s σ H x y v u Q I rx ry h hs
  obtain ⟨p, z, kvs, a, e1, e2, ⟨es, n, hl, xx⟩, e, q⟩ := h
  obtain ⟨en, h1, h2⟩ := xx.find e
  refine ix_kdict value slice pins s σ H x y v u Q I rx ry ⟨p, z, .ref a, e1, e2, ⟨es, n, .ref a, hl, xx.lit, ?_, rfl⟩, q⟩ hs
  unfold PySem.W.nsIn
  rw [hl]
  show (match es.toList.find? (fun e => e.key.isStr z) with
      | some e => some (some e.val)
      | none => if es.toList.any (·.refKey) then none else some none) = _
  rw [h1]
  show some (some en.val) = _
  rw [h2]
theorem F2.look {α β : Type} [Inhabited α] [Inhabited β] {P : α → β → Prop} {z : Str} : ∀ {l : List (Str × α)} {m : List (Str × β)}, F2 (fun p q => p.1 = q.1 ∧ P p.2 q.2) l m → hasG m z = true → P (dictG l z) (dictG m z)
  | _, _, .nil, h => by cases h
  | (k, a) :: l, (k2, b) :: m, .cons h r, hz => by
    obtain ⟨e, hp⟩ := h
    have e : k = k2 := e
    subst e
    unfold hasG lookG at hz
    unfold dictG lookG
    by_cases q : k = z
    · rw [if_pos q, if_pos q]; exact hp
    · rw [if_neg q] at hz
      rw [if_neg q, if_neg q]
      exact F2.look r hz
theorem F2.hasK {α β : Type} {P : α → β → Prop} {z : Str} : ∀ {l : List (Str × α)} {m : List (Str × β)}, F2 (fun p q => p.1 = q.1 ∧ P p.2 q.2) l m → hasG m z = true → hasG l z = true
  | _, _, .nil, h => by cases h
  | (k, a) :: l, (k2, b) :: m, .cons h r, hz => by
    have e : k = k2 := h.1
    subst e
    unfold hasG lookG at hz ⊢
    by_cases q : k = z
    · rw [if_pos q]; rfl
    · rw [if_neg q] at hz ⊢
      exact F2.hasK r hz
end Vx
namespace Vx
open PySem PySem.Spec PyProof.Rows L2
theorem op_notFalse {X : Cx} : OpR X (compareOp .IsNot) (fun x y H Q => ∃ b : Bool, x = .bl b ∧ y = .bl false ∧ Q (.bl b) H) := by
  intro pins s σ H x y v u Q I rx ry h
  obtain ⟨b, rfl, rfl, q⟩ := h
  cases rx
  cases ry
  show wpAny (model X.prog X.w) X.A (compareOp .IsNot (.bool b) (.bool false)) (EP X pins σ Q) X.xe s
  have e : compareOp .IsNot (.bool b) (.bool false) = pure (.bool b) := by cases b <;> rfl
  rw [e]
  exact wpAny_pure ⟨.bl b, H, I, rfl, q⟩
end Vx
/-! ### comprehensions that change an object -/
namespace Vx
open PySem PySem.Spec PyProof.Rows L2
section
variable {α β σ γ : Type}
def bind2 (m : Rx (α × σ)) (f : α → σ → Rx γ) : Rx γ := m.bind fun v => f v.1 v.2
def mapAS : List α → List β → σ → (σ → α → Rx (β × σ)) → Rx (List β × σ)
  | [], acc, s, _ => .ok (acc, s)
  | x :: r, acc, s, f => grd (acc.length ≤ 1000000) ((f s x).bind fun y => mapAS r (acc ++ [y.1]) y.2 f)
def mapFS : List α → List β → σ → (σ → α → Rx (Option β × σ)) → Rx (List β × σ)
  | [], acc, s, _ => .ok (acc, s)
  | x :: r, acc, s, f => grd (acc.length ≤ 1000000) ((f s x).bind fun y =>
    match y.1 with
    | some z => mapFS r (acc ++ [z]) y.2 f
    | none => mapFS r acc y.2 f)
theorem cW_push2 {m : Rx (α × σ)} {f : α → σ → Rx γ} {K : γ → Prop} {E : Nat → Prop} (h : cW (bind2 m f) K E) : ∃ K2 : α × σ → Prop, (∀ a s, K2 (a, s) → cW (f a s) K E) ∧ cW m K2 E := ⟨fun v => cW (f v.1 v.2) K E, fun _ _ x => x, cW_call h (fun _ x => x) fun _ x => x⟩
theorem cW_mapAS {K : List β × σ → Prop} {E : Nat → Prop} {xs : List α} {acc : List β} {s : σ} {i : Nat} {x : α} {f : σ → α → Rx (β × σ)} (hx : xs[i]? = some x) (h : cW (mapAS (xs.drop i) acc s f) K E) :
    acc.length ≤ 1000000 ∧ cW (f s x) (fun y => cW (mapAS (xs.drop (i + 1)) (acc ++ [y.1]) y.2 f) K E) E := by
  rw [List.drop_eq_getElem?_toList_append, hx] at h
  obtain ⟨z, h⟩ := cW_grd h
  exact ⟨z, cW_call h (fun _ z => z) fun _ z => z⟩
theorem cW_mapAS0 {K : List β × σ → Prop} {E : Nat → Prop} {xs : List α} {acc : List β} {s : σ} {n : Nat} {f : σ → α → Rx (β × σ)} (hn : n = xs.length) (h : cW (mapAS (xs.drop n) acc s f) K E) : K (acc, s) := by
  subst hn
  rw [List.drop_length] at h
  exact cW_ok h
theorem cW_mapFS {K : List β × σ → Prop} {E : Nat → Prop} {xs : List α} {acc : List β} {s : σ} {i : Nat} {x : α} {f : σ → α → Rx (Option β × σ)} (hx : xs[i]? = some x) (h : cW (mapFS (xs.drop i) acc s f) K E) :
    acc.length ≤ 1000000 ∧ cW (f s x) (fun y => match y.1 with | some z => cW (mapFS (xs.drop (i + 1)) (acc ++ [z]) y.2 f) K E | none => cW (mapFS (xs.drop (i + 1)) acc y.2 f) K E) E := by
  rw [List.drop_eq_getElem?_toList_append, hx] at h
  obtain ⟨z, h⟩ := cW_grd h
  refine ⟨z, cW_call h (fun y z => ?_) fun _ z => z⟩
  obtain ⟨o, t⟩ := y
  cases o with
  | none => exact z
  | some w => exact z
theorem cW_mapFS0 {K : List β × σ → Prop} {E : Nat → Prop} {xs : List α} {acc : List β} {s : σ} {n : Nat} {f : σ → α → Rx (Option β × σ)} (hn : n = xs.length) (h : cW (mapFS (xs.drop n) acc s f) K E) : K (acc, s) := by
  subst hn
  rw [List.drop_length] at h
  exact cW_ok h
end
theorem sx_of {L : List Addr} {a b : Hp} (h : Same a b) : SameXs L a b := fun p o e _ => h p o e
theorem sx_same {L : List Addr} {a b c : Hp} (h : SameXs L a b) (k : Same b c) : SameXs L a c := fun p o e n => k p o (h p o e n)
theorem sx_mut {L : List Addr} {a b c : Hp} (h : SameXs L a b) (k : SameXs L b c) : SameXs L a c := fun p o e n => k p o (h p o e n) n
theorem sx_mut1 {L : List Addr} {a b c : Hp} {D : Addr} (h : SameXs L a b) (k : SameX D b c) (d : a D = none) : SameXs L a c := fun p o e n => k p o (h p o e n) (ne_of_none e d)
def rIndexTS (K : PySem.W.Frag) : V → List V → Hp → VK → Prop := fun x xs H Q => ∃ (p : Addr) (ys : List Str) (z : Str), x = .ref p ∧ xs = [.str z] ∧ SqT K H p (ys.map V.str) ∧ z ∈ ys ∧ Q (.int ((ys.idxOf z : Nat) : Int)) H
theorem mt_indexTS {X : Cx} {K : PySem.W.Frag} (hK : X.K = K := by rfl) : MtR X "tuple.index" (rIndexTS K) := by
  subst hK
  intro pins s σ H x xs v us Q I rx rxs h
  obtain ⟨p, ys, z, rfl, rfl, hs, hm, q⟩ := h
  refine mt_tup_index pins s σ H _ _ v us Q I rx rxs ⟨p, ys, z, ys.idxOf z, rfl, rfl, hs, ?_, ?_, q⟩
  · have hl := List.idxOf_lt_length_iff.mpr hm
    rw [List.getElem?_eq_getElem hl]
    exact congrArg some (List.getElem_idxOf hl)
  · intro m hm2 hg
    have h1 := (List.getElem?_eq_some_iff.mp hg)
    obtain ⟨h2, h3⟩ := h1
    have h4 := List.not_of_lt_findIdx hm2
    rw [h3, beq_self_eq_true] at h4
    cases h4
end Vx
/-! # try with several clauses that name the exception -/
namespace Ve
open PySem PySem.Spec PyProof.Rows L2
abbrev Suite := Addr → Value → Option Addr → TS
/-- what a list of clauses wishes: the first whose class fits, and its suite; none: the outer wish -/
def wCl (K : PySem.W.Frag) (Wout : WX) (D : Ends) : List (Value × Nat × Suite) → WX
  | [] => Wout
  | c :: r => wAs K c.1 c.2.1 c.2.2 (wCl K Wout D r) D
/-- one clause `except x as n: suite` -/
structure ClOk (X : Cx) (h : ExceptHandler) (c : Value × Nat × Suite) : Prop where
  ex : ∃ (x n : Str) (b₀ : Stmt) (suite : List Stmt) (np p : Pos), h = .ExceptHandler (some (.Name x np)) (some n) (b₀ :: suite) p ∧ Names X x c.1 ∧ X.N[c.2.1]? = some n ∧ X.env.kindOf n = some .local ∧
    ∀ (a : Addr) (oe : Obj) (cls : Value) (d : Option Addr) (pn : List (Addr × Obj)), Zc cls d oe → (∃ vs, oe.data = .fields vs) → PSs (X.suite a ((a, oe) :: pn)) (b₀ :: suite) (c.2.2 a cls d)
inductive ClsOk (X : Cx) : List ExceptHandler → List (Value × Nat × Suite) → Prop
  | nil : ClsOk X [] []
  | cons {h : ExceptHandler} {hs : List ExceptHandler} {c : Value × Nat × Suite} {cs : List (Value × Nat × Suite)} : ClOk X h c → ClsOk X hs cs → ClsOk X (h :: hs) (c :: cs)
theorem cl_mk {X : Cx} {x n : Str} {b₀ : Stmt} {suite : List Stmt} {np p : Pos} {cv : Value} {i : Nat} {ts : Suite} (nm : Names X x cv) (hi : X.N[i]? = some n) (hln : X.env.kindOf n = some .local)
    (hsu : ∀ (a : Addr) (oe : Obj) (cls : Value) (d : Option Addr) (pn : List (Addr × Obj)), Zc cls d oe → (∃ vs, oe.data = .fields vs) → PSs (X.suite a ((a, oe) :: pn)) (b₀ :: suite) (ts a cls d)) : ClOk X (.ExceptHandler (some (.Name x np)) (some n) (b₀ :: suite) p) (cv, i, ts) :=
  ⟨⟨x, n, b₀, suite, np, p, rfl, nm, hi, hln, hsu⟩⟩
section
variable {X : Cx} {body : List Stmt} {h₀ : ExceptHandler} {hds : List ExceptHandler} {cs : List (Value × Nat × Suite)} {pos : Pos} {tb : WX → TS} {Wout : WX}
theorem ps_try_cls (hs : X.stack = X.env :: X.outer) (hf : X.env.frame = some X.env.locals) (hN : X.N.Nodup) (tk : Takes X Wout)
    (hb : ∀ (W : WX) (pn : List (Addr × Obj)) (xe : Value → Shared → Prop), Takes (X.tr pn xe) W → PassesOwn (model X.prog X.w) X.A X.env xe → PSs (X.tr pn xe) body (tb W))
    (hh : ClsOk X (h₀ :: hds) cs) : PS X (.Try body (h₀ :: hds) [] [] pos) (fun D σ H => tb (wCl X.K Wout D cs) D σ H) := by
  refine ⟨fun pins s σ H D I h => ?_⟩
  have ok := I.ok
  have hfr : X.A.frames = some (X.env :: X.outer) := by rw [ok.frames, hs]
  refine wpAny_Try_except ?_
  let R : Flow → Shared → Prop := SP X pins D
  refine wpAny_mono ((hb (wCl X.K Wout D cs) (X.pn ++ pins) (fun e s₁ => wpAny (model X.prog X.w) X.A (noteFrame e X.env) (fun _ s₂ => wpAny (model X.prog X.w) X.A (setFlight e none) (fun _ s₃ =>
    wpAny (model X.prog X.w) X.A (handleBy e X.env (h₀ :: hds)) R X.xe s₃) X.xe s₂) X.xe s₁) (fun u s' xx => ?_) PassesOwn.looking).run [] s σ H D (I.toTry _) h) (fun f s1 hsp => ?_) (fun e s1 he => he)
  · obtain ⟨a, B, sI, pins', σ', H', cls, d, rfl, J', nb, up, sky, na, os, ag, w⟩ := xx
    have J : Inv X pins σ' H' sI := J'.ofTry ok
    have sky' : Sky B (X.env :: X.outer) a (Zc cls d) X.env.locals s'.heap := by rw [← hs]; exact sky
    show wpAny (model X.prog X.w) X.A (noteFrame (.ref a) X.env) _ _ _
    refine Sky.land Zc.steady hfr hf sky' fun h3 fl3 up3 => ?_
    have up13 := up.trans up3
    have J3 : Inv X pins σ' H' { s' with heap := h3 } := J.landed nb fl3.1 up13 os ag
    obtain ⟨oe3, vs3, he3, hz3, hd3⟩ := fl3.there
    have away : a ∉ frs (X.env :: X.outer) := fun hm => by
      obtain ⟨_, o', e', hnf⟩ := fl3.2.2.1.mem hm
      rw [he3] at e'
      cases e'
      exact hnf _ hd3
    have nL : a ≠ X.env.locals := fun z => away (List.mem_filterMap.mpr ⟨X.env, List.mem_cons_self, by rw [hf, z]⟩)
    have nF : a ∉ X.fs := fun hm => by
      obtain ⟨e, he, q⟩ := List.mem_filterMap.mp hm
      exact away (List.mem_filterMap.mpr ⟨e, List.mem_cons_of_mem _ he, q⟩)
    have S3 := J3.suite he3 hd3 na nL nF
    have each : ∀ {hs2 : List ExceptHandler} {cs2 : List (Value × Nat × Suite)}, ClsOk X hs2 cs2 → wCl X.K Wout D cs2 cls d σ' H' → wpAny (model X.prog X.w) X.A (handleBy (.ref a) X.env hs2) R X.xe { s' with heap := h3 } := by
      intro hs2 cs2 hk
      induction hk with
      | nil =>
        intro w
        refine wpAny_handleBy_nil ?_
        obtain ⟨_, _, _, oe, vs, T, oT, ts', he, _, hd, h1, _⟩ := id fl3
        unfold PySem.passOn
        refine wpAny_bind (wpAny_field he hd h1 ?_)
        rw [if_neg (show ¬ ((Value.ref T == Value.none) = true) from by simp)]
        have out : wpAny (model X.prog X.w) X.A (setFlight (.ref a) X.env.frame) (fun _ s4 => wpAny (model X.prog X.w) X.A (throw (.ref a) : Sem Flow) R X.xe s4) X.xe { s' with heap := h3 } := by
          rw [hf]
          exact HandSPX.setFlight_upZ fl3 fun h4 hh4 up4 => wpAny_throw (tk _ _ ⟨a, B, sI, pins, σ', H', cls, d, rfl, J, nb, up13.trans up4, .inr (.inr (by rw [hs]; exact hh4)), na, os, ag, w⟩)
        first
          | exact wpAny_bind (wpAny_pure (wpAny_bind out))
          | exact wpAny_bind out
      | cons hc _ ih =>
        intro w
        obtain ⟨x, n, b₀, suite, np, p, rfl, nm, hi, hln, hsu⟩ := hc.ex
        obtain ⟨b, hb1, yes, no⟩ := w
        refine wpAny_handleBy_cons (codeAny_handlers_test ?_) (by intro q; cases q)
        have LM := PySem.W.exm_one (M := model X.prog X.w) (J3.kIn) (show PySem.W.Looks (model X.prog X.w) h3 (typeOf (.ref a)) cls from fun A Q E s k q => wpAny_typeOf_ref (k _ _ he3) (by rw [hz3.1]; exact q)) hb1
        have named : ∀ {Q : Value → Shared → Prop} {E : Value → Shared → Prop}, Q _ { s' with heap := h3 } → wpAny (model X.prog X.w) (X.A.mark (some (.ref a))) (eval (.Name x np) X.env) Q E { s' with heap := h3 } := fun {Q E} q => by
          obtain ⟨hg, hdbg, hm | ⟨hm, hv, hnn⟩⟩ := nm
          · exact ld_glob (X := X.suite a ((a, oe3) :: (X.pn ++ pins))) S3 hg hm q hdbg
          · exact ld_blt (X := X.suite a ((a, oe3) :: (X.pn ++ pins))) S3 hg hm hv q hnn hdbg
        refine named (LM.here ?_)
        cases b with
        | false => exact ih (no rfl)
        | true =>
          refine codeAny_handlers_suite_as ?_
          refine HandSPX.lands_againZ fl3 fun h4 fl4 up4 => ?_
          have J4 : Inv X pins σ' H' { s' with heap := h4 } := J.landed nb fl4.1 (up13.trans up4) os ag
          obtain ⟨oe4, vs4, he4, hz4, hd4⟩ := fl4.there
          have S4 := J4.suite he4 hd4 na nL nF
          refine store_ok (X := X.suite a ((a, oe4) :: (X.pn ++ pins))) (v := .ref a) S4 hN hi (.inl hln) rfl (fun s5 S5 => ?_) (.inr hln)
          have fin : ∀ {σ6 : L2.St} {H6 : Hp} {s6 : Shared} {Q : Shared → Prop}, Inv (X.suite a ((a, oe4) :: (X.pn ++ pins))) [] σ6 H6 s6 → (∀ s7, Inv X pins (σ6.set _ none) H6 s7 → Q s7) →
              wpAny (model X.prog X.w) X.A (do bindName X.env n .none; unbindBehindTheSuite X.env n p) (fun _ s7 => Q s7) X.xe s6 := fun S6 hq => gone_ok (S6.unsuite ok) hN hi hln hq
          refine wpAny_mono ((hsu a oe4 cls d (X.pn ++ pins) hz4 ⟨_, hd4⟩).run [] s5 _ H' _ S5 (yes rfl a na)) (fun f s6 hsp => ?_) (fun _ _ z => False.elim z)
          cases f with
          | ret u =>
            obtain ⟨v6, σ6, H6, S6, r6, q6⟩ := hsp
            exact fin S6 fun s7 J7 => ⟨_, _, _, J7, r6, q6⟩
          | next =>
            obtain ⟨σ6, H6, S6, q6⟩ := hsp
            exact fin S6 fun s7 J7 => ⟨_, _, J7, q6⟩
          | brk =>
            obtain ⟨σ6, H6, S6, q6⟩ := hsp
            exact fin S6 fun s7 J7 => ⟨_, _, J7, q6⟩
          | cont =>
            obtain ⟨σ6, H6, S6, q6⟩ := hsp
            exact fin S6 fun s7 J7 => ⟨_, _, J7, q6⟩
    exact each hh w
  · cases f with
    | ret u =>
      obtain ⟨v, σ', H', J', r, q⟩ := hsp
      exact ⟨v, σ', H', J'.ofTry ok, r, q⟩
    | next =>
      obtain ⟨σ', H', J', q⟩ := hsp
      exact wpAny_execs_nil ⟨σ', H', J'.ofTry ok, q⟩
    | brk =>
      obtain ⟨σ', H', J', q⟩ := hsp
      exact ⟨σ', H', J'.ofTry ok, q⟩
    | cont =>
      obtain ⟨σ', H', J', q⟩ := hsp
      exact ⟨σ', H', J'.ofTry ok, q⟩
end
end Ve
namespace Vx
open PySem PySem.Spec PyProof.Rows L2
theorem exm_mk0 {K : PySem.W.Frag} {S C : Addr} (h1 : PySem.W.subIn K (.ref C) (.type "BaseException") = some true) (h0 : (Value.ref S == Value.ref C) = false) (h2 : PySem.W.isClsIn K C = true) (h3 : PySem.W.typeIn K (.ref C) = some (.type "type")) (h4 : PySem.W.subIn K (.ref S) (.ref C) = some false) :
    PySem.W.exmOne K (.ref S) (.ref C) = some false := by
  unfold PySem.W.exmOne
  rw [h1]
  have k := kit_mk0 (K := K) h0 h2 h3 h4
  unfold PySem.W.kitOne at k
  simpa [h0] using k
theorem Sep.mutstep {M : List Addr} {H0 G0 G H H' : Hp} {O : List Addr} (S : Sep M H0 G0 G H O) {L : List Addr} (x : SameXs L H H') (hL : ∀ a ∈ L, a ∈ O) (hs : ∀ a ∈ L, H' a ≠ none) {G' : Hp} (eG : Same G G') (sG : Same G' H') (hn : ∀ b, H b ≠ none → G b = none → G' b = none) : Sep M H0 G0 G' H' O := by
  have S1 := S.mut x hL hs
  exact ⟨S1.base, S1.pm, sG, S.g0.trans eG, fun b hb gb => hn b (fun z => hb (S.free z)) (S.gn b hb gb), fun a ha => ⟨hn a (S.ow a ha).2.1 (S.ow a ha).1, (S1.ow a ha).2⟩⟩
end Vx
/-! # trees that are changed from outside; trees within objects -/
namespace Vx
open PySem PySem.Spec PyProof.Rows L2
section
variable {M : List Addr} {H0 G0 G H H' : Hp} {O : List Addr}
/-- a change of what is owned, by which trees grow and data come to stay -/
theorem Sep.mutgrow (S : Sep M H0 G0 G H O) {G' : Hp} {L : List Addr} (x : SameXs L H H') (hL : ∀ a ∈ L, a ∈ O) (hs : ∀ a ∈ L, H' a ≠ none) (eG : Same G G') (sG : Same G' H') (hn : ∀ b, H b ≠ none → G b = none → G' b = none)
    {O' : List Addr} (hO : ∀ b ∈ O', b ∈ O ∨ (H b = none ∧ G' b = none ∧ H' b ≠ none)) : Sep M H0 G0 G' H' O' := by
  have S1 := S.mut x hL hs
  have there : ∀ b, H b ≠ none → H' b ≠ none := fun b h => by
    by_cases hb : b ∈ L
    · exact hs b hb
    · cases q : H b with
      | none => exact absurd q h
      | some o => exact some_ne (x b o q hb)
  refine ⟨S1.base, S1.pm, sG, S.g0.trans eG, fun b hb gb => hn b (fun z => hb (S.free z)) (S.gn b hb gb), fun b hb => ?_⟩
  rcases hO b hb with h | ⟨h1, h2, h3⟩
  · obtain ⟨g, h, m⟩ := S.ow b h
    exact ⟨hn b h g, there b h, m⟩
  · exact ⟨h2, h3, .inr (S.free h1)⟩
/-- what is borrowed is none of what a callee may change -/
theorem Sep.bhide (S : Sep M H0 G0 G H O) {L : List Addr} (h : ∀ a ∈ L, a ∈ O) : Same (hideL M H0) (hideL L H) := fun b o e => by
  rw [hideL_out fun z => b_ne e S (h b z) rfl]
  exact S.bM b o e
end
theorem grown_ne {H : Hp} {L F : List Addr} {x : Addr} (s : ∀ b ∈ L, b ∈ F ∨ H b = none) (n : ∀ b ∈ F, b ≠ x) (h : H x ≠ none) : ∀ b ∈ L, b ≠ x := fun b hb z => by
  rcases s b hb with q | q
  · exact n b q z
  · exact h (z ▸ q)
theorem grown_nl {H : Hp} {L F L2 : List Addr} (s : ∀ b ∈ L, b ∈ F ∨ H b = none) (n : ∀ b ∈ F, b ∉ L2) (h : ∀ b ∈ L2, H b ≠ none) : ∀ b ∈ L, b ∉ L2 := fun b hb z => by
  rcases s b hb with q | q
  · exact n b q z
  · exact h b z q
section
variable {α : Type} {f : α → PyData} {G H : Hp} {a : Addr}
theorem rp_listAt {xs : List α} (r : Rp H (.ref a) (encL f xs)) : ∃ vs, H a = some (.lst vs) ∧ RpAll H vs (xs.map f) := by
  obtain ⟨b, vs, e, h, d⟩ := rp_list r
  cases e
  exact ⟨vs, h, d⟩
theorem OwAll.frzs : ∀ {vs : List V} {xs : List α}, RpAll G vs (xs.map f) → OwAll G H [] vs (xs.map (oF f))
  | _, [], .nil => .nil
  | _, _ :: _, .cons r t => .cons (L1 := []) (L2 := []) (.frz r) (OwAll.frzs t) (fun _ z => nomatch z)
theorem OwAll.toFrzs : ∀ {L : List Addr} {vs : List V} {xs : List α}, OwAll G H L vs (xs.map (oF f)) → RpAll G vs (xs.map f)
  | _, _, [], .nil => .nil
  | _, _, x :: xs, .cons a r _ => by
    cases a with
    | frz z => exact .cons z (OwAll.toFrzs r)
end
theorem rp_dgetI {H : Hp} {v : V} {d : PyData} {k : Int} (g : (0 : Int) ≤ k ∧ dHasT d (Int.toNat k) = true) (r : Rp H v d) : ∃ a vs u, v = .ref a ∧ H a = some (.tup vs) ∧ atI vs k = some u ∧ Rp H u (dGet d (Int.toNat k)) := by
  obtain ⟨a, vs, u, e, h, x, y⟩ := rp_dget g.2 r
  rw [Int.toNat_of_nonneg g.1] at x
  exact ⟨a, vs, u, e, h, x, y⟩
/-! ### what may be None -/
def OptF {α : Type} (G hp : Hp) (v : V) (x : Option (List α)) (f : α → PyData) : Prop := match x with
  | none => v = .non
  | some xs => ∃ a vs, v = .ref a ∧ hp a = some (.lst vs) ∧ RpAll G vs (xs.map f)
def optE {α β : Type} (x : Option α) (a : Rx β) (b : α → Rx β) : Rx β := match x with
  | none => a
  | some y => b y
theorem cW_optN {α β : Type} {a : Rx β} {b : α → Rx β} {K : β → Prop} {E : Nat → Prop} (h : cW (optE none a b) K E) : cW a K E := h
theorem cW_optS {α β : Type} {y : α} {a : Rx β} {b : α → Rx β} {K : β → Prop} {E : Nat → Prop} (h : cW (optE (some y) a b) K E) : cW (b y) K E := h
/-! ### sorted(list of ints) -/
def insI (x : Int) : List Int → List Int
  | [] => [x]
  | y :: r => if x ≤ y then x :: y :: r else y :: insI x r
def sortL (xs : List Int) : List Int := xs.foldr insI []
theorem insI_perm {x : Int} : ∀ {l : List Int}, (insI x l).Perm (x :: l)
  | [] => .refl _
  | y :: r => by
    unfold insI
    split
    · exact .refl _
    · exact ((insI_perm (l := r)).cons y).trans (.swap x y r)
theorem sortL_perm : ∀ l : List Int, (sortL l).Perm l
  | [] => .refl _
  | x :: r => (insI_perm (l := sortL r)).trans ((sortL_perm r).cons x)
theorem insI_pw {x : Int} : ∀ {l : List Int}, l.Pairwise (· ≤ ·) → (insI x l).Pairwise (· ≤ ·)
  | [], _ => List.pairwise_singleton _ _
  | y :: r, h => by
    obtain ⟨h1, h2⟩ := List.pairwise_cons.mp h
    unfold insI
    split
    · rename_i c
      refine List.pairwise_cons.mpr ⟨fun z hz => ?_, h⟩
      rcases List.mem_cons.mp hz with rfl | hz
      · exact c
      · exact Int.le_trans c (h1 z hz)
    · rename_i c
      refine List.pairwise_cons.mpr ⟨fun z hz => ?_, insI_pw h2⟩
      rcases List.mem_cons.mp ((insI_perm (l := r)).mem_iff.mp hz) with rfl | hz
      · omega
      · exact h1 z hz
theorem sortL_pw : ∀ l : List Int, (sortL l).Pairwise (· ≤ ·)
  | [] => List.Pairwise.nil
  | _ :: r => insI_pw (sortL_pw r)
theorem sortL_of {ns ks : List Int} (p : ns.Perm ks) (h : ns.Pairwise (· ≤ ·)) : ns = sortL ks :=
  (p.trans (sortL_perm ks).symm).eq_of_pairwise (fun _ _ _ _ a b => Int.le_antisymm a b) h (sortL_pw ks)
def rSortL (K : PySem.W.Frag) : List V → Hp → VK → Prop := fun xs H Q => ∃ (a : Addr) (ns : List Int), xs = [.ref a] ∧ SqL K H a (ns.map V.int) ∧ ∀ p, H p = none → Q (.ref p) (upd H p (.lst ((sortL ns).map V.int)))
theorem cr_sortL {X : Cx} {K : PySem.W.Frag} (hK : X.K = K := by rfl) : CallR X (.builtin "sorted") (rSortL K) := by
  subst hK
  intro pins s σ H vs us Q I r h
  obtain ⟨a, ns, e, hs, q⟩ := h
  refine cr_sortedI pins s σ H vs us Q I r ⟨a, ns, e, hs, fun ns' p pm pw hp => ?_⟩
  rw [sortL_of pm pw]
  exact q p hp
end Vx
namespace Vt
open PySem PySem.Spec PyProof.Rows L2 Vx
end Vt
/-! # fourth part: reckoning with functions that may refuse -/
namespace Vx
open PySem PySem.Spec PyProof.Rows L2
section
variable {α β σ ρ τ : Type}
theorem bind_ok (a : α) (f : α → Rx β) : (Rx.ok a).bind f = f a := rfl
theorem bind_er (e : Nat) (f : α → Rx β) : (Rx.er e : Rx α).bind f = .er e := rfl
theorem grd_pos {p : Prop} {dp : Decidable p} {m : Rx α} (h : p) : grd p m = m := if_pos h
theorem bnd_eq (a : α) (f : α → Rx β) : bnd a f = f a := rfl
theorem noEr_ok (a : α) : noEr (.ok a : Rx α) = .ok a := rfl
theorem tryR_ok {cs : List Nat} (a : α) (f : α → Rx β) (g : Nat → Rx β) : tryR (.ok a) cs f g = f a := rfl
theorem tryR_er {cs : List Nat} {e : Nat} (h : e ∈ cs) (f : α → Rx β) (g : Nat → Rx β) : tryR (.er e) cs f g = g e := if_pos h
theorem aft_go (s : σ) (kr : ρ → Rx τ) (k : σ → Rx τ) : (Lp.go s : Lp σ ρ).aft kr k = k s := rfl
theorem aft_rt (r : ρ) (kr : ρ → Rx τ) (k : σ → Rx τ) : (Lp.rt r : Lp σ ρ).aft kr k = kr r := rfl
/-- gives a value of which P holds -/
def Gv (m : Rx α) (P : α → Prop) : Prop := ∃ v, m = .ok v ∧ P v
theorem Gv.ok {a : α} {P : α → Prop} (h : P a) : Gv (.ok a) P := ⟨a, rfl, h⟩
theorem Gv.of_eq {m : Rx α} {a : α} {P : α → Prop} (e : m = .ok a) (h : P a) : Gv m P := ⟨a, e, h⟩
theorem Gv.bind {m : Rx α} {f : α → Rx β} {P : α → Prop} {Q : β → Prop} (h : Gv m P) (k : ∀ v, P v → Gv (f v) Q) : Gv (m.bind f) Q := by
  obtain ⟨v, rfl, p⟩ := h
  exact k v p
theorem Gv.bind_eq {m : Rx α} {f : α → Rx β} {a : α} {Q : β → Prop} (h : m = .ok a) (k : Gv (f a) Q) : Gv (m.bind f) Q := by
  subst h
  exact k
theorem Gv.grd {p : Prop} {dp : Decidable p} {m : Rx α} {Q : α → Prop} (h : p) (k : Gv m Q) : Gv (Vx.grd p m) Q := by
  rw [grd_pos h]
  exact k
theorem Gv.bnd {a : α} {f : α → Rx β} {Q : β → Prop} (k : ∀ x, x = a → Gv (f x) Q) : Gv (Vx.bnd a f) Q := k a rfl
theorem Gv.ite {p : Prop} {dp : Decidable p} {a b : Rx α} {Q : α → Prop} (h1 : p → Gv a Q) (h2 : ¬ p → Gv b Q) : Gv (if p then a else b) Q := by
  split
  · exact h1 ‹_›
  · exact h2 ‹_›
theorem Gv.pos {p : Prop} {dp : Decidable p} {a b : Rx α} {Q : α → Prop} (h : p) (k : Gv a Q) : Gv (if p then a else b) Q := by rwa [if_pos h]
theorem Gv.neg {p : Prop} {dp : Decidable p} {a b : Rx α} {Q : α → Prop} (h : ¬ p) (k : Gv b Q) : Gv (if p then a else b) Q := by rwa [if_neg h]
theorem Gv.imp {m : Rx α} {P Q : α → Prop} (h : Gv m P) (k : ∀ v, P v → Q v) : Gv m Q := by
  obtain ⟨v, e, p⟩ := h
  exact ⟨v, e, k v p⟩
theorem Gv.noEr {m : Rx α} {P : α → Prop} (h : Gv m P) : Gv (Vx.noEr m) P := by
  obtain ⟨v, rfl, p⟩ := h
  exact ⟨v, rfl, p⟩
theorem Gv.tryOk {m : Rx α} {cs : List Nat} {f : α → Rx β} {g : Nat → Rx β} {P : α → Prop} {Q : β → Prop} (h : Gv m P) (k : ∀ v, P v → Gv (f v) Q) : Gv (tryR m cs f g) Q := by
  obtain ⟨v, rfl, p⟩ := h
  exact k v p
theorem Gv.tryEr {m : Rx α} {cs : List Nat} {e : Nat} {f : α → Rx β} {g : Nat → Rx β} {Q : β → Prop} (h : m = .er e) (hm : e ∈ cs) (k : Gv (g e) Q) : Gv (tryR m cs f g) Q := by
  subst h
  rw [tryR_er hm]
  exact k
theorem Gv.get {m : Rx α} {a : α} (h : Gv m (fun v => v = a)) : m = .ok a := by
  obtain ⟨v, e, rfl⟩ := h
  exact e
theorem Gv.eq {m : Rx α} {P : α → Prop} (h : Gv m P) : ∃ v, m = .ok v ∧ P v := h
/-- a loop that keeps P -/
theorem Gv.forS {P : Nat → σ → Prop} {xs : List α} {s : σ} {f : σ → α → Rx σ} (h0 : P 0 s) (hs : ∀ i x s, xs[i]? = some x → P i s → Gv (f s x) (P (i + 1))) : Gv (Vx.forS xs s f) (P xs.length) := by
  induction xs generalizing s P with
  | nil => exact .ok h0
  | cons x r ih =>
    refine Gv.bind (hs 0 x s rfl h0) fun s' p => ?_
    exact ih (P := fun i => P (i + 1)) p fun i y s hy q => hs (i + 1) y s (by simpa using hy) q
theorem Gv.forR {P : Nat → σ → Prop} {xs : List α} {s : σ} {f : σ → α → Rx (Lp σ ρ)} (h0 : P 0 s) (hs : ∀ i x s, xs[i]? = some x → P i s → Gv (f s x) (fun l => ∃ s', l = .go s' ∧ P (i + 1) s')) : Gv (Vx.forR xs s f) (fun l => ∃ s', l = .go s' ∧ P xs.length s') := by
  induction xs generalizing s P with
  | nil => exact .ok ⟨s, rfl, h0⟩
  | cons x r ih =>
    refine Gv.bind (hs 0 x s rfl h0) ?_
    rintro _ ⟨s', rfl, p⟩
    exact ih (P := fun i => P (i + 1)) p fun i y s hy q => hs (i + 1) y s (by simpa using hy) q
/-- a loop that carries nothing -/
theorem forR_unit {xs : List α} {f : Unit → α → Rx (Lp Unit ρ)} (h : ∀ x ∈ xs, f () x = .ok (.go ())) : Vx.forR xs () f = .ok (.go ()) := by
  induction xs with
  | nil => rfl
  | cons x r ih =>
    show (f () x).bind _ = _
    rw [h x List.mem_cons_self]
    exact ih fun y hy => h y (List.mem_cons_of_mem _ hy)
theorem forS_pure {xs : List α} {s : σ} {f : σ → α → Rx σ} {g : σ → α → σ} (h : ∀ s x, x ∈ xs → f s x = .ok (g s x)) : Vx.forS xs s f = .ok (xs.foldl g s) := by
  induction xs generalizing s with
  | nil => rfl
  | cons x r ih =>
    show (f s x).bind _ = _
    rw [h s x List.mem_cons_self]
    exact ih fun s y hy => h s y (List.mem_cons_of_mem _ hy)
theorem mapA_pure {xs : List α} {acc : List β} {f : α → Rx β} {g : α → β} (h : ∀ x ∈ xs, f x = .ok (g x)) (hl : acc.length + xs.length ≤ 1000000) : mapA xs acc f = .ok (acc ++ xs.map g) := by
  induction xs generalizing acc with
  | nil => simp [mapA]
  | cons x r ih =>
    rw [List.length_cons] at hl
    unfold mapA
    rw [grd_pos (by omega), h x List.mem_cons_self, bind_ok, ih (fun y hy => h y (List.mem_cons_of_mem _ hy)) (by rw [List.length_append, List.length_cons, List.length_nil]; omega)]
    simp
theorem mapA_pure0 {xs : List α} {f : α → Rx β} {g : α → β} (h : ∀ x ∈ xs, f x = .ok (g x)) (hl : xs.length ≤ 1000000) : mapA xs [] f = .ok (xs.map g) := by
  rw [mapA_pure h (by simpa using hl)]
  rfl
theorem mapF_pure {xs : List α} {acc : List β} {f : α → Rx (Option β)} {g : α → Option β} (h : ∀ x ∈ xs, f x = .ok (g x)) (hl : acc.length + xs.length ≤ 1000000) : mapF xs acc f = .ok (acc ++ xs.filterMap g) := by
  induction xs generalizing acc with
  | nil => simp [mapF]
  | cons x r ih =>
    rw [List.length_cons] at hl
    unfold mapF
    rw [grd_pos (by omega), h x List.mem_cons_self, bind_ok]
    cases e : g x with
    | none =>
      show mapF r acc f = _
      rw [ih (fun y hy => h y (List.mem_cons_of_mem _ hy)) (by omega), List.filterMap_cons, e]
    | some z =>
      show mapF r (acc ++ [z]) f = _
      rw [ih (fun y hy => h y (List.mem_cons_of_mem _ hy)) (by rw [List.length_append, List.length_cons, List.length_nil]; omega), List.filterMap_cons, e]
      simp
/-- a while that ends: m falls -/
theorem Gv.whileR {P : σ → Prop} {R : σ → Prop} (m : σ → Nat) {f : σ → Rx (Lp σ ρ)} (hs : ∀ s, P s → Gv (f s) (fun l => (∃ s', l = .go s' ∧ P s' ∧ m s' < m s) ∨ ∃ s', l = .bk s' ∧ R s')) : ∀ {n : Nat} {s : σ}, P s → m s < n → Gv (Vx.whileR n s f) (fun l => ∃ s', l = .go s' ∧ R s') := by
  intro n
  induction n with
  | zero => intro s _ h; exact absurd h (Nat.not_lt_zero _)
  | succ n ih =>
    intro s p h
    refine Gv.bind (hs s p) ?_
    rintro _ (⟨s', rfl, p', l⟩ | ⟨s', rfl, r⟩)
    · exact ih p' (by omega)
    · exact .ok ⟨s', rfl, r⟩
end
/-- a loop that may return -/
theorem Gv.forRR {α σ ρ : Type} {P : Nat → σ → Prop} {Q : ρ → Prop} {xs : List α} {s : σ} {f : σ → α → Rx (Lp σ ρ)} (h0 : P 0 s) (hs : ∀ i x s, xs[i]? = some x → P i s → Gv (f s x) (fun l => (∃ s', l = .go s' ∧ P (i + 1) s') ∨ ∃ r, l = .rt r ∧ Q r)) : Gv (Vx.forR xs s f) (fun l => (∃ s', l = .go s' ∧ P xs.length s') ∨ ∃ r, l = .rt r ∧ Q r) := by
  induction xs generalizing s P with
  | nil => exact .ok (.inl ⟨s, rfl, h0⟩)
  | cons x r ih =>
    refine Gv.bind (hs 0 x s rfl h0) ?_
    rintro _ (⟨s', rfl, p⟩ | ⟨r, rfl, q⟩)
    · exact ih (P := fun i => P (i + 1)) p fun i y s hy q => hs (i + 1) y s (by simpa using hy) q
    · exact .ok (.inr ⟨r, rfl, q⟩)
theorem rng_mem {lo x : Int} {n : Nat} (h : x ∈ rng lo n) : lo ≤ x ∧ x < lo + n := by
  unfold rng at h
  obtain ⟨j, hj, rfl⟩ := List.mem_map.mp h
  have := List.mem_range.mp hj
  omega
theorem rng_at {lo x : Int} {n i : Nat} (h : (rng lo n)[i]? = some x) : x = lo + i ∧ i < n := by
  have hl := get_len h
  rw [rng_len] at hl
  rw [rng_get hl] at h
  exact ⟨(Option.some.inj h).symm, hl⟩
end Vx
namespace Vx
open PySem PySem.Spec PyProof.Rows L2
structure St_Decoder where
  probs : (List Int)
  octs : (List Int)
  place : Int
  span : Int
  value : Int
deriving DecidableEq
structure St_SymbolReader where
  dec : St_Decoder
deriving DecidableEq
structure St_MotionGrid where
  width : Int
  height : Int
  lines : (List (List PyData))
structure St_Format where
  width : Int
  height : Int
  depth : Int
  chroma : Int
deriving DecidableEq
structure St_Settings where
  fmt : St_Format
  slots : Int
  rows : Int
  deblock : Bool
  offset : Bool
  layers : Int
deriving DecidableEq
structure St_PictureHeader where
  number : Int
  kind : Str
  level : Int
  store : (List Int)
  refs : (List Int)
  weight : Int
  layer : Int
  shown : Bool
  edge : Int
deriving DecidableEq
def F__law_draws_b1 (free_15 : Bool) (found_33 : (List Int)) (rest_34 : Int) (state_35 : Int) (it38 : Int) : Rx ((List Int) × Int × Int) :=
  (if free_15 = true then (if 1 < rest_34 then grd (0 < (it38 : Int)) <| grd ((found_33).length ≤ 1000000) <| bnd ((found_33) ++ [(rest_34 % it38)]) fun y49 => grd (0 < (it38 : Int) ∧ (it38 : Int) < 2 ^ 128) <| bnd ((rest_34 / it38)) fun rest_51 => .ok ((y49), (rest_51), (state_35)) else bnd ((((state_35 * 48271) + 11) % 2147483647)) fun state_52 => bnd ((((state_52 * 69621) + 7) % 2147483647)) fun state_53 => grd (0 < (it38 : Int)) <| grd ((found_33).length ≤ 1000000) <| bnd ((found_33) ++ [((state_53 / 13) % it38)]) fun y62 => .ok ((y62), (rest_34), (state_53))) else bnd ((((state_35 * 48271) + 11) % 2147483647)) fun state_63 => bnd ((((state_63 * 69621) + 7) % 2147483647)) fun state_64 => grd (0 < (it38 : Int)) <| grd ((found_33).length ≤ 1000000) <| bnd ((found_33) ++ [((state_64 / 13) % it38)]) fun y73 => .ok ((y73), (rest_34), (state_64)))

def F__law_draws_r1 (found_79 : (List Int)) (rest_80 : Int) (state_81 : Int) : Rx (List Int) :=
  .ok (found_79)

def F__law_draws (cell' : Int) (limits' : (List Int)) : Rx (List Int) :=
  bnd ((if cell' < 0 then -cell' else cell')) fun rest_10 => bnd ((rest_10 % 2147483647)) fun state_11 => bnd ((decide (cell' < 0) || decide (((10 : Int) ^ Int.toNat 18) ≤ cell'))) fun free_14 => Rx.bind (forS (limits') ((([] : (List Int))), (rest_10), (state_11)) (fun s x => F__law_draws_b1 (free_14) (s.1) (s.2.1) (s.2.2) x)) fun s => F__law_draws_r1  (s.1) (s.2.1) (s.2.2)

def F__require (holds' : Bool) (text' : Str) : Rx Unit :=
  (if holds' = true then .ok (()) else .er 3)

def F_Settings___init__ (fmt' : St_Format) (slots' : Int) (rows' : Int) (deblock' : Bool) (offset' : Bool) (layers' : Int) : Rx St_Settings :=
  Rx.bind (F__require ((decide (1 ≤ slots') && decide (slots' ≤ 4))) (("there are 1 to 4 slots" : Str))) fun v86 => Rx.bind (F__require ((decide (1 ≤ rows') && decide (rows' ≤ 32))) (("a slice has 1 to 32 rows of blocks" : Str))) fun v90 => Rx.bind (F__require ((decide (1 ≤ layers') && decide (layers' ≤ 4))) (("there are 1 to 4 layers" : Str))) fun v94 => .ok (⟨fmt', slots', rows', deblock', offset', layers'⟩ : St_Settings)

def F__check_contexts (base' : Int) (count' : Int) : Rx Unit :=
  (if 0 < count' then (if 0 ≤ base' then (if base' ≤ (256 - count') then .ok (()) else .er 2) else .er 2) else .ok (()))

def F__check_unary (base' : Int) (most' : Int) : Rx Unit :=
  (if 0 ≤ most' then (if most' ≤ 64 then Rx.bind (F__check_contexts base' ((if 8 < most' then 8 else most'))) fun v136 => .ok (()) else .er 2) else .er 2)

def F__check_context (context' : Int) : Rx Unit :=
  (if 0 ≤ context' then (if context' < 256 then .ok (()) else .er 2) else .er 2)

def F__adapted (chance' : Int) (decision' : Int) : Rx Int :=
  (if (decision' : Int) = 0 then .ok ((chance' + ((4096 - chance') / 32))) else .ok ((chance' - (chance' / 32))))

def F_Decoder__shift_k1 (self_140 : St_Decoder) (octet_141 : Int) : Rx St_Decoder :=
  grd ((0 : Int) ≤ 8 ∧ (8 : Int) ≤ 4096 ∧ -(2 ^ 4096) < (self_140.value : Int) ∧ (self_140.value : Int) < 2 ^ 4096) <| bnd ((PySem.Builtin.bitOr ((self_140.value * 2 ^ Int.toNat (8))) (octet_141))) fun _value_166 => .ok (⟨self_140.probs, self_140.octs, self_140.place, self_140.span, _value_166⟩ : St_Decoder)

def F_Decoder__shift (self' : St_Decoder) : Rx St_Decoder :=
  Rx.bind (((if self'.place < (((self'.octs) : (List Int)).length : Int) then grd (-((self'.octs : (List Int)).length : Int) ≤ self'.place ∧ self'.place < ((self'.octs : (List Int)).length : Int)) <| bnd ((itD (self'.octs) (self'.place))) fun octet_148 => bnd ((self'.place + 1)) fun _place_149 => .ok (((⟨self'.probs, self'.octs, _place_149, self'.span, self'.value⟩ : St_Decoder)), (octet_148)) else .ok ((self'), (0))) : Rx (St_Decoder × Int))) fun s => F_Decoder__shift_k1  (s.1) (s.2)

def F_Decoder__decide_r2 (decision_218 : Int) (self_255 : St_Decoder) : Rx (Int × St_Decoder) :=
  .ok (decision_218, self_255)

def F_Decoder__decide_b2 (self_230 : St_Decoder) : Rx (Lp (St_Decoder) (Int × St_Decoder)) :=
  (if self_230.span < 16777216 then Rx.bind (noEr (F_Decoder__shift (self_230))) fun v234 => grd ((0 : Int) ≤ 8 ∧ (8 : Int) ≤ 4096 ∧ -(2 ^ 4096) < (v234.span : Int) ∧ (v234.span : Int) < 2 ^ 4096) <| bnd ((v234.span * 2 ^ Int.toNat (8))) fun _span_246 => .ok (.go ((⟨v234.probs, v234.octs, v234.place, _span_246, v234.value⟩ : St_Decoder))) else .ok (.bk (self_230)))

def F_Decoder__decide_k1 (decision_181 : Int) (self_182 : St_Decoder) : Rx (Int × St_Decoder) :=
  Rx.bind ((whileR 1000000 (self_182) (fun s => F_Decoder__decide_b2  s) : Rx (Lp (St_Decoder) (Int × St_Decoder)))) fun l => l.aft Rx.ok fun s => F_Decoder__decide_r2 (decision_181) s

def F_Decoder__decide (self' : St_Decoder) (chance' : Int) : Rx (Int × St_Decoder) :=
  grd ((-(2 ^ 64) < ((self'.span / 4096) : Int) ∧ ((self'.span / 4096) : Int) < 2 ^ 64) ∨ (-(2 ^ 64) < (chance' : Int) ∧ (chance' : Int) < 2 ^ 64)) <| bnd (((self'.span / 4096) * chance')) fun part_176 => bnd ((if self'.value < part_176 then 0 else 1)) fun decision_180 => Rx.bind (((if (decision_180 : Int) = 0 then .ok ((⟨self'.probs, self'.octs, self'.place, part_176, self'.value⟩ : St_Decoder)) else bnd ((self'.value - part_176)) fun _value_195 => bnd ((self'.span - part_176)) fun _span_202 => .ok ((⟨self'.probs, self'.octs, self'.place, _span_202, _value_195⟩ : St_Decoder))) : Rx (St_Decoder))) fun s => F_Decoder__decide_k1 (decision_180) s

def F_Decoder_read (self' : St_Decoder) (context' : Int) : Rx (Int × St_Decoder) :=
  Rx.bind (F__check_context context') fun v256 => grd (-((self'.probs : (List Int)).length : Int) ≤ context' ∧ context' < ((self'.probs : (List Int)).length : Int)) <| bnd ((itD (self'.probs) (context'))) fun chance_258 => Rx.bind (F_Decoder__decide (self') chance_258) fun v259 => Rx.bind (noEr (F__adapted chance_258 v259.1)) fun v270 => grd (-((v259.2.probs : (List Int)).length : Int) ≤ context' ∧ context' < ((v259.2.probs : (List Int)).length : Int)) <| bnd (setL (v259.2.probs) (context') (v270)) fun y278 => .ok (v259.1, (⟨y278, v259.2.octs, v259.2.place, v259.2.span, v259.2.value⟩ : St_Decoder))

def F_SymbolReader_unary_r1 (self_316 : St_SymbolReader) (value_317 : Int) : Rx (Int × St_SymbolReader) :=
  .ok (value_317, self_316)

def F_SymbolReader_unary_b1 (base_282 : Int) (most_283 : Int) (self_297 : St_SymbolReader) (value_298 : Int) : Rx (Lp (St_SymbolReader × Int) (Int × St_SymbolReader)) :=
  (if value_298 < most_283 then Rx.bind (noEr (F_Decoder_read (self_297.dec) ((base_282 + (if (8 - 1) < value_298 then (8 - 1) else value_298))))) fun v302 => (if (v302.1 : Int) = 1 then bnd ((value_298 + 1)) fun value_314 => .ok (.go (((⟨v302.2⟩ : St_SymbolReader)), (value_314))) else .ok (.bk (((⟨v302.2⟩ : St_SymbolReader)), (value_298)))) else .ok (.bk ((self_297), (value_298))))

def F_SymbolReader_unary (self' : St_SymbolReader) (base' : Int) (most' : Int) : Rx (Int × St_SymbolReader) :=
  Rx.bind (F__check_unary base' most') fun v281 => Rx.bind ((whileR 1000000 ((self'), (0)) (fun s => F_SymbolReader_unary_b1 (base') (most') (s.1) (s.2)) : Rx (Lp (St_SymbolReader × Int) (Int × St_SymbolReader)))) fun l => l.aft Rx.ok fun s => F_SymbolReader_unary_r1  (s.1) (s.2)

def F__digit_context (base' : Int) (digits' : Int) : Rx Int :=
  .ok (((base' + 8) + (if (8 - 1) < (digits' - 1) then (8 - 1) else (digits' - 1))))

def F_Decoder_read_even (self' : St_Decoder) : Rx (Int × St_Decoder) :=
  Rx.bind (F_Decoder__decide (self') 2048) fun v321 => .ok (v321.1, v321.2)

def F_SymbolReader_number_b2 (self_390 : St_SymbolReader) (grown_391 : Int) (it394 : Int) : Rx (St_SymbolReader × Int) :=
  Rx.bind (noEr (F_Decoder_read_even (self_390.dec))) fun v395 => bnd (((2 * grown_391) + v395.1)) fun grown_406 => .ok (((⟨v395.2⟩ : St_SymbolReader)), (grown_406))

def F_SymbolReader_number_r2 (self_416 : St_SymbolReader) (grown_417 : Int) : Rx (Int × St_SymbolReader) :=
  .ok ((if 1048576 < (grown_417 - 1) then 1048576 else (grown_417 - 1)), self_416)

def F_SymbolReader_number_k1 (digits_345 : Int) (self_346 : St_SymbolReader) (grown_347 : Int) : Rx (Int × St_SymbolReader) :=
  grd (-(2 ^ 62) ≤ ((digits_345 - 1) : Int) ∧ ((digits_345 - 1) : Int) < 2 ^ 62) <| Rx.bind (forS (rng (0) (Int.toNat ((digits_345 - 1)))) ((self_346), (grown_347)) (fun s x => F_SymbolReader_number_b2  (s.1) (s.2) x)) fun s => F_SymbolReader_number_r2  (s.1) (s.2)

def F_SymbolReader_number (self' : St_SymbolReader) (base' : Int) : Rx (Int × St_SymbolReader) :=
  Rx.bind (F__check_contexts base' ((2 * 8))) fun v332 => Rx.bind (F_SymbolReader_unary (self') base' 20) fun v333 => Rx.bind (((if 0 < v333.1 then Rx.bind (noEr (F__digit_context base' v333.1)) fun v353 => Rx.bind (noEr (F_Decoder_read (v333.2.dec) v353)) fun v354 => bnd ((2 + v354.1)) fun grown_365 => .ok (((⟨v354.2⟩ : St_SymbolReader)), (grown_365)) else .ok ((v333.2), (1))) : Rx (St_SymbolReader × Int))) fun s => F_SymbolReader_number_k1 (v333.1) (s.1) (s.2)

def F__check_numbers_k7 (settings_482 : St_Settings) (header_483 : St_PictureHeader) : Rx Unit :=
  (if decide ((header_483.edge : Int) = 0) = true then Rx.bind (F__require true (("there is no edge without the filter" : Str))) fun v494 => .ok (()) else Rx.bind (F__require settings_482.deblock (("there is no edge without the filter" : Str))) fun v495 => .ok (()))

def F__check_numbers_k6 (settings_471 : St_Settings) (header_472 : St_PictureHeader) : Rx Unit :=
  Rx.bind (((if (-6) ≤ header_472.edge then Rx.bind (F__require (decide (header_472.edge ≤ 6)) (("the edge is from -6 to 6" : Str))) fun v487 => .ok () else Rx.bind (F__require false (("the edge is from -6 to 6" : Str))) fun v488 => .ok ()) : Rx Unit)) fun s => F__check_numbers_k7 (settings_471) (header_472) 

def F__check_numbers_k5 (settings_460 : St_Settings) (header_461 : St_PictureHeader) : Rx Unit :=
  Rx.bind (((if 0 ≤ header_461.layer then Rx.bind (F__require (decide (header_461.layer < settings_460.layers)) (("the layer is below the number of layers" : Str))) fun v476 => .ok () else Rx.bind (F__require false (("the layer is below the number of layers" : Str))) fun v477 => .ok ()) : Rx Unit)) fun s => F__check_numbers_k6 (settings_460) (header_461) 

def F__check_numbers_k4 (settings_449 : St_Settings) (header_450 : St_PictureHeader) : Rx Unit :=
  Rx.bind (((if decide ((header_450.weight : Int) = 8) = true then Rx.bind (F__require true (("only B pictures have a weight" : Str))) fun v465 => .ok () else Rx.bind (F__require (decide (V.str (header_450.kind) = V.str (("B" : Str)))) (("only B pictures have a weight" : Str))) fun v466 => .ok ()) : Rx Unit)) fun s => F__check_numbers_k5 (settings_449) (header_450) 

def F__check_numbers_k3 (settings_438 : St_Settings) (header_439 : St_PictureHeader) : Rx Unit :=
  Rx.bind (((if 0 ≤ header_439.weight then Rx.bind (F__require (decide (header_439.weight ≤ 16)) (("the weight is from 0 to 16" : Str))) fun v454 => .ok () else Rx.bind (F__require false (("the weight is from 0 to 16" : Str))) fun v455 => .ok ()) : Rx Unit)) fun s => F__check_numbers_k4 (settings_438) (header_439) 

def F__check_numbers_k2 (settings_429 : St_Settings) (header_430 : St_PictureHeader) : Rx Unit :=
  Rx.bind (((if 0 ≤ header_430.level then Rx.bind (F__require (decide (header_430.level ≤ 31)) (("the level is from 0 to 31" : Str))) fun v443 => .ok () else Rx.bind (F__require false (("the level is from 0 to 31" : Str))) fun v444 => .ok ()) : Rx Unit)) fun s => F__check_numbers_k3 (settings_429) (header_430) 

def F__check_numbers_k1 (settings_418 : St_Settings) (header_419 : St_PictureHeader) : Rx Unit :=
  Rx.bind ((Rx.bind (F__require (decide ((header_419.kind : Str) ∈ ([("I" : Str), ("P" : Str), ("B" : Str)] : List Str))) (("the kind of a picture is I, P or B" : Str))) fun v433 => .ok () : Rx Unit)) fun s => F__check_numbers_k2 (settings_418) (header_419) 

def F__check_numbers (settings' : St_Settings) (header' : St_PictureHeader) : Rx Unit :=
  Rx.bind (((if 0 ≤ header'.number then Rx.bind (F__require (decide (header'.number ≤ 999)) (("the number of a picture is from 0 to 999" : Str))) fun v423 => .ok () else Rx.bind (F__require false (("the number of a picture is from 0 to 999" : Str))) fun v424 => .ok ()) : Rx Unit)) fun s => F__check_numbers_k1 (settings') (header') 

def F__check_slots_b1 (settings_506 : St_Settings) (it524 : Int) : Rx Unit :=
  Rx.bind (F__require ((decide (0 ≤ it524) && decide (it524 < settings_506.slots))) (("there is no such slot" : Str))) fun v528 => .ok ()

def F__check_slots_r1 (header_507 : St_PictureHeader) : Rx Unit :=
  grd ((header_507.store : List Int).length ≤ 50) <| Rx.bind (F__require (decide ((header_507.store : (List Int)) = (sortSet (header_507.store)))) (("the slots of store ascend without duplicates" : Str))) fun v552 => grd (hasG ([("I", [0]), ("P", [1, 2]), ("B", [2])] : List (Str × List Int)) (header_507.kind) = true) <| Rx.bind (F__require (decide (((((header_507.refs) : (List Int)).length : Int) : Int) ∈ ((dictG ([("I", [0]), ("P", [1, 2]), ("B", [2])] : List (Str × List Int)) (header_507.kind)) : List Int))) (("the number of refs does not belong to the kind" : Str))) fun v554 => .ok (())

def F__check_slots (settings' : St_Settings) (header' : St_PictureHeader) : Rx Unit :=
  grd ((header'.store).length + (header'.refs).length ≤ 1000000) <| Rx.bind (forS ((header'.store) ++ (header'.refs)) () (fun s x => F__check_slots_b1 (settings')  x)) fun s => F__check_slots_r1 (header') 

def F_PictureHeader___init__ (settings' : St_Settings) (number' : Int) (kind' : Str) (level' : Int) (store' : (List Int)) (refs' : (List Int)) (weight' : Int) (layer' : Int) (shown' : Bool) (edge' : Int) : Rx St_PictureHeader :=
  Rx.bind (F__check_numbers (settings') ((⟨number', kind', level', store', refs', weight', layer', shown', edge'⟩ : St_PictureHeader))) fun v631 => Rx.bind (F__check_slots (settings') ((⟨number', kind', level', store', refs', weight', layer', shown', edge'⟩ : St_PictureHeader))) fun v638 => .ok (⟨number', kind', level', store', refs', weight', layer', shown', edge'⟩ : St_PictureHeader)

def F_MotionGrid___init___c1 (_width_660 : Int) (_height_661 : Int) (it692 : Int) : Rx (List PyData) :=
  grd (-(2 ^ 63) ≤ (_width_660 : Int) ∧ (_width_660 : Int) < 2 ^ 63 ∧ ([(encN (()))] : (List PyData)).length * Int.toNat (_width_660) ≤ 1000000) <| .ok (repL ([(encN (()))]) (_width_660))

def F_MotionGrid___init__ (columns' : Int) (rows' : Int) : Rx St_MotionGrid :=
  bnd ((2 * columns')) fun _width_645 => bnd ((2 * rows')) fun _height_652 => grd (-(2 ^ 62) ≤ (_height_652 : Int) ∧ (_height_652 : Int) < 2 ^ 62) <| Rx.bind (mapA (rng (0) (Int.toNat (_height_652))) [] (fun x => noEr (F_MotionGrid___init___c1 (_width_645) (_height_652) x))) fun v662 => .ok (⟨_width_645, _height_652, v662⟩ : St_MotionGrid)

def F_SymbolReader___init__ (decoder' : St_Decoder) : Rx St_SymbolReader :=
  .ok (⟨decoder'⟩ : St_SymbolReader)

def F__law_cell (script' : (List Int)) (k' : Int) : Rx Int :=
  (if k' < (((script') : (List Int)).length : Int) then grd (-((script' : (List Int)).length : Int) ≤ k' ∧ k' < ((script' : (List Int)).length : Int)) <| .ok ((itD (script') (k'))) else .ok (0))

def F_Format___init__ (width' : Int) (height' : Int) (depth' : Int) (chroma' : Int) : Rx St_Format :=
  (if 1 ≤ width' then (if width' ≤ 256 then (if 1 ≤ height' then (if height' ≤ 256 then (if 8 ≤ depth' then (if depth' ≤ 12 then (if 0 ≤ chroma' then (if chroma' ≤ 2 then .ok (⟨width', height', depth', chroma'⟩ : St_Format) else .er 1) else .er 1) else .er 1) else .er 1) else .er 1) else .er 1) else .er 1) else .er 1)

def F_Decoder___init___b1 (self_861 : St_Decoder) (it864 : Int) : Rx (St_Decoder) :=
  Rx.bind (F_Decoder__shift (self_861)) fun v865 => .ok (v865)

def F_Decoder___init___r1 (self_883 : St_Decoder) : Rx St_Decoder :=
  bnd ((if (4294967296 - 2) < self_883.value then (4294967296 - 2) else self_883.value)) fun _value_884 => .ok (⟨self_883.probs, self_883.octs, self_883.place, self_883.span, _value_884⟩ : St_Decoder)

def F_Decoder___init__ (octets' : (List Int)) : Rx St_Decoder :=
  grd (-(2 ^ 63) ≤ (256 : Int) ∧ (256 : Int) < 2 ^ 63 ∧ ([2048]).length * Int.toNat (256) ≤ 1000000) <| bnd ((4294967296 - 1)) fun _span_834 => Rx.bind (forS (rng (0) (Int.toNat (4))) ((⟨repL ([2048]) (256), octets', 0, _span_834, 0⟩ : St_Decoder)) (fun s x => F_Decoder___init___b1  s x)) fun s => F_Decoder___init___r1  s

def F__choice_digits (base' : Int) (count' : Int) : Rx Int :=
  (if 1 ≤ count' then (if count' ≤ 16 then bnd (((PySem.Builtin.Int.intBits ((count' - 1)) : Nat) : Int)) fun digits_895 => grd ((0 : Int) ≤ digits_895 ∧ (digits_895 : Int) ≤ 4096 ∧ -(2 ^ 4096) < (1 : Int) ∧ (1 : Int) < 2 ^ 4096) <| Rx.bind (F__check_contexts base' (((1 * 2 ^ Int.toNat (digits_895)) - 1))) fun v897 => .ok (digits_895) else .er 2) else .er 2)

def F_SymbolReader_choice_b1 (base_903 : Int) (self_924 : St_SymbolReader) (path_925 : Int) (it928 : Int) : Rx (St_SymbolReader × Int) :=
  Rx.bind (noEr (F_Decoder_read (self_924.dec) (((base_903 + path_925) - 1)))) fun v929 => bnd (((2 * path_925) + v929.1)) fun path_940 => .ok (((⟨v929.2⟩ : St_SymbolReader)), (path_940))

def F_SymbolReader_choice_r1 (count_904 : Int) (digits_905 : Int) (self_950 : St_SymbolReader) (path_951 : Int) : Rx (Int × St_SymbolReader) :=
  grd ((0 : Int) ≤ digits_905 ∧ (digits_905 : Int) ≤ 4096 ∧ -(2 ^ 4096) < (1 : Int) ∧ (1 : Int) < 2 ^ 4096) <| .ok ((if (count_904 - 1) < (path_951 - (1 * 2 ^ Int.toNat (digits_905))) then (count_904 - 1) else (path_951 - (1 * 2 ^ Int.toNat (digits_905)))), self_950)

def F_SymbolReader_choice (self' : St_SymbolReader) (base' : Int) (count' : Int) : Rx (Int × St_SymbolReader) :=
  Rx.bind (F__choice_digits base' count') fun v898 => grd (-(2 ^ 62) ≤ (v898 : Int) ∧ (v898 : Int) < 2 ^ 62) <| Rx.bind (forS (rng (0) (Int.toNat (v898))) ((self'), (1)) (fun s x => F_SymbolReader_choice_b1 (base') (s.1) (s.2) x)) fun s => F_SymbolReader_choice_r1 (count') (v898) (s.1) (s.2)

def F__law_vector (grid' : (List (List PyData))) (x' : Int) (y' : Int) (second' : Int) : Rx (Int × Int) :=
  (if x' < 0 then .ok ((0, 0)) else (if y' < 0 then .ok ((0, 0)) else (if (((grid') : (List (List PyData))).length : Int) ≤ y' then .ok ((0, 0)) else grd (-((grid' : (List (List PyData))).length : Int) ≤ 0 ∧ 0 < ((grid' : (List (List PyData))).length : Int)) <| (if ((((itD (grid') (0))) : (List PyData)).length : Int) ≤ x' then .ok ((0, 0)) else grd (-((grid' : (List (List PyData))).length : Int) ≤ y' ∧ y' < ((grid' : (List (List PyData))).length : Int)) <| grd (-(((itD (grid') (y')) : (List PyData)).length : Int) ≤ x' ∧ x' < (((itD (grid') (y')) : (List PyData)).length : Int)) <| (if (dNone ((itD ((itD (grid') (y'))) (x')))) = true then .ok ((0, 0)) else grd (-((grid' : (List (List PyData))).length : Int) ≤ y' ∧ y' < ((grid' : (List (List PyData))).length : Int)) <| grd (-(((itD (grid') (y')) : (List PyData)).length : Int) ≤ x' ∧ x' < (((itD (grid') (y')) : (List PyData)).length : Int)) <| grd ((0 : Int) ≤ (2 + second') ∧ dHasT ((itD ((itD (grid') (y'))) (x'))) (Int.toNat ((2 + second'))) = true) <| (if (dNone ((dGet ((itD ((itD (grid') (y'))) (x'))) (Int.toNat ((2 + second')))))) = true then .ok ((0, 0)) else grd (((cT2 cI cI)).ok ((dGet ((itD ((itD (grid') (y'))) (x'))) (Int.toNat ((2 + second'))))) = true) <| .ok ((((cT2 cI cI)).dec ((dGet ((itD ((itD (grid') (y'))) (x'))) (Int.toNat ((2 + second')))))))))))))

def F__law_median (values' : (List Int)) : Rx Int :=
  grd (-(((sortL (values')) : (List Int)).length : Int) ≤ 1 ∧ 1 < (((sortL (values')) : (List Int)).length : Int)) <| .ok ((itD ((sortL (values'))) (1)))

def F__law_predicted_c1 (it1231 : (Int × Int)) : Rx Int :=
  .ok it1231.1

def F__law_predicted_c2 (it1307 : (Int × Int)) : Rx Int :=
  .ok it1307.2

def F__law_predicted (grid' : (List (List PyData))) (x' : Int) (y' : Int) (second' : Int) : Rx (Int × Int) :=
  Rx.bind (F__law_vector (grid') ((x' - 1)) y' second') fun v1123 => Rx.bind (F__law_vector (grid') x' ((y' - 1)) second') fun v1139 => Rx.bind (F__law_vector (grid') ((x' - 1)) ((y' - 1)) second') fun v1155 => Rx.bind (mapA ([v1123, v1139, v1155]) [] (fun x => noEr (F__law_predicted_c1  x))) fun v1181 => Rx.bind (F__law_median (v1181)) fun v1252 => Rx.bind (mapA ([v1123, v1139, v1155]) [] (fun x => noEr (F__law_predicted_c2  x))) fun v1257 => Rx.bind (F__law_median (v1257)) fun v1328 => .ok ((v1252, v1328))

def F_SymbolReader_signed (self' : St_SymbolReader) (base' : Int) : Rx (Int × St_SymbolReader) :=
  Rx.bind (F_SymbolReader_number (self') base') fun v1344 => (if (v1344.1 : Int) = 0 then .ok (v1344.1, v1344.2) else Rx.bind (noEr (F_Decoder_read_even (v1344.2.dec))) fun v1357 => (if (v1357.1 : Int) = 1 then .ok ((-v1344.1), (⟨v1357.2⟩ : St_SymbolReader)) else .ok (v1344.1, (⟨v1357.2⟩ : St_SymbolReader))))

def F__law_due_b3 (grid_1451 : (List (List PyData))) (place_1452 : (Int × Int)) (direction_1453 : Int) (reader_1480 : St_SymbolReader) (vectors_1481 : (List PyData)) (it1484 : Int) : Rx (St_SymbolReader × (List PyData)) :=
  (if (direction_1453 : Int) = (1 - it1484) then .ok ((reader_1480), (vectors_1481)) else Rx.bind (noEr (F__law_predicted (grid_1451) place_1452.1 place_1452.2 it1484)) fun v1486 => Rx.bind (noEr (F_SymbolReader_signed (reader_1480) 25)) fun v1506 => bnd ((v1486.1 + v1506.1)) fun x_1518 => Rx.bind (noEr (F_SymbolReader_signed (v1506.2) 41)) fun v1519 => bnd ((v1486.2 + v1519.1)) fun y_1531 => grd (-((vectors_1481).length : Int) ≤ it1484 ∧ it1484 < ((vectors_1481).length : Int)) <| bnd (setL (vectors_1481) (it1484) (((encT2 PyData.int PyData.int) (((if (if x_1518 > (-1023) then x_1518 else (-1023)) < 1023 then (if x_1518 > (-1023) then x_1518 else (-1023)) else 1023), (if (if y_1531 > (-1023) then y_1531 else (-1023)) < 1023 then (if y_1531 > (-1023) then y_1531 else (-1023)) else 1023)))))) fun y1554 => .ok ((v1519.2), (y1554)))

def F__law_due_r3 (index_1454 : Int) (direction_1455 : Int) (reader_1569 : St_SymbolReader) (vectors_1570 : (List PyData)) : Rx ((Int × Int × PyData × PyData) × St_SymbolReader) :=
  grd (-((vectors_1570 : (List PyData)).length : Int) ≤ 0 ∧ 0 < ((vectors_1570 : (List PyData)).length : Int)) <| grd (-((vectors_1570 : (List PyData)).length : Int) ≤ 1 ∧ 1 < ((vectors_1570 : (List PyData)).length : Int)) <| .ok ((direction_1455, index_1454, (itD (vectors_1570) (0)), (itD (vectors_1570) (1))), reader_1569)

def F__law_due_k2 (grid_1409 : (List (List PyData))) (place_1410 : (Int × Int)) (index_1411 : Int) (reader_1412 : St_SymbolReader) (direction_1413 : Int) : Rx ((Int × Int × PyData × PyData) × St_SymbolReader) :=
  Rx.bind (forS (rng (0) (Int.toNat (2))) ((reader_1412), ([(encN (())), (encN (()))])) (fun s x => F__law_due_b3 (grid_1409) (place_1410) (direction_1413) (s.1) (s.2) x)) fun s => F__law_due_r3 (index_1411) (direction_1413) (s.1) (s.2)

def F__law_due_k1 (grid_1377 : (List (List PyData))) (place_1378 : (Int × Int)) (kind_1379 : Int) (direction_1380 : Int) (reader_1381 : St_SymbolReader) (index_1382 : Int) : Rx ((Int × Int × PyData × PyData) × St_SymbolReader) :=
  Rx.bind (((if (kind_1379 : Int) = 2 then Rx.bind (noEr (F_SymbolReader_choice (reader_1381) 20 3)) fun v1419 => .ok ((v1419.2), (v1419.1)) else .ok ((reader_1381), (direction_1380))) : Rx (St_SymbolReader × Int))) fun s => F__law_due_k2 (grid_1377) (place_1378) (index_1382) (s.1) (s.2)

def F__law_due (reader' : St_SymbolReader) (grid' : (List (List PyData))) (place' : (Int × Int)) (kind' : Int) (refs' : Int) : Rx ((Int × Int × PyData × PyData) × St_SymbolReader) :=
  Rx.bind (((if (kind' : Int) = 1 then (if (refs' : Int) = 2 then Rx.bind (F_SymbolReader_choice (reader') 24 2) fun v1389 => .ok ((v1389.2), (v1389.1)) else .ok ((reader'), (0))) else .ok ((reader'), (0))) : Rx (St_SymbolReader × Int))) fun s => F__law_due_k1 (grid') (place') (kind') (0) (s.1) (s.2)

def F_clip (value' : Int) (low' : Int) (high' : Int) : Rx Int :=
  .ok ((if high' < (if low' > value' then low' else value') then high' else (if low' > value' then low' else value')))

def F__clip_component (component' : Int) : Rx Int :=
  Rx.bind (F_clip component' ((-1023)) 1023) fun v1595 => .ok (v1595)

def F_clip_vector (x' : Int) (y' : Int) : Rx (Int × Int) :=
  Rx.bind (F__clip_component x') fun v1596 => Rx.bind (F__clip_component y') fun v1597 => .ok ((v1596, v1597))

def F__read_vector (reader' : St_SymbolReader) (predicted' : (Int × Int)) : Rx ((Int × Int) × St_SymbolReader) :=
  Rx.bind (F_SymbolReader_signed (reader') 25) fun v1616 => bnd ((predicted'.1 + v1616.1)) fun x_1628 => Rx.bind (noEr (F_SymbolReader_signed (v1616.2) 41)) fun v1629 => bnd ((predicted'.2 + v1629.1)) fun y_1641 => Rx.bind (noEr (F_clip_vector x_1628 y_1641)) fun v1642 => .ok (v1642, v1629.2)

def F__median (numbers' : (List Int)) : Rx Int :=
  grd (-(((sortL (numbers')) : (List Int)).length : Int) ≤ 1 ∧ 1 < (((sortL (numbers')) : (List Int)).length : Int)) <| .ok ((itD ((sortL (numbers'))) (1)))

def F_MotionGrid__has (self' : St_MotionGrid) (x' : Int) (y' : Int) : Rx Bool :=
  (if 0 ≤ x' then (if decide (x' < self'.width) = true then (if 0 ≤ y' then .ok (decide (y' < self'.height)) else .ok (false)) else .ok (false)) else .ok (false))

def F_MotionGrid_motion_at (self' : St_MotionGrid) (x' : Int) (y' : Int) : Rx PyData :=
  Rx.bind (F_MotionGrid__has (self') x' y') fun v1675 => (if v1675 = true then grd (-((self'.lines : (List (List PyData))).length : Int) ≤ y' ∧ y' < ((self'.lines : (List (List PyData))).length : Int)) <| grd (-(((itD (self'.lines) (y')) : (List PyData)).length : Int) ≤ x' ∧ x' < (((itD (self'.lines) (y')) : (List PyData)).length : Int)) <| .ok ((itD ((itD (self'.lines) (y'))) (x'))) else .ok ((encN (()))))

def F_MotionGrid__vector_at (self' : St_MotionGrid) (x' : Int) (y' : Int) (place' : Int) : Rx (Int × Int) :=
  Rx.bind (F_MotionGrid_motion_at (self') x' y') fun v1706 => (if (dNone (v1706)) = true then .ok ((0, 0)) else grd ((0 : Int) ≤ place' ∧ dHasT (v1706) (Int.toNat (place')) = true) <| (if (dNone ((dGet (v1706) (Int.toNat (place'))))) = true then .ok ((0, 0)) else grd ((0 : Int) ≤ place' ∧ dHasT (v1706) (Int.toNat (place')) = true) <| grd (((cT2 cI cI)).ok ((dGet (v1706) (Int.toNat (place')))) = true) <| .ok ((((cT2 cI cI)).dec ((dGet (v1706) (Int.toNat (place'))))))))

def F_MotionGrid_predicted_c1 (it1878 : (Int × Int)) : Rx Int :=
  .ok it1878.1

def F_MotionGrid_predicted_c2 (it1954 : (Int × Int)) : Rx Int :=
  .ok it1954.2

def F_MotionGrid_predicted (self' : St_MotionGrid) (x' : Int) (y' : Int) (second' : Bool) : Rx (Int × Int) :=
  bnd ((if second' = true then 3 else 2)) fun place_1769 => Rx.bind (F_MotionGrid__vector_at (self') ((x' - 1)) y' place_1769) fun v1770 => Rx.bind (F_MotionGrid__vector_at (self') x' ((y' - 1)) place_1769) fun v1786 => Rx.bind (F_MotionGrid__vector_at (self') ((x' - 1)) ((y' - 1)) place_1769) fun v1802 => Rx.bind (mapA ([v1770, v1786, v1802]) [] (fun x => noEr (F_MotionGrid_predicted_c1  x))) fun v1828 => Rx.bind (F__median (v1828)) fun v1899 => Rx.bind (mapA ([v1770, v1786, v1802]) [] (fun x => noEr (F_MotionGrid_predicted_c2  x))) fun v1904 => Rx.bind (F__median (v1904)) fun v1975 => .ok ((v1899, v1975))

def F_read_motion_k3 (direction_2102 : Int) (index_2103 : Int) (first_2104 : PyData) (reader_2105 : St_SymbolReader) (second_2106 : PyData) : Rx ((Int × Int × PyData × PyData) × St_SymbolReader) :=
  .ok ((direction_2102, index_2103, first_2104, second_2106), reader_2105)

def F_read_motion_k2 (grid_2038 : St_MotionGrid) (x_2039 : Int) (y_2040 : Int) (direction_2041 : Int) (index_2042 : Int) (second_2043 : PyData) (reader_2044 : St_SymbolReader) (first_2045 : PyData) : Rx ((Int × Int × PyData × PyData) × St_SymbolReader) :=
  Rx.bind (((if (direction_2041 : Int) = 0 then .ok ((reader_2044), (second_2043)) else Rx.bind (noEr (F_MotionGrid_predicted (grid_2038) x_2039 y_2040 true)) fun v2113 => Rx.bind (noEr (F__read_vector (reader_2044) (v2113))) fun v2133 => .ok ((v2133.2), (((encT2 PyData.int PyData.int) (v2133.1))))) : Rx (St_SymbolReader × PyData))) fun s => F_read_motion_k3 (direction_2041) (index_2042) (first_2045) (s.1) (s.2)

def F_read_motion_k1 (grid_1991 : St_MotionGrid) (x_1992 : Int) (y_1993 : Int) (reader_1994 : St_SymbolReader) (direction_1995 : Int) (index_1996 : Int) : Rx ((Int × Int × PyData × PyData) × St_SymbolReader) :=
  Rx.bind (((if (direction_1995 : Int) = 1 then .ok ((reader_1994), ((encN (())))) else Rx.bind (noEr (F_MotionGrid_predicted (grid_1991) x_1992 y_1993 false)) fun v2052 => Rx.bind (noEr (F__read_vector (reader_1994) (v2052))) fun v2072 => .ok ((v2072.2), (((encT2 PyData.int PyData.int) (v2072.1))))) : Rx (St_SymbolReader × PyData))) fun s => F_read_motion_k2 (grid_1991) (x_1992) (y_1993) (direction_1995) (index_1996) ((encN (()))) (s.1) (s.2)

def F_read_motion (reader' : St_SymbolReader) (header' : St_PictureHeader) (grid' : St_MotionGrid) (x' : Int) (y' : Int) : Rx ((Int × Int × PyData × PyData) × St_SymbolReader) :=
  Rx.bind (((if V.str (header'.kind) = V.str (("B" : Str)) then Rx.bind (F_SymbolReader_choice (reader') 20 3) fun v2003 => .ok ((v2003.2), (v2003.1), (0)) else (if ((((header'.refs) : (List Int)).length : Int) : Int) = 2 then Rx.bind (F_SymbolReader_choice (reader') 24 2) fun v2016 => .ok ((v2016.2), (0), (v2016.1)) else .ok ((reader'), (0), (0)))) : Rx (St_SymbolReader × Int × Int))) fun s => F_read_motion_k1 (grid') (x') (y') (s.1) (s.2.1) (s.2.2)

def F_MotionGrid_keep_quarter (self' : St_MotionGrid) (x' : Int) (y' : Int) (motion' : PyData) : Rx St_MotionGrid :=
  Rx.bind (F_MotionGrid__has (self') x' y') fun v2179 => (if v2179 = true then grd (-((self'.lines : (List (List PyData))).length : Int) ≤ y' ∧ y' < ((self'.lines : (List (List PyData))).length : Int)) <| grd (-(((itD (self'.lines) (y'))).length : Int) ≤ x' ∧ x' < (((itD (self'.lines) (y'))).length : Int)) <| bnd (setL (self'.lines) (y') (setL ((itD (self'.lines) (y'))) (x') (motion'))) fun y2216 => .ok (⟨self'.width, self'.height, y2216⟩ : St_MotionGrid) else .ok self')

def F__law_is_vector_b1 (it2246 : Int) : Rx (Lp Unit Bool) :=
  (if (-1023) ≤ it2246 then (if it2246 ≤ 1023 then .ok (.go ()) else .ok (.rt (false))) else .ok (.rt (false)))

def F__law_is_vector_r1  : Rx Bool :=
  .ok (true)

def F__law_is_vector (vector' : PyData) : Rx Bool :=
  (if (dTup (vector')) = true then grd (((cT2 cI cI)).ok (vector') = true) <| (if (2 : Int) = 2 then Rx.bind (forR ([(((cT2 cI cI)).dec (vector')).1, (((cT2 cI cI)).dec (vector')).2]) () (fun s x => F__law_is_vector_b1   x)) fun l => l.aft Rx.ok fun s => F__law_is_vector_r1   else .ok (false)) else .ok (false))

def F__law_is_motion (motion' : (Int × Int × PyData × PyData)) (kind' : Int) (refs' : Int) : Rx Bool :=
  (if (4 : Int) = 4 then (if (kind' : Int) = 1 then (if decide ((motion'.1 : Int) = 0) = true then (if 0 ≤ motion'.2.1 then (if decide (motion'.2.1 < refs') = true then Rx.bind (F__law_is_vector (motion'.2.2.1)) fun v2268 => (if v2268 = true then .ok ((dNone (motion'.2.2.2))) else .ok (false)) else .ok (false)) else .ok (false)) else .ok (false)) else (if (motion'.2.1 : Int) = 0 then (if 0 ≤ motion'.1 then (if motion'.1 ≤ 2 then (if (motion'.1 : Int) = 0 then Rx.bind (F__law_is_vector (motion'.2.2.1)) fun v2277 => (if v2277 = true then .ok ((dNone (motion'.2.2.2))) else .ok (false)) else (if (motion'.1 : Int) = 1 then (if (dNone (motion'.2.2.1)) = true then Rx.bind (F__law_is_vector (motion'.2.2.2)) fun v2284 => .ok (v2284) else .ok (false)) else Rx.bind (F__law_is_vector (motion'.2.2.1)) fun v2288 => (if v2288 = true then Rx.bind (F__law_is_vector (motion'.2.2.2)) fun v2293 => .ok (v2293) else .ok (false)))) else .ok (false)) else .ok (false)) else .ok (false))) else .ok (false))

def F_law_c3 (it2650 : Int) : Rx (List PyData) :=
  grd (-(2 ^ 63) ≤ (4 : Int) ∧ (4 : Int) < 2 ^ 63 ∧ ([(encN (()))] : (List PyData)).length * Int.toNat (4) ≤ 1000000) <| .ok (repL ([(encN (()))]) (4))

def F_law_b4 (kind_2831 : Int) (refs_2832 : Int) (header_2833 : St_PictureHeader) (grid_2998 : St_MotionGrid) (kept_2999 : (List (List PyData))) (reader_3000 : St_SymbolReader) (twin_3001 : St_SymbolReader) (it3004 : Int) : Rx (Lp (St_MotionGrid × (List (List PyData)) × St_SymbolReader × St_SymbolReader) Bool) :=
  Rx.bind (F__law_due (twin_3001) (kept_2999) (((it3004 % 4), ((it3004 / 4) % 4))) kind_2831 refs_2832) fun v3023 => Rx.bind (F_read_motion (reader_3000) (header_2833) (grid_2998) ((it3004 % 4)) (((it3004 / 4) % 4))) fun v3057 => Rx.bind (F__law_is_motion (v3057.1) kind_2831 refs_2832) fun v3081 => (if v3081 = true then grd (SeqAt.shaped (((encT4 PyData.int PyData.int encD encD) (v3057.1))) = true ∧ SeqAt.shaped (((encT4 PyData.int PyData.int encD encD) (v3023.1))) = true) <| (if (!PyData.eqv ((encT4 PyData.int PyData.int encD encD) (v3057.1)) ((encT4 PyData.int PyData.int encD encD) (v3023.1))) = true then .ok (.rt (false)) else Rx.bind (F_MotionGrid_motion_at (grid_2998) ((it3004 % 4)) (((it3004 / 4) % 4))) fun v3091 => grd (-((kept_2999 : (List (List PyData))).length : Int) ≤ ((it3004 / 4) % 4) ∧ ((it3004 / 4) % 4) < ((kept_2999 : (List (List PyData))).length : Int)) <| grd (-(((itD (kept_2999) (((it3004 / 4) % 4))) : (List PyData)).length : Int) ≤ (it3004 % 4) ∧ (it3004 % 4) < (((itD (kept_2999) (((it3004 / 4) % 4))) : (List PyData)).length : Int)) <| grd (SeqAt.shaped (v3091) = true ∧ SeqAt.shaped ((itD ((itD (kept_2999) (((it3004 / 4) % 4)))) ((it3004 % 4)))) = true) <| (if (!PyData.eqv v3091 (itD ((itD (kept_2999) (((it3004 / 4) % 4)))) ((it3004 % 4)))) = true then .ok (.rt (false)) else Rx.bind (F_MotionGrid_keep_quarter (grid_2998) ((it3004 % 4)) (((it3004 / 4) % 4)) (((encT4 PyData.int PyData.int encD encD) (v3057.1)))) fun v3132 => grd (-((kept_2999 : (List (List PyData))).length : Int) ≤ ((it3004 / 4) % 4) ∧ ((it3004 / 4) % 4) < ((kept_2999 : (List (List PyData))).length : Int)) <| grd (-(((itD (kept_2999) (((it3004 / 4) % 4)))).length : Int) ≤ (it3004 % 4) ∧ (it3004 % 4) < (((itD (kept_2999) (((it3004 / 4) % 4)))).length : Int)) <| bnd (setL (kept_2999) (((it3004 / 4) % 4)) (setL ((itD (kept_2999) (((it3004 / 4) % 4)))) ((it3004 % 4)) (((encT4 PyData.int PyData.int encD encD) (v3057.1))))) fun y3187 => .ok (.go ((v3132), (y3187), (v3057.2), (v3023.2))))) else .ok (.rt (false)))

def F_law_r4 (grid_3272 : St_MotionGrid) (kept_3273 : (List (List PyData))) (reader_3274 : St_SymbolReader) (twin_3275 : St_SymbolReader) : Rx Bool :=
  .ok (true)

def F_law_k2 (script_2515 : (List Int)) (kind_2516 : Int) (refs_2517 : Int) (header_2518 : St_PictureHeader) (octets_2519 : (List Int)) : Rx Bool :=
  Rx.bind (F_MotionGrid___init__ 2 2) fun v2582 => Rx.bind (mapA (rng (0) (Int.toNat (4))) [] (fun x => noEr (F_law_c3  x))) fun v2602 => Rx.bind (F_Decoder___init__ (octets_2519)) fun v2734 => Rx.bind (F_SymbolReader___init__ (v2734)) fun v2762 => Rx.bind (F_Decoder___init__ (octets_2519)) fun v2789 => Rx.bind (F_SymbolReader___init__ (v2789)) fun v2817 => Rx.bind (forR (cutL (script_2515) (some (2)) none) ((v2582), (v2602), ((⟨v2734⟩ : St_SymbolReader)), ((⟨v2789⟩ : St_SymbolReader))) (fun s x => F_law_b4 (kind_2516) (refs_2517) (header_2518) (s.1) (s.2.1) (s.2.2.1) (s.2.2.2) x)) fun l => l.aft Rx.ok fun s => F_law_r4  (s.1) (s.2.1) (s.2.2.1) (s.2.2.2)

def F_law_k1 (script_2452 : (List Int)) (draws_2453 : (List Int)) (kind_2454 : Int) (refs_2455 : Int) (header_2456 : St_PictureHeader) (octets_2457 : (List Int)) : Rx Bool :=
  Rx.bind ((grd (-((draws_2453 : (List Int)).length : Int) ≤ 3 ∧ 3 < ((draws_2453 : (List Int)).length : Int)) <| (if ((itD (draws_2453) (3)) : Int) = 2 then grd (-((draws_2453 : (List Int)).length : Int) ≤ 2 ∧ 2 < ((draws_2453 : (List Int)).length : Int)) <| grd (-(2 ^ 63) ≤ ((itD (draws_2453) (2)) : Int) ∧ ((itD (draws_2453) (2)) : Int) < 2 ^ 63 ∧ ([0]).length * Int.toNat ((itD (draws_2453) (2))) ≤ 1000000) <| .ok (repL ([0]) ((itD (draws_2453) (2)))) else .ok (octets_2457)) : Rx ((List Int)))) fun s => F_law_k2 (script_2452) (kind_2454) (refs_2455) (header_2456) s

def F_law (script' : (List Int)) : Rx Bool :=
  Rx.bind (F__law_cell (script') 0) fun v2297 => Rx.bind (F__law_draws v2297 ([2, 2, 31, 4])) fun v2307 => grd (-((v2307 : (List Int)).length : Int) ≤ 0 ∧ 0 < ((v2307 : (List Int)).length : Int)) <| bnd ((1 + (itD (v2307) (0)))) fun kind_2317 => grd (-((v2307 : (List Int)).length : Int) ≤ 1 ∧ 1 < ((v2307 : (List Int)).length : Int)) <| grd (-((v2307 : (List Int)).length : Int) ≤ 0 ∧ 0 < ((v2307 : (List Int)).length : Int)) <| grd (-(([(1 + (itD (v2307) (1))), 2] : (List Int)).length : Int) ≤ (itD (v2307) (0)) ∧ (itD (v2307) (0)) < (([(1 + (itD (v2307) (1))), 2] : (List Int)).length : Int)) <| bnd ((itD ([(1 + (itD (v2307) (1))), 2]) ((itD (v2307) (0))))) fun refs_2331 => Rx.bind (F_Format___init__ 16 16 8 0) fun v2343 => Rx.bind (F_Settings___init__ (v2343) 4 1 false false 1) fun v2360 => grd (-(([("I" : Str), ("P" : Str), ("B" : Str)] : (List Str)).length : Int) ≤ kind_2317 ∧ kind_2317 < (([("I" : Str), ("P" : Str), ("B" : Str)] : (List Str)).length : Int)) <| Rx.bind (F_PictureHeader___init__ ((⟨v2343, v2360.slots, v2360.rows, v2360.deblock, v2360.offset, v2360.layers⟩ : St_Settings)) 9 ((itD ([("I" : Str), ("P" : Str), ("B" : Str)]) (kind_2317))) 0 (([] : List Int)) (cutL ([3, 2]) none (some (refs_2331))) 8 0 true 0) fun v2407 => Rx.bind (F__law_cell (script') 1) fun v2421 => grd (-((v2307 : (List Int)).length : Int) ≤ 2 ∧ 2 < ((v2307 : (List Int)).length : Int)) <| grd (-(2 ^ 63) ≤ ((itD (v2307) (2)) : Int) ∧ ((itD (v2307) (2)) : Int) < 2 ^ 63 ∧ ([256]).length * Int.toNat ((itD (v2307) (2))) ≤ 1000000) <| Rx.bind (F__law_draws v2421 (repL ([256]) ((itD (v2307) (2))))) fun v2443 => Rx.bind ((grd (-((v2307 : (List Int)).length : Int) ≤ 3 ∧ 3 < ((v2307 : (List Int)).length : Int)) <| (if ((itD (v2307) (3)) : Int) = 1 then grd (-((v2307 : (List Int)).length : Int) ≤ 2 ∧ 2 < ((v2307 : (List Int)).length : Int)) <| grd (-(2 ^ 63) ≤ ((itD (v2307) (2)) : Int) ∧ ((itD (v2307) (2)) : Int) < 2 ^ 63 ∧ ([255]).length * Int.toNat ((itD (v2307) (2))) ≤ 1000000) <| .ok (repL ([255]) ((itD (v2307) (2)))) else .ok (v2443)) : Rx ((List Int)))) fun s => F_law_k1 (script') (v2307) (kind_2317) (refs_2331) ((⟨v2407.number, v2407.kind, v2407.level, v2407.store, v2407.refs, v2407.weight, v2407.layer, v2407.shown, v2407.edge⟩ : St_PictureHeader)) s
theorem cell_gv (s : List Int) (k : Int) (h : 0 ≤ k) : Gv (F__law_cell s k) (fun _ => True) := by
  unfold F__law_cell
  exact Gv.ite (fun c => Gv.grd ⟨by omega, c⟩ (.ok trivial)) fun _ => .ok trivial
def Inb : List Int → List Int → Prop
  | [], [] => True
  | v :: vs, l :: ls => 0 ≤ v ∧ v < l ∧ Inb vs ls
  | _, _ => False
theorem Inb.snoc : ∀ {vs ls : List Int} {y l : Int}, Inb vs ls → 0 ≤ y → y < l → Inb (vs ++ [y]) (ls ++ [l])
  | [], [], _, _, _, h0, h1 => ⟨h0, h1, trivial⟩
  | _ :: _, _ :: _, _, _, h, h0, h1 => ⟨h.1, h.2.1, Inb.snoc h.2.2 h0 h1⟩
  | [], _ :: _, _, _, h, _, _ => h.elim
  | _ :: _, [], _, _, h, _, _ => h.elim
theorem Inb.len : ∀ {vs ls : List Int}, Inb vs ls → vs.length = ls.length
  | [], [], _ => rfl
  | _ :: _, _ :: _, h => congrArg Nat.succ (Inb.len h.2.2)
  | [], _ :: _, h => h.elim
  | _ :: _, [], h => h.elim
theorem Inb.cons {v ls : List Int} {l : Int} (h : Inb v (l :: ls)) : ∃ a r, v = a :: r ∧ 0 ≤ a ∧ a < l ∧ Inb r ls := by
  cases v with
  | nil => exact h.elim
  | cons a r => exact ⟨a, r, rfl, h.1, h.2.1, h.2.2⟩
theorem Inb.nil {v : List Int} (h : Inb v []) : v = [] := by
  cases v with
  | nil => rfl
  | cons a r => exact h.elim
theorem draws_gv (cell : Int) (limits : List Int) (hl : ∀ l ∈ limits, 0 < l ∧ l < 18446744073709551616) (hn : limits.length ≤ 1000000) : Gv (F__law_draws cell limits) (fun v => Inb v limits) := by
  unfold F__law_draws
  refine Gv.bnd fun rest _ => Gv.bnd fun state _ => Gv.bnd fun free _ => Gv.bind (Gv.forS (P := fun i s => Inb s.1 (limits.take i)) ?_ fun i x s hx p => ?_) fun s p => .ok ?_
  · rw [List.take_zero]
    trivial
  · have hb0 := hl x (List.mem_of_getElem? hx)
    have hb : 0 < x ∧ x < 2 ^ 128 := ⟨hb0.1, by omega⟩
    have hlen := p.len
    have hi := get_len hx
    rw [List.length_take] at hlen
    have nx : ∀ y : Int, 0 ≤ y → y < x → Inb (s.1 ++ [y]) (limits.take (i + 1)) := fun y h0 h1 => by
      rw [take_succ_get hx]
      exact p.snoc h0 h1
    unfold F__law_draws_b1
    refine Gv.ite (fun _ => Gv.ite (fun _ => Gv.grd hb.1 (Gv.grd (by omega) (Gv.bnd fun y hy => Gv.grd ⟨hb.1, hb.2⟩ (Gv.bnd fun _ _ => .ok ?_)))) fun _ => Gv.bnd fun _ _ => Gv.bnd fun _ _ => Gv.grd hb.1 (Gv.grd (by omega) (Gv.bnd fun y hy => .ok ?_))) fun _ => Gv.bnd fun _ _ => Gv.bnd fun _ _ => Gv.grd hb.1 (Gv.grd (by omega) (Gv.bnd fun y hy => .ok ?_))
    · subst hy
      exact nx _ (Int.emod_nonneg _ (by omega)) (Int.emod_lt_of_pos _ hb.1)
    · subst hy
      exact nx _ (Int.emod_nonneg _ (by omega)) (Int.emod_lt_of_pos _ hb.1)
    · subst hy
      exact nx _ (Int.emod_nonneg _ (by omega)) (Int.emod_lt_of_pos _ hb.1)
  · rw [List.take_length] at p
    exact p
theorem ixg {xs : List Int} {k : Int} {n : Nat} (e : xs.length = n) (h : -(n : Int) ≤ k ∧ k < n) : -(xs.length : Int) ≤ k ∧ k < xs.length := by
  rw [e]
  exact h
theorem itD_lit {xs : List Int} {a k : Int} (n : Nat) (e : k = (n : Int)) (h : xs[n]? = some a) : itD xs k = a := by
  subst e
  have hl := get_len h
  unfold itD atI ixN
  rw [if_pos (by omega), if_pos (by omega)]
  show (xs[n]?).getD default = a
  rw [h]
  rfl
/-- where the law has no encoder of its own -/
structure St_Encoder where
  probs : List Int
  front : List Int
  low : Int
  span : Int
deriving DecidableEq
namespace Pu
theorem len_rep1 {α : Type} (a : α) (k : Int) : (repL [a] k).length = k.toNat := by
  unfold repL
  simp
theorem mem_rep1 {α : Type} {a x : α} {k : Int} (h : x ∈ repL [a] k) : x = a := by
  unfold repL at h
  simp at h
  exact h.2
theorem itD_nat {α : Type} [Inhabited α] {e : List α} {k : Nat} {x : α} (h : e[k]? = some x) : itD e (k : Int) = x := by
  unfold itD atI ixN
  have hk := (List.getElem?_eq_some_iff.mp h).1
  rw [if_pos (by omega), if_pos (by omega)]
  simp [h]
theorem itD_mem {α : Type} [Inhabited α] {e : List α} {k : Int} (h : -(e.length : Int) ≤ k ∧ k < e.length) : itD e k ∈ e := by
  obtain ⟨j, hj, hl⟩ := ixN_some h
  unfold itD atI
  rw [hj]
  show (e[j]?).getD default ∈ e
  rw [List.getElem?_eq_getElem hl]
  exact List.getElem_mem hl
abbrev EncS := St_Encoder
def adaptE (p d : Int) : Int := if d = 0 then p + (4096 - p) / 32 else p - p / 32
theorem adaptE_in {p d : Int} (h : 31 ≤ p ∧ p ≤ 4065) : 31 ≤ adaptE p d ∧ adaptE p d ≤ 4065 := by
  unfold adaptE
  split <;> omega
def num (xs : List Int) : Int := xs.foldl (fun a x => a * 256 + x) 0
theorem num_snoc (xs : List Int) (x : Int) : num (xs ++ [x]) = num xs * 256 + x := by
  unfold num
  rw [List.foldl_append] <;> rfl
def incR : List Int → List Int
  | [] => []
  | x :: r => if x = 255 then 0 :: incR r else (x + 1) :: r
def incE (xs : List Int) : List Int := (incR xs.reverse).reverse
theorem incR_rep (x : Int) (r : List Int) (hx : x ≠ 255) : ∀ j : Nat, incR (List.replicate j 255 ++ x :: r) = List.replicate j 0 ++ (x + 1) :: r
  | 0 => by simp [incR, hx]
  | j + 1 => by
    rw [List.replicate_succ, List.cons_append, incR, if_pos rfl, incR_rep x r hx j, List.replicate_succ, List.cons_append]
theorem incE_mid {A : List Int} {x : Int} {j : Nat} (hx : x ≠ 255) : incE (A ++ [x] ++ List.replicate j 255) = A ++ [x + 1] ++ List.replicate j 0 := by
  unfold incE
  rw [show (A ++ [x] ++ List.replicate j (255 : Int)).reverse = List.replicate j 255 ++ x :: A.reverse by simp, incR_rep x _ hx]
  simp
theorem mid_in {F A : List Int} {x pl : Int} {j : Nat} (h : F = A ++ [x] ++ List.replicate j 0) (hp : pl = (A.length : Int)) : -(F.length : Int) ≤ pl ∧ pl < F.length := by
  subst h hp
  simp only [List.length_append, List.length_cons, List.length_nil, List.length_replicate]
  omega
theorem get_mid {α : Type} {A R : List α} {x : α} : (A ++ [x] ++ R)[A.length]? = some x := by simp
theorem mid_at {F A : List Int} {x pl : Int} {j : Nat} (h : F = A ++ [x] ++ List.replicate j 0) (hp : pl = (A.length : Int)) : itD F pl = x := by
  subst h hp
  exact itD_nat get_mid
theorem ixN_nat' {n j : Nat} (hj : j < n) : ixN n (j : Int) = some j := by
  unfold ixN
  rw [if_pos (by omega), if_pos (by omega)]
  simp
theorem setL_mid {A R : List Int} {x y : Int} : setL (A ++ [x] ++ R) (A.length : Int) y = A ++ [y] ++ R := by
  unfold setL
  rw [ixN_nat' (by simp)]
  simp
theorem all255 {F : List Int} {j : Nat} (h : ∃ y ∈ F, y ≠ 255) (e : F = List.replicate j 255) : False := by
  obtain ⟨y, hy, hn⟩ := h
  rw [e] at hy
  exact hn (List.eq_of_mem_replicate hy)
theorem carry_start {F : List Int} (h : ∃ y ∈ F, y ≠ 255) : ∃ (A : List Int) (x : Int) (j : Nat), F = A ++ [x] ++ List.replicate j 255 ∧ F = A ++ [x] ++ List.replicate j 0 ∧ ((F.length : Int) - 1) = (A.length : Int) := by
  have hn : F ≠ [] := by
    obtain ⟨y, hy, _⟩ := h
    intro z
    rw [z] at hy
    cases hy
  refine ⟨F.dropLast, F.getLast hn, 0, ?_, ?_, ?_⟩
  · rw [List.dropLast_concat_getLast]
    simp
  · rw [List.dropLast_concat_getLast]
    simp
  · have := List.length_pos_iff.mpr hn
    rw [List.length_dropLast]
    omega
theorem carry_A {F A : List Int} {x : Int} {j : Nat} (h : ∃ y ∈ F, y ≠ 255) (e : F = A ++ [x] ++ List.replicate j 255) (hx : x = 255) : A ≠ [] := by
  intro z
  subst z hx
  refine all255 (j := j + 1) h ?_
  rw [e, List.replicate_succ] <;> rfl
theorem carry_turn {F F' A : List Int} {x pl : Int} {j : Nat} (h : ∃ y ∈ F, y ≠ 255) (e : F = A ++ [x] ++ List.replicate j 255) (e' : F' = A ++ [x] ++ List.replicate j 0) (hp : pl = (A.length : Int)) (hx : x = 255) :
    ∃ (B : List Int) (y : Int) (k : Nat), F = B ++ [y] ++ List.replicate k 255 ∧ setL F' pl 0 = B ++ [y] ++ List.replicate k 0 ∧ pl - 1 = (B.length : Int) := by
  have hA := carry_A h e hx
  refine ⟨A.dropLast, A.getLast hA, j + 1, ?_, ?_, ?_⟩
  · rw [e, hx, List.dropLast_concat_getLast hA, List.replicate_succ]
    simp
  · rw [e', hp, setL_mid, List.dropLast_concat_getLast hA, List.replicate_succ]
    simp
  · have := List.length_pos_iff.mpr hA
    rw [hp, List.length_dropLast]
    omega
theorem carry_less {F A : List Int} {x pl : Int} {j : Nat} (h : ∃ y ∈ F, y ≠ 255) (e : F = A ++ [x] ++ List.replicate j 255) (hp : pl = (A.length : Int)) (hx : x = 255) : (pl - 1).toNat < pl.toNat := by
  have := List.length_pos_iff.mpr (carry_A h e hx)
  omega
theorem carry_end {F F' A : List Int} {x pl : Int} {j : Nat} (e : F = A ++ [x] ++ List.replicate j 255) (e' : F' = A ++ [x] ++ List.replicate j 0) (hp : pl = (A.length : Int)) (hx : x ≠ 255) : setL F' pl (itD F' pl + 1) = incE F := by
  rw [mid_at e' hp, e', hp, setL_mid, e, incE_mid hx]

def encInit : EncS := ⟨repL [2048] 256, [], 0, 4294967296 - 1⟩
def encPre (e : EncS) (p d : Int) : EncS :=
  if d = 0 then ⟨e.probs, e.front, e.low, e.span / 4096 * p⟩
  else if 4294967296 ≤ e.low + e.span / 4096 * p then ⟨e.probs, incE e.front, e.low + e.span / 4096 * p - 4294967296, e.span - e.span / 4096 * p⟩
  else ⟨e.probs, e.front, e.low + e.span / 4096 * p, e.span - e.span / 4096 * p⟩
def encNorm1 (e : EncS) : EncS := ⟨e.probs, e.front ++ [e.low / 16777216], e.low * 256 % 4294967296, e.span * 256⟩
def encNorm (e : EncS) : EncS := if e.span < 16777216 then encNorm1 e else e
def encNarrow (e : EncS) (p d : Int) : EncS := encNorm (encPre e p d)
def encCode (e : EncS) (c d : Int) : EncS := ⟨setL (encNarrow e (itD e.probs c) d).probs c (adaptE (itD e.probs c) d), (encNarrow e (itD e.probs c) d).front, (encNarrow e (itD e.probs c) d).low, (encNarrow e (itD e.probs c) d).span⟩
structure EncMid (e : EncS) : Prop where
  oct : ∀ x ∈ e.front, 0 ≤ x ∧ x ≤ 255
  low : 0 ≤ e.low ∧ e.low < 4294967296
  span0 : 0 < e.span
  span : 65536 ≤ e.span ∧ e.span < 4294967296
  fit : num e.front * 4294967296 + e.low + e.span ≤ 256 ^ e.front.length * 4294967296
structure EncG (e : EncS) : Prop where
  len : e.probs.length = 256
  prob : ∀ p ∈ e.probs, 31 ≤ p ∧ p ≤ 4065
  mid : EncMid e
  big : 16777216 ≤ e.span
theorem EncG.chance {e : EncS} (h : EncG e) {c : Int} (h0 : 0 ≤ c) (h1 : c < 256) : 31 ≤ itD e.probs c ∧ itD e.probs c ≤ 4065 := h.prob _ (itD_mem (by rw [h.len]; omega))
theorem part_in {s p : Int} (hs : 16777216 ≤ s ∧ s < 4294967296) (hp : 31 ≤ p ∧ p ≤ 4065) : 65536 ≤ s / 4096 * p ∧ 65536 ≤ s - s / 4096 * p := by
  have h1 : 4096 ≤ s / 4096 := by omega
  have h2 : s / 4096 * 4096 ≤ s := by omega
  have a : s / 4096 * 31 ≤ s / 4096 * p := Int.mul_le_mul_of_nonneg_left hp.1 (by omega)
  have b : s / 4096 * p ≤ s / 4096 * 4065 := Int.mul_le_mul_of_nonneg_left hp.2 (by omega)
  omega
theorem snocInd {α : Type} {motive : List α → Prop} (nil : motive []) (snoc : ∀ xs x, motive xs → motive (xs ++ [x])) (xs : List α) : motive xs := by
  have : ∀ l : List α, motive l.reverse := by
    intro l
    induction l with
    | nil => exact nil
    | cons x r ih =>
      rw [List.reverse_cons]
      exact snoc _ _ ih
  have h := this xs.reverse
  rwa [List.reverse_reverse] at h
theorem num_nn : ∀ {xs : List Int}, (∀ x ∈ xs, 0 ≤ x ∧ x ≤ 255) → 0 ≤ num xs := by
  intro xs
  induction xs using snocInd with
  | nil => intro _; decide
  | snoc xs x ih =>
    intro h
    rw [num_snoc]
    have h1 := ih fun y hy => h y (List.mem_append_left _ hy)
    have h2 := h x (List.mem_append_right _ List.mem_cons_self)
    omega
theorem inc_len (xs : List Int) : (incE xs).length = xs.length := by
  have : ∀ l : List Int, (incR l).length = l.length := by
    intro l
    induction l with
    | nil => rfl
    | cons x r ih =>
      unfold incR
      split
      · rw [List.length_cons, List.length_cons, ih]
      · rfl
  unfold incE
  rw [List.length_reverse, this, List.length_reverse]
theorem split255 : ∀ {xs : List Int}, (∃ y ∈ xs, y ≠ 255) → ∃ (A : List Int) (x : Int) (j : Nat), xs = A ++ [x] ++ List.replicate j 255 ∧ x ≠ 255 := by
  intro xs
  induction xs using snocInd with
  | nil => rintro ⟨y, hy, _⟩; cases hy
  | snoc xs x ih =>
    intro h
    by_cases hx : x = 255
    · subst hx
      obtain ⟨y, hy, hn⟩ := h
      have : ∃ y ∈ xs, y ≠ 255 := by
        rcases List.mem_append.mp hy with z | z
        · exact ⟨y, z, hn⟩
        · simp at z
          exact absurd z hn
      obtain ⟨A, x, j, e, hx⟩ := ih this
      refine ⟨A, x, j + 1, ?_, hx⟩
      rw [e, List.replicate_succ', List.append_assoc]
    · exact ⟨xs, x, 0, by simp, hx⟩
theorem num_rep (A : List Int) (x : Int) : ∀ j : Nat, num (A ++ [x + 1] ++ List.replicate j 0) = num (A ++ [x] ++ List.replicate j 255) + 1
  | 0 => by simp [num_snoc]; omega
  | j + 1 => by
    rw [List.replicate_succ', List.replicate_succ', ← List.append_assoc, ← List.append_assoc, num_snoc, num_snoc, num_rep A x j]
    omega
theorem inc_num {xs : List Int} (h : ∃ y ∈ xs, y ≠ 255) : num (incE xs) = num xs + 1 := by
  obtain ⟨A, x, j, e, hx⟩ := split255 h
  rw [e, incE_mid hx, num_rep]
theorem inc_oct {xs : List Int} (h : ∃ y ∈ xs, y ≠ 255) (ho : ∀ x ∈ xs, 0 ≤ x ∧ x ≤ 255) : ∀ x ∈ incE xs, 0 ≤ x ∧ x ≤ 255 := by
  obtain ⟨A, x, j, e, hx⟩ := split255 h
  subst e
  rw [incE_mid hx]
  intro y hy
  have hxo := ho x (by simp)
  simp at hy
  rcases hy with z | z | z
  · exact ho y (by simp [z])
  · omega
  · omega
theorem num_all255 : ∀ {xs : List Int}, (∀ y ∈ xs, y = 255) → num xs = 256 ^ xs.length - 1 := by
  intro xs
  induction xs using snocInd with
  | nil => intro _; decide
  | snoc xs x ih =>
    intro h
    rw [num_snoc, ih fun y hy => h y (List.mem_append_left _ hy), h x (List.mem_append_right _ List.mem_cons_self), List.length_append, List.length_cons, List.length_nil, Int.pow_succ]
    omega
theorem carry_pre {e : EncS} (h : EncG e) {p : Int} (hp : 31 ≤ p ∧ p ≤ 4065) (c : 4294967296 ≤ e.low + e.span / 4096 * p) : ∃ y ∈ e.front, y ≠ 255 := by
  by_cases z : ∃ y ∈ e.front, y ≠ 255
  · exact z
  · have a : ∀ y ∈ e.front, y = 255 := fun y hy => by
      by_cases q : y = 255
      · exact q
      · exact absurd ⟨y, hy, q⟩ z
    have n := num_all255 a
    have f := h.mid.fit
    have q := part_in ⟨h.big, h.mid.span.2⟩ hp
    rw [n] at f
    have : (256 ^ e.front.length - 1 : Int) * 4294967296 = 256 ^ e.front.length * 4294967296 - 4294967296 := by rw [Int.sub_mul]; omega
    omega
theorem encPre_ok {e : EncS} (h : EncG e) {p : Int} (hp : 31 ≤ p ∧ p ≤ 4065) (d : Int) : EncMid (encPre e p d) := by
  have q := part_in ⟨h.big, h.mid.span.2⟩ hp
  have f := h.mid.fit
  have l := h.mid.low
  have s := h.mid.span
  unfold encPre
  split
  · exact ⟨h.mid.oct, l, by show 0 < e.span / 4096 * p; omega, by show 65536 ≤ e.span / 4096 * p ∧ e.span / 4096 * p < 4294967296; omega, by show num e.front * 4294967296 + e.low + e.span / 4096 * p ≤ 256 ^ e.front.length * 4294967296; omega⟩
  · split
    · rename_i c
      have cp := carry_pre h hp c
      refine ⟨inc_oct cp h.mid.oct, ?_, ?_, ?_, ?_⟩
      · show 0 ≤ e.low + e.span / 4096 * p - 4294967296 ∧ e.low + e.span / 4096 * p - 4294967296 < 4294967296
        omega
      · show 0 < e.span - e.span / 4096 * p
        omega
      · show 65536 ≤ e.span - e.span / 4096 * p ∧ e.span - e.span / 4096 * p < 4294967296
        omega
      · show num (incE e.front) * 4294967296 + (e.low + e.span / 4096 * p - 4294967296) + (e.span - e.span / 4096 * p) ≤ 256 ^ (incE e.front).length * 4294967296
        rw [inc_num cp, inc_len]
        omega
    · refine ⟨h.mid.oct, ?_, ?_, ?_, ?_⟩
      · show 0 ≤ e.low + e.span / 4096 * p ∧ e.low + e.span / 4096 * p < 4294967296
        omega
      · show 0 < e.span - e.span / 4096 * p
        omega
      · show 65536 ≤ e.span - e.span / 4096 * p ∧ e.span - e.span / 4096 * p < 4294967296
        omega
      · show num e.front * 4294967296 + (e.low + e.span / 4096 * p) + (e.span - e.span / 4096 * p) ≤ 256 ^ e.front.length * 4294967296
        omega
theorem norm_span {e : EncS} (h : EncMid e) : 16777216 ≤ (encNorm1 e).span := by
  have := h.span
  show 16777216 ≤ e.span * 256
  omega
theorem shl32 {i j : Int} (h : 0 ≤ i ∧ i < 4294967296) (hj : 0 ≤ j ∧ j ≤ 64) : CShl i j := by
  obtain ⟨k, rfl⟩ := Int.eq_ofNat_of_zero_le hj.1
  exact shl_ok (n := 64) (by omega) (by omega)
theorem encNorm_eq (e : EncS) : (⟨e.probs, e.front ++ [e.low / 16777216], PySem.Builtin.bitAnd (e.low * 256) (4294967296 - 1), e.span * 256⟩ : EncS) = encNorm1 e := by
  unfold encNorm1
  rw [show (4294967296 - 1 : Int) = 4294967295 by decide, bitAnd_m32] <;> rfl
theorem norm_ok {e : EncS} (h : EncMid e) : EncMid (encNorm e) ∧ 16777216 ≤ (encNorm e).span := by
  unfold encNorm
  split
  · rename_i c
    have l := h.low
    have s := h.span
    have f := h.fit
    refine ⟨⟨?_, ?_, ?_, ?_, ?_⟩, norm_span h⟩
    · intro x hx
      rcases List.mem_append.mp hx with z | z
      · exact h.oct x z
      · simp at z
        omega
    · show 0 ≤ e.low * 256 % 4294967296 ∧ e.low * 256 % 4294967296 < 4294967296
      omega
    · show 0 < e.span * 256
      omega
    · show 65536 ≤ e.span * 256 ∧ e.span * 256 < 4294967296
      omega
    · show num (e.front ++ [e.low / 16777216]) * 4294967296 + e.low * 256 % 4294967296 + e.span * 256 ≤ 256 ^ (e.front ++ [e.low / 16777216]).length * 4294967296
      rw [num_snoc, List.length_append, List.length_cons, List.length_nil, Int.pow_succ]
      have e1 : (num e.front * 256 + e.low / 16777216) * 4294967296 + e.low * 256 % 4294967296 = (num e.front * 4294967296 + e.low) * 256 := by omega
      have e2 : (256 : Int) ^ e.front.length * 256 * 4294967296 = 256 ^ e.front.length * 4294967296 * 256 := by rw [Int.mul_right_comm]
      rw [e1, e2]
      omega
  · exact ⟨h, by omega⟩
theorem probs_pre (e : EncS) (p d : Int) : (encPre e p d).probs = e.probs := by
  unfold encPre
  split
  · rfl
  · split <;> rfl
theorem len_pre (e : EncS) (p d : Int) : (encPre e p d).front.length = e.front.length := by
  unfold encPre
  split
  · rfl
  · split
    · exact inc_len _
    · rfl
theorem len_narrow (e : EncS) (p d : Int) : (encNarrow e p d).front.length ≤ e.front.length + 1 := by
  have := len_pre e p d
  unfold encNarrow encNorm
  split
  · show ((encPre e p d).front ++ [(encPre e p d).low / 16777216]).length ≤ e.front.length + 1
    rw [List.length_append, List.length_cons, List.length_nil]
    omega
  · omega
theorem probs_narrow (e : EncS) (p d : Int) : (encNarrow e p d).probs = e.probs := by
  unfold encNarrow encNorm
  split
  · exact probs_pre e p d
  · exact probs_pre e p d
theorem narrow_ok {e : EncS} (h : EncG e) {p : Int} (hp : 31 ≤ p ∧ p ≤ 4065) (d : Int) : EncG (encNarrow e p d) := by
  obtain ⟨m, b⟩ := norm_ok (encPre_ok h hp d)
  exact ⟨by rw [probs_narrow]; exact h.len, by rw [probs_narrow]; exact h.prob, m, b⟩
theorem even_ok {e : EncS} (h : EncG e) (d : Int) : EncG (encNarrow e 2048 d) := narrow_ok h (by decide) d
theorem setL_len {α : Type} (xs : List α) (k : Int) (y : α) : (setL xs k y).length = xs.length := by
  unfold setL
  rw [List.length_set]
theorem setL_mem {α : Type} {xs : List α} {k : Int} {x y : α} (h : x ∈ setL xs k y) : x ∈ xs ∨ x = y := by
  unfold setL at h
  exact List.mem_or_eq_of_mem_set h
theorem code_ok {e : EncS} (h : EncG e) {c d : Int} (h0 : 0 ≤ c) (h1 : c < 256) : EncG (encCode e c d) := by
  have hc := h.chance h0 h1
  have n := narrow_ok h hc d
  refine ⟨?_, ?_, ⟨n.mid.oct, n.mid.low, n.mid.span0, n.mid.span, n.mid.fit⟩, n.big⟩
  · show (setL _ _ _).length = 256
    rw [setL_len]
    exact n.len
  · intro p hp
    rcases setL_mem hp with z | z
    · exact n.prob p z
    · rw [z]
      exact adaptE_in hc
theorem init_ok : EncG encInit := by
  refine ⟨by decide, fun p hp => ?_, ⟨fun x hx => (by cases hx), by decide, by decide, by decide, by decide⟩, by decide⟩
  rw [mem_rep1 hp]
  decide
/-! the octets -/
def stripZ (xs : List Int) : List Int := (xs.reverse.dropWhile (fun x => decide (x = 0))).reverse
def digits4 (n : Int) : List Int := ([24, 16, 8, 0] : List Int).map (fun k => PySem.Builtin.bitAnd (n / 2 ^ Int.toNat k) 255)
def encOctets (e : EncS) : List Int := stripZ (e.front ++ digits4 e.low)
theorem shifts_nn {k : Int} (h : k ∈ ([24, 16, 8, 0] : List Int)) : 0 ≤ k := by
  simp at h
  omega
theorem last_in {xs : List Int} (h : xs ≠ []) : -(xs.length : Int) ≤ -1 ∧ -1 < (xs.length : Int) := by
  have := List.length_pos_iff.mpr h
  omega
theorem itD_last {xs : List Int} (h : xs ≠ []) : itD xs (-1) = xs.getLast h := by
  unfold itD atI ixN
  have := List.length_pos_iff.mpr h
  rw [if_neg (by omega), if_pos (by omega)]
  have e : (-1 + (xs.length : Int)).toNat = xs.length - 1 := by omega
  show (xs[(-1 + (xs.length : Int)).toNat]?).getD default = _
  rw [e, ← List.getLast?_eq_getElem?, List.getLast?_eq_some_getLast h] <;> rfl
theorem strip_pop {xs : List Int} (h : xs ≠ []) (hz : itD xs (-1) = 0) : stripZ xs.dropLast = stripZ xs := by
  rw [itD_last h] at hz
  unfold stripZ
  have e : xs.reverse = 0 :: xs.dropLast.reverse := by
    conv => lhs; rw [← List.dropLast_concat_getLast h, List.reverse_append, hz]
    rfl
  rw [e, List.dropWhile_cons, if_pos (by decide)]
theorem drop_less {xs : List Int} (h : xs ≠ []) : xs.dropLast.length < xs.length := by
  have := List.length_pos_iff.mpr h
  rw [List.length_dropLast]
  omega
theorem strip_nil : stripZ [] = [] := rfl
theorem strip_last {xs : List Int} (h : xs ≠ []) (hz : ¬ itD xs (-1) = 0) : stripZ xs = xs := by
  rw [itD_last h] at hz
  unfold stripZ
  have e : xs.reverse = xs.getLast h :: xs.dropLast.reverse := by
    conv => lhs; rw [← List.dropLast_concat_getLast h, List.reverse_append]
    rfl
  rw [e, List.dropWhile_cons, if_neg (by simpa using hz), ← e, List.reverse_reverse]
theorem strip_done {xs : List Int} (h : xs = [] ∨ ¬ itD xs (-1) = 0) : stripZ xs = xs := by
  by_cases n : xs = []
  · rw [n] <;> rfl
  · rcases h with z | z
    · exact absurd z n
    · exact strip_last n z
abbrev DecS := St_Decoder
structure DecO (d : DecS) : Prop where
  place : 0 ≤ d.place
  oct : ∀ x ∈ d.octs, 0 ≤ x ∧ x ≤ 255
def decOct (d : DecS) : Int := if d.place < (d.octs.length : Int) then itD d.octs d.place else 0
def decShift (d : DecS) : DecS := ⟨d.probs, d.octs, if d.place < (d.octs.length : Int) then d.place + 1 else d.place, d.span, d.value * 256 + decOct d⟩
def decPre (d : DecS) (p : Int) : DecS :=
  if d.value < d.span / 4096 * p then ⟨d.probs, d.octs, d.place, d.span / 4096 * p, d.value⟩ else ⟨d.probs, d.octs, d.place, d.span - d.span / 4096 * p, d.value - d.span / 4096 * p⟩
def decBit (d : DecS) (p : Int) : Int := if d.value < d.span / 4096 * p then 0 else 1
def decNorm1 (d : DecS) : DecS := ⟨(decShift d).probs, (decShift d).octs, (decShift d).place, (decShift d).span * 256, (decShift d).value⟩
def decNorm (d : DecS) : DecS := if d.span < 16777216 then decNorm1 d else d
def decDecide (d : DecS) (p : Int) : DecS := decNorm (decPre d p)
def decRead (d : DecS) (c : Int) : DecS := ⟨setL (decDecide d (itD d.probs c)).probs c (adaptE (itD d.probs c) (decBit d (itD d.probs c))), (decDecide d (itD d.probs c)).octs, (decDecide d (itD d.probs c)).place, (decDecide d (itD d.probs c)).span, (decDecide d (itD d.probs c)).value⟩
def decBlank (o : List Int) : DecS := ⟨repL [2048] 256, o, 0, 4294967296 - 1, 0⟩
def decShifts : Nat → DecS → DecS
  | 0, d => d
  | n + 1, d => decShift (decShifts n d)
def decInit (o : List Int) : DecS := ⟨(decShifts 4 (decBlank o)).probs, (decShifts 4 (decBlank o)).octs, (decShifts 4 (decBlank o)).place, (decShifts 4 (decBlank o)).span, if 4294967296 - 2 < (decShifts 4 (decBlank o)).value then 4294967296 - 2 else (decShifts 4 (decBlank o)).value⟩
structure DecG (d : DecS) : Prop where
  o : DecO d
  len : d.probs.length = 256
  prob : ∀ p ∈ d.probs, 31 ≤ p ∧ p ≤ 4065
  span : 16777216 ≤ d.span ∧ d.span < 4294967296
  value : 0 ≤ d.value ∧ d.value < d.span
structure DecMid (d : DecS) : Prop where
  o : DecO d
  len : d.probs.length = 256
  prob : ∀ p ∈ d.probs, 31 ≤ p ∧ p ≤ 4065
  span : 65536 ≤ d.span ∧ d.span < 4294967296
  value : 0 ≤ d.value ∧ d.value < d.span
theorem DecG.chance {d : DecS} (h : DecG d) {c : Int} (h0 : 0 ≤ c) (h1 : c < 256) : 31 ≤ itD d.probs c ∧ itD d.probs c ≤ 4065 := h.prob _ (itD_mem (by rw [h.len]; omega))
theorem ite01 {p : Prop} [Decidable p] (h : (if p then (0 : Int) else 1) = 0) : p := by
  by_cases c : p
  · exact c
  · rw [if_neg c] at h
    exact absurd h (by decide)
theorem ite10 {p : Prop} [Decidable p] (h : ¬ (if p then (0 : Int) else 1) = 0) : ¬ p := by
  intro c
  rw [if_pos c] at h
  exact h rfl
theorem low_or {v o : Int} (h : 0 ≤ v) (h0 : 0 ≤ o) (h1 : o ≤ 255) : PySem.Builtin.bitOr (v * 256) o = v * 256 + o := by
  obtain ⟨a, rfl⟩ := Int.eq_ofNat_of_zero_le h
  obtain ⟨b, rfl⟩ := Int.eq_ofNat_of_zero_le h0
  have z : (a * 256) &&& b = 0 := by
    apply Nat.eq_of_testBit_eq
    intro i
    rw [Nat.testBit_and, Nat.zero_testBit, show a * 256 = a * 2 ^ 8 from rfl, Nat.testBit_mul_two_pow]
    by_cases hi : 8 ≤ i
    · have e : b.testBit i = false := Nat.testBit_lt_two_pow (Nat.lt_of_lt_of_le (by omega : b < 2 ^ 8) (Nat.pow_le_pow_right (by decide) hi))
      rw [e, Bool.and_false]
    · simp [hi]
  rw [PyProof.Rows.bitOr_and, PyProof.Rows.bitAnd_pp (by omega) (by omega)]
  rw [show ((a : Int) * 256).toNat = a * 256 from by omega, show ((b : Int)).toNat = b from rfl, z]
  exact Int.sub_zero _
theorem oct_in {d : DecS} (h : DecO d) : 0 ≤ decOct d ∧ decOct d ≤ 255 := by
  unfold decOct
  split
  · exact h.oct _ (itD_mem (by have := h.place; omega))
  · decide
theorem shift_in {d : DecS} (c : d.place < (d.octs.length : Int)) (h : DecO d) (hv : 0 ≤ d.value) : decShift d = ⟨d.probs, d.octs, d.place + 1, d.span, PySem.Builtin.bitOr (d.value * 256) (itD d.octs d.place)⟩ := by
  have ho := oct_in h
  unfold decShift decOct at *
  rw [if_pos c] at *
  rw [low_or hv ho.1 ho.2]
  simp [c]
theorem shift_out {d : DecS} (c : ¬ d.place < (d.octs.length : Int)) (hv : 0 ≤ d.value) : decShift d = ⟨d.probs, d.octs, d.place, d.span, PySem.Builtin.bitOr (d.value * 256) 0⟩ := by
  unfold decShift decOct
  rw [if_neg c, if_neg c]
  rw [low_or hv (by decide) (by decide)]
theorem decPre_ok {d : DecS} (h : DecG d) {p : Int} (hp : 31 ≤ p ∧ p ≤ 4065) : DecMid (decPre d p) := by
  have hi := part_in h.span hp
  have hv := h.value
  have hs := h.span
  unfold decPre
  split
  · exact ⟨⟨h.o.place, h.o.oct⟩, h.len, h.prob, ⟨hi.1, by show d.span / 4096 * p < 4294967296; omega⟩, ⟨hv.1, by show d.value < d.span / 4096 * p; omega⟩⟩
  · exact ⟨⟨h.o.place, h.o.oct⟩, h.len, h.prob, ⟨hi.2, by show d.span - d.span / 4096 * p < 4294967296; omega⟩, ⟨by show 0 ≤ d.value - d.span / 4096 * p; omega, by show d.value - d.span / 4096 * p < d.span - d.span / 4096 * p; omega⟩⟩
theorem shift_o {d : DecS} (h : DecO d) : DecO (decShift d) := by
  refine ⟨?_, h.oct⟩
  have := h.place
  show 0 ≤ (if d.place < (d.octs.length : Int) then d.place + 1 else d.place)
  split <;> omega
theorem decNorm_ok {d : DecS} (h : DecMid d) : DecG (decNorm d) := by
  have hv := h.value
  have hs := h.span
  have ho := oct_in h.o
  unfold decNorm
  split
  · exact ⟨⟨(shift_o h.o).place, (shift_o h.o).oct⟩, h.len, h.prob, ⟨by show 16777216 ≤ d.span * 256; omega, by show d.span * 256 < 4294967296; omega⟩, ⟨by show 0 ≤ d.value * 256 + decOct d; omega, by show d.value * 256 + decOct d < d.span * 256; omega⟩⟩
  · exact ⟨h.o, h.len, h.prob, ⟨by omega, hs.2⟩, hv⟩
theorem decide_ok {d : DecS} (h : DecG d) {p : Int} (hp : 31 ≤ p ∧ p ≤ 4065) : DecG (decDecide d p) := decNorm_ok (decPre_ok h hp)
theorem probs_decide (d : DecS) (p : Int) : (decDecide d p).probs = d.probs := by
  unfold decDecide decNorm decPre
  split <;> split <;> rfl
theorem bit_in (d : DecS) (p : Int) : 0 ≤ decBit d p ∧ decBit d p ≤ 1 := by
  unfold decBit
  split <;> decide
theorem read_ok {d : DecS} (h : DecG d) {c : Int} (h0 : 0 ≤ c) (h1 : c < 256) : DecG (decRead d c) := by
  have hp := h.chance h0 h1
  have hd := decide_ok h hp
  refine ⟨⟨hd.o.place, hd.o.oct⟩, ?_, fun p hm => ?_, hd.span, hd.value⟩
  · show (setL _ c _).length = 256
    rw [setL_len]
    exact hd.len
  · rcases setL_mem hm with z | z
    · exact hd.prob p z
    · rw [z]
      exact adaptE_in hp
theorem blank_ok {o : List Int} (h : ∀ x ∈ o, 0 ≤ x ∧ x ≤ 255) : DecO (decBlank o) := ⟨Int.le_refl 0, h⟩
theorem shifts_ok {d : DecS} (h : DecO d) (hv : d.value = 0) : ∀ n : Nat, DecO (decShifts n d) ∧ 0 ≤ (decShifts n d).value ∧ (decShifts n d).value < 256 ^ n
  | 0 => ⟨h, by show 0 ≤ d.value; omega, by show d.value < 1; omega⟩
  | n + 1 => by
    have ih := shifts_ok h hv n
    have ho := oct_in ih.1
    refine ⟨shift_o ih.1, ?_, ?_⟩
    · show 0 ≤ (decShifts n d).value * 256 + decOct (decShifts n d)
      omega
    · show (decShifts n d).value * 256 + decOct (decShifts n d) < 256 ^ (n + 1)
      rw [Int.pow_succ]
      omega
theorem shifts_probs (d : DecS) : ∀ n : Nat, (decShifts n d).probs = d.probs
  | 0 => rfl
  | n + 1 => shifts_probs d n
theorem shifts_span (d : DecS) : ∀ n : Nat, (decShifts n d).span = d.span
  | 0 => rfl
  | n + 1 => shifts_span d n
theorem shifts_octs (d : DecS) : ∀ n : Nat, (decShifts n d).octs = d.octs
  | 0 => rfl
  | n + 1 => shifts_octs d n
theorem pow_turn {i : Nat} (hi : i < 4) {v : Int} (h : v < 256 ^ i) : v < 4294967296 := by
  have : (256 : Int) ^ i ≤ 256 ^ 3 := by
    have := Nat.pow_le_pow_right (n := 256) (by decide) (show i ≤ 3 by omega)
    exact_mod_cast this
  omega
theorem decInit_ok {o : List Int} (h : ∀ x ∈ o, 0 ≤ x ∧ x ≤ 255) : DecG (decInit o) := by
  have hs := shifts_ok (blank_ok h) rfl 4
  refine ⟨⟨hs.1.place, hs.1.oct⟩, ?_, ?_, ?_, ?_⟩
  · show (decShifts 4 (decBlank o)).probs.length = 256
    rw [shifts_probs]
    exact init_ok.len
  · show ∀ p ∈ (decShifts 4 (decBlank o)).probs, _
    rw [shifts_probs]
    exact init_ok.prob
  · show 16777216 ≤ (decShifts 4 (decBlank o)).span ∧ (decShifts 4 (decBlank o)).span < 4294967296
    rw [shifts_span]
    show (16777216 : Int) ≤ 4294967296 - 1 ∧ (4294967296 - 1 : Int) < 4294967296
    decide
  · show 0 ≤ (if 4294967296 - 2 < (decShifts 4 (decBlank o)).value then 4294967296 - 2 else (decShifts 4 (decBlank o)).value) ∧ (if 4294967296 - 2 < (decShifts 4 (decBlank o)).value then 4294967296 - 2 else (decShifts 4 (decBlank o)).value) < (decShifts 4 (decBlank o)).span
    rw [shifts_span]
    show _ ∧ _ < (4294967296 - 1 : Int)
    have := hs.2
    split <;> omega
def ItemsOk (items : List (Int × Int)) : Prop := ∀ it ∈ items, (-1 ≤ it.1 ∧ it.1 ≤ 255) ∧ 0 ≤ it.2 ∧ it.2 ≤ 1
def encItem (e : EncS) (it : Int × Int) : EncS := if 0 ≤ it.1 then encCode e it.1 it.2 else encNarrow e 2048 it.2
def encItems (e : EncS) (items : List (Int × Int)) : EncS := items.foldl encItem e
theorem items_turn {e : EncS} {items : List (Int × Int)} {i : Nat} {it : Int × Int} {e' : EncS} (hi : items[i]? = some it) (h : encItem (encItems e (items.take i)) it = e') : e' = encItems e (items.take (i + 1)) := by
  unfold encItems at h ⊢
  rw [take_succ_get hi, List.foldl_append, ← h] <;> rfl
theorem len_code (e : EncS) (c d : Int) : (encCode e c d).front.length ≤ e.front.length + 1 := len_narrow e _ d
theorem item_ok {e : EncS} {it : Int × Int} (h : EncG e) (hi : (-1 ≤ it.1 ∧ it.1 ≤ 255) ∧ 0 ≤ it.2 ∧ it.2 ≤ 1) : EncG (encItem e it) := by
  unfold encItem
  split
  · exact code_ok h (by omega) (by omega)
  · exact even_ok h _
theorem item_len (e : EncS) (it : Int × Int) : (encItem e it).front.length ≤ e.front.length + 1 := by
  unfold encItem
  split
  · exact len_code _ _ _
  · exact len_narrow _ _ _
theorem items_ok : ∀ {items : List (Int × Int)} {e : EncS}, EncG e → ItemsOk items → EncG (encItems e items)
  | [], _, h, _ => h
  | it :: r, e, h, hi => items_ok (items := r) (item_ok h (hi it List.mem_cons_self)) fun x hx => hi x (List.mem_cons_of_mem _ hx)
theorem items_len : ∀ (items : List (Int × Int)) (e : EncS), (encItems e items).front.length ≤ e.front.length + items.length
  | [], e => Nat.le_refl _
  | it :: r, e => by
    have h1 := item_len e it
    have h2 := items_len r (encItem e it)
    have h3 : encItems e (it :: r) = encItems (encItem e it) r := rfl
    rw [h3, List.length_cons]
    omega
theorem items_app (e : EncS) (xs ys : List (Int × Int)) : encItems e (xs ++ ys) = encItems (encItems e xs) ys := by
  unfold encItems
  rw [List.foldl_append]
structure CodeN (e : EncS) (low span count : Int) : Prop where
  low : low = num e.front * 4294967296 + e.low
  span : span = e.span
  count : count = (e.front.length : Int)
structure CodeR (e : EncS) (chances : List Int) (low span count : Int) : Prop where
  toN : CodeN e low span count
  chances : chances = e.probs ++ [2048]
theorem codeR_init : CodeR encInit (repL [2048] 257) 0 (4294967296 - 1) 0 := ⟨⟨rfl, rfl, rfl⟩, by decide⟩
theorem itD_app {e : List Int} {a c : Int} (h0 : 0 ≤ c) (h1 : c < e.length) : itD (e ++ [a]) c = itD e c := by
  obtain ⟨k, rfl⟩ := Int.eq_ofNat_of_zero_le h0
  have hk : k < e.length := by omega
  rw [itD_nat (List.getElem?_eq_getElem hk), itD_nat (x := e[k]) (by rw [List.getElem?_append_left hk, List.getElem?_eq_getElem hk])]
theorem itD_end {e : List Int} {a : Int} : itD (e ++ [a]) (-1) = a := by
  rw [itD_last (by simp), List.getLast_append] <;> simp
theorem setL_app {e : List Int} {a c y : Int} (h0 : 0 ≤ c) (h1 : c < e.length) : setL (e ++ [a]) c y = setL e c y ++ [a] := by
  obtain ⟨k, rfl⟩ := Int.eq_ofNat_of_zero_le h0
  have hk : k < e.length := by omega
  unfold setL
  rw [ixN_nat' hk, ixN_nat' (by rw [List.length_append]; omega)]
  exact List.set_append_left _ _ hk
theorem codeR_chance {e : EncS} {chances : List Int} {low span count c : Int} (hg : EncG e) (hr : CodeR e chances low span count) (hc : -1 ≤ c ∧ c ≤ 255) :
    (-(chances.length : Int) ≤ c ∧ c < chances.length) ∧ 31 ≤ itD chances c ∧ itD chances c ≤ 4065 := by
  have hl := hg.len
  refine ⟨by rw [hr.chances, List.length_append, hl]; simp; omega, ?_⟩
  rw [hr.chances]
  by_cases h : 0 ≤ c
  · rw [itD_app h (by omega)]
    exact hg.chance h (by omega)
  · rw [show c = -1 from by omega, itD_end]
    decide
theorem codeN_pre {e : EncS} {p d low span count low' span' : Int} (hg : EncG e) (hp : 31 ≤ p ∧ p ≤ 4065) (h : CodeN e low span count) (hl : low' = if d = 0 then low else low + span / 4096 * p)
    (hs : span' = if d = 0 then span / 4096 * p else span - span / 4096 * p) : CodeN (encPre e p d) low' span' count := by
  have h1 := h.low
  have h2 := h.span
  have h3 := h.count
  unfold encPre
  split
  · rw [if_pos ‹_›] at hl hs
    exact ⟨by rw [hl, h1], by rw [hs, h2], h3⟩
  · rw [if_neg ‹_›] at hl hs
    split
    · have hy := carry_pre hg hp ‹_›
      have hn := inc_num hy
      rw [h2] at hl hs
      exact ⟨by show low' = num (incE e.front) * 4294967296 + (e.low + e.span / 4096 * p - 4294967296); rw [hl, hn, h1, Int.add_mul]; omega, hs, by show count = ((incE e.front).length : Int); rw [inc_len]; exact h3⟩
    · rw [h2] at hl hs
      exact ⟨by show low' = num e.front * 4294967296 + (e.low + e.span / 4096 * p); rw [hl, h1]; omega, hs, h3⟩
theorem codeN_norm {e : EncS} {low span count : Int} (h : CodeN e low span count) : CodeN (encNorm1 e) (low * 256) (span * 256) (count + 1) := by
  have h1 := h.low
  have h2 := h.span
  have h3 := h.count
  refine ⟨?_, by rw [h2]; rfl, by show count + 1 = (((e.front ++ [e.low / 16777216]).length : Nat) : Int); rw [List.length_append]; simp; omega⟩
  show low * 256 = num (e.front ++ [e.low / 16777216]) * 4294967296 + e.low * 256 % 4294967296
  rw [num_snoc]
  omega
theorem codeN_turn {em : EncS} {low span count cn0 low' span' count' : Int} {i : Nat} (hm : EncMid em) (h : CodeN (if i = 0 then em else encNorm em) low span count) (h0 : cn0 ≤ count) (h1 : count ≤ cn0 + 1) (h2 : i = 0 → count = cn0)
    (hs : (span < 16777216 ∧ low' = low * 256 ∧ span' = span * 256 ∧ count' = count + 1) ∨ (¬ span < 16777216 ∧ low' = low ∧ span' = span ∧ count' = count)) :
    CodeN (if i + 1 = 0 then em else encNorm em) low' span' count' ∧ cn0 ≤ count' ∧ count' ≤ cn0 + 1 ∧ (i + 1 = 0 → count' = cn0) := by
  rw [if_neg (by omega)]
  have hb := (norm_ok hm).2
  by_cases hi : i = 0
  · rw [if_pos hi] at h
    have hc := h2 hi
    have hsp := h.span
    rcases hs with ⟨a, rfl, rfl, rfl⟩ | ⟨a, rfl, rfl, rfl⟩
    · have e1 : encNorm em = encNorm1 em := if_pos (by omega)
      rw [e1]
      exact ⟨codeN_norm h, by omega, by omega, by omega⟩
    · have e1 : encNorm em = em := if_neg (by omega)
      rw [e1]
      exact ⟨h, by omega, by omega, by omega⟩
  · rw [if_neg hi] at h
    have hsp := h.span
    rcases hs with ⟨a, rfl, rfl, rfl⟩ | ⟨a, rfl, rfl, rfl⟩
    · omega
    · exact ⟨h, by omega, by omega, by omega⟩
def codeChances (chances : List Int) (c d : Int) : List Int := if 0 ≤ c then setL chances c (adaptE (itD chances c) d) else chances
theorem codeR_turn {items : List (Int × Int)} {i : Nat} {item : Int × Int} {chances chances' : List Int} {low span count low' span' count' : Int} {em : EncS} (hi : items[i]? = some item) (hg : EncG (encItems encInit (items.take i)))
    (hr : CodeR (encItems encInit (items.take i)) chances low span count) (hit : (-1 ≤ item.1 ∧ item.1 ≤ 255) ∧ 0 ≤ item.2 ∧ item.2 ≤ 1)
    (hme : em = encPre (encItems encInit (items.take i)) (itD chances item.1) item.2) (hc : codeChances chances item.1 item.2 = chances') (hn : CodeN (encNorm em) low' span' count') :
    CodeR (encItems encInit (items.take (i + 1))) chances' low' span' count' := by
  have hl := hg.len
  rw [← items_turn hi rfl]
  generalize encItems encInit (items.take i) = e at *
  rw [hr.chances] at hc hme
  unfold encItem
  unfold codeChances at hc
  by_cases h : 0 ≤ item.1
  · rw [if_pos h] at hc ⊢
    rw [itD_app h (by omega)] at hc hme
    rw [setL_app h (by omega)] at hc
    rw [hme] at hn
    refine ⟨⟨hn.low, hn.span, hn.count⟩, ?_⟩
    rw [← hc]
    show _ = setL (encNarrow e (itD e.probs item.1) item.2).probs item.1 _ ++ [2048]
    rw [probs_narrow]
  · rw [if_neg h] at hc ⊢
    rw [show item.1 = -1 from by omega, itD_end] at hme
    rw [hme] at hn
    refine ⟨hn, ?_⟩
    rw [← hc, probs_narrow]
def digs (n : Int) (k : Nat) : List Int := (List.range k).map fun j => n / 2 ^ (8 * (k - 1 - j)) % 256
theorem digs_snoc (n x : Int) (k : Nat) (hx : 0 ≤ x ∧ x ≤ 255) : digs (n * 256 + x) (k + 1) = digs n k ++ [x] := by
  unfold digs
  rw [List.range_succ, List.map_append]
  congr 1
  · apply List.map_congr_left
    intro j hj
    have hj := List.mem_range.mp hj
    show (n * 256 + x) / 2 ^ (8 * (k + 1 - 1 - j)) % 256 = n / 2 ^ (8 * (k - 1 - j)) % 256
    rw [show 8 * (k + 1 - 1 - j) = 8 + 8 * (k - 1 - j) from by omega, Int.pow_add, ← Int.ediv_ediv_of_nonneg (by decide)]
    rw [show (n * 256 + x) / 2 ^ 8 = n from by omega]
  · show [(n * 256 + x) / 2 ^ (8 * (k + 1 - 1 - k)) % 256] = [x]
    rw [show 8 * (k + 1 - 1 - k) = 0 from by omega]
    congr 1
    simp
    omega
theorem digs_num : ∀ {xs : List Int}, (∀ x ∈ xs, 0 ≤ x ∧ x ≤ 255) → digs (num xs) xs.length = xs := by
  intro xs
  refine snocInd (motive := fun xs => (∀ x ∈ xs, 0 ≤ x ∧ x ≤ 255) → digs (num xs) xs.length = xs) (fun _ => rfl) (fun ys y ih h => ?_) xs
  rw [num_snoc, List.length_append]
  show digs _ (ys.length + 1) = _
  rw [digs_snoc _ _ _ (h y (by simp)), ih fun x hx => h x (by simp [hx])]
theorem digits4_eq {n : Int} : digits4 n = [n / 16777216 % 256, n / 65536 % 256, n / 256 % 256, n % 256] := by
  unfold digits4
  simp only [List.map_cons, List.map_nil, bitAnd_m8]
  simp
theorem digits4_len (n : Int) : (digits4 n).length = 4 := rfl
theorem code_digits {e : EncS} (h : EncMid e) : digs (num e.front * 4294967296 + e.low) (e.front.length + 4) = e.front ++ digits4 e.low := by
  have ho : ∀ x ∈ e.front ++ digits4 e.low, 0 ≤ x ∧ x ≤ 255 := by
    intro x hx
    rcases List.mem_append.mp hx with z | z
    · exact h.oct x z
    · rw [digits4_eq] at z
      simp only [List.mem_cons, List.not_mem_nil, or_false] at z
      omega
  have hl := h.low
  have hd := digs_num ho
  rw [List.length_append, digits4_len] at hd
  rw [← hd]
  congr 1
  rw [digits4_eq, show e.front ++ [e.low / 16777216 % 256, e.low / 65536 % 256, e.low / 256 % 256, e.low % 256] = e.front ++ [e.low / 16777216 % 256] ++ [e.low / 65536 % 256] ++ [e.low / 256 % 256] ++ [e.low % 256] from by simp]
  rw [num_snoc, num_snoc, num_snoc, num_snoc]
  omega
theorem ne_len {xs : List Int} (h : 0 < (xs.length : Int)) : xs ≠ [] := by
  intro z
  rw [z] at h
  simp at h
theorem nil_len {xs : List Int} (h : ¬ 0 < (xs.length : Int)) : xs = [] := by
  cases xs with
  | nil => rfl
  | cons a r => exact absurd (by rw [List.length_cons]; omega) h
theorem code_oct {e : EncS} {low span count : Int} (hm : EncMid e) (hn : CodeN e low span count) :
    (List.range (count + 4).toNat).map (fun (j : Nat) => PySem.Builtin.bitAnd (low / 2 ^ Int.toNat (8 * (count + 3 - (0 + (j : Int))))) 255) = e.front ++ digits4 e.low := by
  rw [← code_digits hm, hn.low, hn.count]
  unfold digs
  rw [show ((e.front.length : Int) + 4).toNat = e.front.length + 4 from by omega]
  apply List.map_congr_left
  intro j hj
  have hj := List.mem_range.mp hj
  rw [bitAnd_m8, show Int.toNat (8 * ((e.front.length : Int) + 3 - (0 + (j : Int)))) = 8 * (e.front.length + 4 - 1 - j) from by omega]
theorem strip_len (xs : List Int) : (stripZ xs).length ≤ xs.length := by
  unfold stripZ
  rw [List.length_reverse]
  have h := (List.dropWhile_sublist (fun x => decide (x = 0)) (l := xs.reverse)).length_le
  rw [List.length_reverse] at h
  exact h
theorem oct_turn {octets o E : List Int} {i : Nat} {count : Int} (hs : stripZ octets = E) (hl : octets = E ∨ (octets.length : Int) + i ≤ count + 4)
    (h : (octets ≠ [] ∧ itD octets (-1) = 0 ∧ o = octets.dropLast) ∨ ((¬ itD octets (-1) = 0 ∨ octets = []) ∧ o = octets)) : stripZ o = E ∧ (o = E ∨ (o.length : Int) + ((i + 1 : Nat) : Int) ≤ count + 4) := by
  rcases h with ⟨h1, h2, rfl⟩ | ⟨h1, rfl⟩
  · have e1 := strip_pop h1 h2
    have e2 := drop_less h1
    have e3 := strip_len octets.dropLast
    refine ⟨e1.trans hs, .inr ?_⟩
    rcases hl with z | z
    · rw [e1, hs, ← z] at e3
      omega
    · omega
  · have e1 := strip_done (xs := o) (by rcases h1 with z | z; exact .inr z; exact .inl z)
    exact ⟨hs, .inl (e1.symm.trans hs)⟩
theorem oct_end {octets E : List Int} {count : Int} (hs : stripZ octets = E) (hl : octets = E ∨ (octets.length : Int) + ((count + 4).toNat : Int) ≤ count + 4) (hc : 0 ≤ count) : octets = E := by
  rcases hl with z | z
  · exact z
  · have e : octets = [] := nil_len (by omega)
    rw [← hs, e]
    rfl
theorem chances_cut {e : EncS} {chances : List Int} {low span count : Int} (hg : EncG e) (hr : CodeR e chances low span count) : cutL chances none (some 256) = e.probs := by
  rw [hr.chances]
  have hl := hg.len
  unfold cutL
  rw [HT.sIx_none, show (256 : Int) = ((256 : Nat) : Int) from rfl, HT.sIx_nat, List.length_append, hl]
  show List.take 256 (List.drop 0 (e.probs ++ [2048])) = e.probs
  rw [List.drop_zero, List.take_append_of_le_length (by omega), List.take_of_length_le (by omega)]
def decItem (d : DecS) (it : Int × Int) : DecS := if 0 ≤ it.1 then decRead d it.1 else decDecide d 2048
def decItemBit (d : DecS) (it : Int × Int) : Int := if 0 ≤ it.1 then decBit d (itD d.probs it.1) else decBit d 2048
def accO (o : List Int) : Nat → Int
  | 0 => 0
  | k + 1 => accO o k * 256 + (o[k]?).getD 0
def bigL (e : EncS) : Int := num e.front * 4294967296 + e.low
def vAt (E e : EncS) : Int := bigL E / 256 ^ (E.front.length - e.front.length)
structure Within (E e : EncS) : Prop where
  n : e.front.length ≤ E.front.length
  lo : bigL e ≤ vAt E e
  hi : vAt E e < bigL e + e.span
theorem codeN_self (e : EncS) : CodeN e (bigL e) e.span (e.front.length : Int) := ⟨rfl, rfl, rfl⟩
theorem within_self {E : EncS} (h : 0 < E.span) : Within E E := by
  have e : vAt E E = bigL E := by
    unfold vAt
    rw [Nat.sub_self]
    exact Int.ediv_one _
  exact ⟨Nat.le_refl _, by rw [e]; exact Int.le_refl _, by rw [e]; omega⟩
theorem within_norm1 {E e : EncS} (h : Within E (encNorm1 e)) : Within E e := by
  have c := codeN_norm (codeN_self e)
  have hn : (encNorm1 e).front.length = e.front.length + 1 := by
    have := c.count
    omega
  have h1 := h.n
  have h2 := h.lo
  have h3 := h.hi
  rw [show bigL (encNorm1 e) = bigL e * 256 from c.low.symm] at h2 h3
  rw [show (encNorm1 e).span = e.span * 256 from rfl] at h3
  have hv : vAt E e = vAt E (encNorm1 e) / 256 := by
    unfold vAt
    rw [hn, show E.front.length - e.front.length = (E.front.length - (e.front.length + 1)) + 1 from by omega, Int.pow_succ, Int.ediv_ediv_of_nonneg]
    have : (0 : Nat) < 256 ^ (E.front.length - (e.front.length + 1)) := Nat.pow_pos (by decide)
    exact_mod_cast Nat.le_of_lt this
  exact ⟨by omega, by rw [hv]; omega, by rw [hv]; omega⟩
theorem within_norm {E e : EncS} (h : Within E (encNorm e)) : Within E e := by
  unfold encNorm at h
  split at h
  · exact within_norm1 h
  · exact h
theorem within_pre {E e : EncS} {p d : Int} (hg : EncG e) (hp : 31 ≤ p ∧ p ≤ 4065) (h : Within E (encPre e p d)) : Within E e ∧ (d = 0 → vAt E e < bigL e + e.span / 4096 * p) ∧ (d ≠ 0 → bigL e + e.span / 4096 * p ≤ vAt E e) := by
  have hsp := hg.mid.span
  have hb := hg.big
  have hi := part_in ⟨hb, hsp.2⟩ hp
  have c := codeN_pre (d := d) hg hp (codeN_self e) rfl rfl
  have hn : (encPre e p d).front.length = e.front.length := len_pre e p d
  have h1 := h.n
  have h2 := h.lo
  have h3 := h.hi
  have hv : vAt E (encPre e p d) = vAt E e := by
    unfold vAt
    rw [hn]
  rw [hv, show bigL (encPre e p d) = _ from c.low.symm] at h2 h3
  rw [← c.span] at h3
  rw [hn] at h1
  by_cases hd : d = 0
  · rw [if_pos hd] at h2 h3
    rw [if_pos hd] at h3
    exact ⟨⟨h1, h2, by omega⟩, fun _ => h3, fun z => absurd hd z⟩
  · rw [if_neg hd] at h2 h3
    rw [if_neg hd] at h3
    exact ⟨⟨h1, by omega, by omega⟩, fun z => absurd z hd, fun _ => h2⟩
theorem within_congr {E e e' : EncS} (hf : e'.front = e.front) (hl : e'.low = e.low) (hs : e'.span = e.span) (h : Within E e') : Within E e := by
  have h1 := h.n
  have h2 := h.lo
  have h3 := h.hi
  unfold bigL vAt at *
  rw [hf] at h1
  rw [hf, hl] at h2
  rw [hf, hl, hs] at h3
  exact ⟨h1, h2, h3⟩
def chanceOf (e : EncS) (it : Int × Int) : Int := if 0 ≤ it.1 then itD e.probs it.1 else 2048
theorem chance_in {e : EncS} {it : Int × Int} (h : EncG e) (hc : it.1 ≤ 255) : 31 ≤ chanceOf e it ∧ chanceOf e it ≤ 4065 := by
  unfold chanceOf
  split
  · exact h.chance ‹_› (by omega)
  · decide
theorem within_item0 {E e : EncS} {it : Int × Int} (h : Within E (encItem e it)) : Within E (encNorm (encPre e (chanceOf e it) it.2)) := by
  unfold encItem at h
  unfold chanceOf
  split at h
  · rw [if_pos ‹_›]
    exact within_congr (e' := encCode e it.1 it.2) rfl rfl rfl h
  · rw [if_neg ‹_›]
    exact h
theorem within_item {E e : EncS} {it : Int × Int} (hg : EncG e) (hc : it.1 ≤ 255) (h : Within E (encItem e it)) :
    Within E e ∧ (it.2 = 0 → vAt E e < bigL e + e.span / 4096 * chanceOf e it) ∧ (it.2 ≠ 0 → bigL e + e.span / 4096 * chanceOf e it ≤ vAt E e) :=
  within_pre hg (chance_in hg hc) (within_norm (within_item0 h))
theorem within_items : ∀ {items : List (Int × Int)} {E e : EncS}, EncG e → ItemsOk items → Within E (encItems e items) → Within E e
  | [], _, _, _, _, h => h
  | it :: r, E, e, hg, hi, h => by
    have h0 := hi it List.mem_cons_self
    exact (within_item hg h0.1.2 (within_items (items := r) (item_ok hg h0) (fun x hx => hi x (List.mem_cons_of_mem _ hx)) h)).1
theorem acc_div {o : List Int} (h : ∀ x ∈ o, 0 ≤ x ∧ x ≤ 255) (k : Nat) : ∀ m : Nat, accO o (k + m) / 256 ^ m = accO o k
  | 0 => Int.ediv_one _
  | m + 1 => by
    have ho : 0 ≤ (o[k + m]?).getD 0 ∧ (o[k + m]?).getD 0 ≤ 255 := by
      cases hx : o[k + m]? with
      | none => decide
      | some x => exact h x (List.mem_of_getElem? hx)
    rw [Int.pow_succ, Int.mul_comm, ← Int.ediv_ediv_of_nonneg (by decide)]
    rw [show accO o (k + (m + 1)) = accO o (k + m) * 256 + (o[k + m]?).getD 0 from rfl, show (accO o (k + m) * 256 + (o[k + m]?).getD 0) / 256 = accO o (k + m) from by omega]
    exact acc_div h k m
theorem acc_app (ys zs : List Int) : ∀ k : Nat, k ≤ ys.length → accO (ys ++ zs) k = accO ys k
  | 0, _ => rfl
  | k + 1, h => by
    show accO (ys ++ zs) k * 256 + ((ys ++ zs)[k]?).getD 0 = accO ys k * 256 + (ys[k]?).getD 0
    rw [acc_app ys zs k (by omega), List.getElem?_append_left (by omega)]
theorem acc_num (xs : List Int) : accO xs xs.length = num xs := by
  refine snocInd (motive := fun xs => accO xs xs.length = num xs) rfl (fun ys y ih => ?_) xs
  rw [List.length_append, num_snoc]
  show accO (ys ++ [y]) ys.length * 256 + ((ys ++ [y])[ys.length]?).getD 0 = _
  rw [acc_app ys [y] _ (Nat.le_refl _), ih, List.getElem?_append_right (Nat.le_refl _), Nat.sub_self]
  rfl
theorem acc_congr {xs ys : List Int} (h : ∀ j : Nat, (xs[j]?).getD 0 = (ys[j]?).getD 0) : ∀ k : Nat, accO xs k = accO ys k
  | 0 => rfl
  | k + 1 => by
    show accO xs k * 256 + _ = accO ys k * 256 + _
    rw [acc_congr h k, h k]
theorem get_zeros (ys : List Int) (m j : Nat) : ((ys ++ List.replicate m 0)[j]?).getD 0 = (ys[j]?).getD 0 := by
  by_cases h : j < ys.length
  · rw [List.getElem?_append_left h]
  · rw [List.getElem?_append_right (by omega), List.getElem?_eq_none (l := ys) (by omega)]
    by_cases hm : j - ys.length < m
    · rw [List.getElem?_eq_getElem (by rw [List.length_replicate]; exact hm), List.getElem_replicate]
      rfl
    · rw [List.getElem?_eq_none (by rw [List.length_replicate]; omega)]
theorem dw_split : ∀ ys : List Int, ∃ m : Nat, ys = List.replicate m 0 ++ ys.dropWhile (fun x => decide (x = 0))
  | [] => ⟨0, rfl⟩
  | y :: r => by
    rw [List.dropWhile_cons]
    split
    · obtain ⟨m, e⟩ := dw_split r
      refine ⟨m + 1, ?_⟩
      have hy : decide (y = 0) = true := ‹_›
      rw [List.replicate_succ, List.cons_append, ← e, of_decide_eq_true hy]
    · exact ⟨0, rfl⟩
theorem strip_split (xs : List Int) : ∃ m : Nat, xs = stripZ xs ++ List.replicate m 0 := by
  obtain ⟨m, e⟩ := dw_split xs.reverse
  refine ⟨m, ?_⟩
  have e2 := congrArg List.reverse e
  rw [List.reverse_reverse, List.reverse_append, List.reverse_replicate] at e2
  exact e2
theorem acc_code {E : EncS} (hm : EncMid E) (m : Nat) : accO (encOctets E ++ List.replicate m 0) (E.front.length + 4) = bigL E := by
  obtain ⟨q, e⟩ := strip_split (E.front ++ digits4 E.low)
  have a1 : accO (encOctets E ++ List.replicate m 0) (E.front.length + 4) = accO (E.front ++ digits4 E.low) (E.front.length + 4) := by
    apply acc_congr
    intro j
    rw [get_zeros, e, get_zeros]
    rfl
  have a2 := acc_num (E.front ++ digits4 E.low)
  rw [List.length_append, digits4_len] at a2
  have hl := hm.low
  rw [a1, a2, digits4_eq, show E.front ++ [E.low / 16777216 % 256, E.low / 65536 % 256, E.low / 256 % 256, E.low % 256] = E.front ++ [E.low / 16777216 % 256] ++ [E.low / 65536 % 256] ++ [E.low / 256 % 256] ++ [E.low % 256] from by simp]
  rw [num_snoc, num_snoc, num_snoc, num_snoc]
  unfold bigL
  omega
theorem strip_mem {xs : List Int} {x : Int} (h : x ∈ stripZ xs) : x ∈ xs := by
  obtain ⟨m, e⟩ := strip_split xs
  rw [e]
  exact List.mem_append_left _ h
theorem code_oct_in {E : EncS} (h : EncMid E) : ∀ x ∈ encOctets E, 0 ≤ x ∧ x ≤ 255 := by
  intro x hx
  rcases List.mem_append.mp (strip_mem hx) with z | z
  · exact h.oct x z
  · rw [digits4_eq] at z
    have hl := h.low
    simp only [List.mem_cons, List.not_mem_nil, or_false] at z
    omega
structure Rel (o : List Int) (e : EncS) (d : DecS) : Prop where
  g : DecG d
  octs : d.octs = o
  probs : d.probs = e.probs
  span : d.span = e.span
  place : d.place = if (o.length : Int) < (e.front.length : Int) + 4 then (o.length : Int) else (e.front.length : Int) + 4
  value : d.value = accO o (e.front.length + 4) - bigL e
theorem dec_oct {o : List Int} {d : DecS} {n : Nat} (ho : d.octs = o) (hp : d.place = if (o.length : Int) < (n : Int) then (o.length : Int) else (n : Int)) : decOct d = (o[n]?).getD 0 := by
  unfold decOct
  rw [ho, hp]
  by_cases h : n < o.length
  · rw [if_neg (show ¬ (o.length : Int) < (n : Int) from by omega), if_pos (by omega), itD_nat (List.getElem?_eq_getElem h), List.getElem?_eq_getElem h]
    rfl
  · rw [if_neg (by split <;> omega), List.getElem?_eq_none (by omega)]
    rfl
theorem place_turn {n : Nat} {l pl : Int} (h : pl = if l < (n : Int) then l else (n : Int)) (h0 : 0 ≤ l) : (if pl < l then pl + 1 else pl) = if l < ((n + 1 : Nat) : Int) then l else ((n + 1 : Nat) : Int) := by
  rw [h]
  split <;> split <;> split <;> omega
theorem shifts_val (o : List Int) : ∀ n : Nat, (decShifts n (decBlank o)).value = accO o n ∧ (decShifts n (decBlank o)).place = if (o.length : Int) < (n : Int) then (o.length : Int) else (n : Int)
  | 0 => ⟨rfl, by rw [if_neg (by omega)]; rfl⟩
  | n + 1 => by
    have ih := shifts_val o n
    have ho := shifts_octs (decBlank o) n
    have hd := dec_oct (o := o) ho ih.2
    refine ⟨?_, ?_⟩
    · show (decShifts n (decBlank o)).value * 256 + decOct (decShifts n (decBlank o)) = accO o n * 256 + _
      rw [ih.1, hd]
    · show (if (decShifts n (decBlank o)).place < ((decShifts n (decBlank o)).octs.length : Int) then (decShifts n (decBlank o)).place + 1 else (decShifts n (decBlank o)).place) = _
      rw [ho]
      exact place_turn ih.2 (by show (0 : Int) ≤ (o.length : Int); omega)
theorem acc_at {E e : EncS} {o : List Int} (ho : ∀ x ∈ o, 0 ≤ x ∧ x ≤ 255) (hc : accO o (E.front.length + 4) = bigL E) (h : e.front.length ≤ E.front.length) : accO o (e.front.length + 4) = vAt E e := by
  have a := acc_div ho (e.front.length + 4) (E.front.length - e.front.length)
  rw [show e.front.length + 4 + (E.front.length - e.front.length) = E.front.length + 4 from by omega, hc] at a
  exact a.symm
theorem rel_init {E : EncS} {o : List Int} (ho : ∀ x ∈ o, 0 ≤ x ∧ x ≤ 255) (hc : accO o (E.front.length + 4) = bigL E) (h : Within E encInit) : Rel o encInit (decInit o) := by
  have s := shifts_val o 4
  have a := acc_at ho hc h.n
  have hv : accO o 4 = vAt E encInit := a
  have hi : vAt E encInit < 0 + (4294967296 - 1) := h.hi
  refine ⟨decInit_ok ho, shifts_octs _ 4, shifts_probs _ 4, shifts_span _ 4, s.2, ?_⟩
  show (if 4294967296 - 2 < (decShifts 4 (decBlank o)).value then 4294967296 - 2 else (decShifts 4 (decBlank o)).value) = accO o 4 - 0
  rw [s.1, if_neg (by omega)]
  omega
theorem rel_norm {o : List Int} {e : EncS} {d : DecS} (hg : DecG (decNorm d)) (octs : d.octs = o) (probs : d.probs = e.probs) (span : d.span = e.span)
    (place : d.place = if (o.length : Int) < (e.front.length : Int) + 4 then (o.length : Int) else (e.front.length : Int) + 4) (value : d.value = accO o (e.front.length + 4) - bigL e) : Rel o (encNorm e) (decNorm d) := by
  unfold decNorm at hg ⊢
  unfold encNorm
  rw [span] at hg ⊢
  by_cases h : e.span < 16777216
  · rw [if_pos h] at hg
    rw [if_pos h, if_pos h]
    have c := codeN_norm (codeN_self e)
    have hn : (encNorm1 e).front.length = e.front.length + 1 := by
      have := c.count
      omega
    have hb : bigL (encNorm1 e) = bigL e * 256 := c.low.symm
    have hd := dec_oct (n := e.front.length + 4) octs (by rw [place] <;> rfl)
    refine ⟨hg, octs, probs, ?_, ?_, ?_⟩
    · show d.span * 256 = e.span * 256
      rw [span]
    · show (if d.place < (d.octs.length : Int) then d.place + 1 else d.place) = _
      rw [hn, octs]
      exact place_turn (n := e.front.length + 4) place (by omega)
    · show d.value * 256 + decOct d = accO o ((encNorm1 e).front.length + 4) - bigL (encNorm1 e)
      rw [hn, hb, hd, value, show e.front.length + 1 + 4 = e.front.length + 4 + 1 from by omega]
      show _ = accO o (e.front.length + 4) * 256 + _ - _
      omega
  · rw [if_neg h] at hg
    rw [if_neg h, if_neg h]
    exact ⟨hg, octs, probs, span, place, value⟩
theorem rel_step {E e : EncS} {o : List Int} {d : DecS} {p b : Int} (ho : ∀ x ∈ o, 0 ≤ x ∧ x ≤ 255) (hc : accO o (E.front.length + 4) = bigL E) (hr : Rel o e d) (hg : EncG e) (hp : 31 ≤ p ∧ p ≤ 4065) (hb : 0 ≤ b ∧ b ≤ 1) (hw : Within E e)
    (h0 : b = 0 → vAt E e < bigL e + e.span / 4096 * p) (h1 : b ≠ 0 → bigL e + e.span / 4096 * p ≤ vAt E e) : decBit d p = b ∧ Rel o (encNarrow e p b) (decDecide d p) := by
  have hv := hr.value
  rw [acc_at ho hc hw.n] at hv
  have hs := hr.span
  have c := codeN_pre (d := b) hg hp (codeN_self e) rfl rfl
  have hn : (encPre e p b).front.length = e.front.length := len_pre e p b
  have hl : bigL (encPre e p b) = _ := c.low.symm
  have hsp := c.span.symm
  have hgd := decNorm_ok (decPre_ok hr.g hp)
  by_cases hb0 : b = 0
  · have hlt : d.value < d.span / 4096 * p := by
      rw [hs, hv]
      have := h0 hb0
      omega
    rw [if_pos hb0] at hl hsp
    refine ⟨by unfold decBit; rw [if_pos hlt, hb0], ?_⟩
    unfold encNarrow decDecide
    have e1 : decPre d p = ⟨d.probs, d.octs, d.place, d.span / 4096 * p, d.value⟩ := by
      unfold decPre
      rw [if_pos hlt]
    rw [e1] at hgd ⊢
    refine rel_norm hgd hr.octs ?_ ?_ ?_ ?_
    · show d.probs = _
      rw [probs_pre]
      exact hr.probs
    · show d.span / 4096 * p = _
      rw [hsp, hs]
    · show d.place = _
      rw [hn]
      exact hr.place
    · show d.value = _
      rw [hn, hl]
      exact hr.value
  · have hlt : ¬ d.value < d.span / 4096 * p := by
      rw [hs, hv]
      have := h1 hb0
      omega
    rw [if_neg hb0] at hl hsp
    refine ⟨by unfold decBit; rw [if_neg hlt]; omega, ?_⟩
    unfold encNarrow decDecide
    have e1 : decPre d p = ⟨d.probs, d.octs, d.place, d.span - d.span / 4096 * p, d.value - d.span / 4096 * p⟩ := by
      unfold decPre
      rw [if_neg hlt]
    rw [e1] at hgd ⊢
    refine rel_norm hgd hr.octs ?_ ?_ ?_ ?_
    · show d.probs = _
      rw [probs_pre]
      exact hr.probs
    · show d.span - d.span / 4096 * p = _
      rw [hsp, hs]
    · show d.place = _
      rw [hn]
      exact hr.place
    · show d.value - d.span / 4096 * p = _
      rw [hn, hl, hr.value, hs]
      omega
theorem rel_item {E e : EncS} {o : List Int} {d : DecS} {it : Int × Int} (ho : ∀ x ∈ o, 0 ≤ x ∧ x ≤ 255) (hc : accO o (E.front.length + 4) = bigL E) (hr : Rel o e d) (hg : EncG e) (hi : (-1 ≤ it.1 ∧ it.1 ≤ 255) ∧ 0 ≤ it.2 ∧ it.2 ≤ 1)
    (h : Within E (encItem e it)) : decItemBit d it = it.2 ∧ Rel o (encItem e it) (decItem d it) := by
  have w := within_item hg hi.1.2 h
  have r := rel_step ho hc hr hg (chance_in hg hi.1.2) hi.2 w.1 w.2.1 w.2.2
  unfold decItemBit decItem encItem
  unfold chanceOf at r
  by_cases z : 0 ≤ it.1
  · rw [if_pos z] at r
    rw [if_pos z, if_pos z, if_pos z, hr.probs]
    refine ⟨r.1, ?_⟩
    have q := r.2
    have hg2 := read_ok hr.g z (by omega : it.1 < 256)
    have hp := hr.probs
    refine ⟨hg2, ?_, ?_, ?_, ?_, ?_⟩
    · show (decDecide d (itD d.probs it.1)).octs = o
      rw [hp]
      exact q.octs
    · show setL (decDecide d (itD d.probs it.1)).probs it.1 (adaptE (itD d.probs it.1) (decBit d (itD d.probs it.1))) = setL (encNarrow e (itD e.probs it.1) it.2).probs it.1 (adaptE (itD e.probs it.1) it.2)
      rw [hp, r.1, q.probs]
    · show (decDecide d (itD d.probs it.1)).span = (encNarrow e (itD e.probs it.1) it.2).span
      rw [hp]
      exact q.span
    · show (decDecide d (itD d.probs it.1)).place = if (o.length : Int) < ((encNarrow e (itD e.probs it.1) it.2).front.length : Int) + 4 then (o.length : Int) else ((encNarrow e (itD e.probs it.1) it.2).front.length : Int) + 4
      rw [hp]
      exact q.place
    · show (decDecide d (itD d.probs it.1)).value = accO o ((encNarrow e (itD e.probs it.1) it.2).front.length + 4) - bigL (encNarrow e (itD e.probs it.1) it.2)
      rw [hp]
      exact q.value
  · rw [if_neg z] at r
    rw [if_neg z, if_neg z, if_neg z]
    exact r
theorem items_split (e : EncS) (items : List (Int × Int)) (i : Nat) : encItems e items = encItems (encItems e (items.take i)) (items.drop i) := by
  rw [← items_app, List.take_append_drop]
theorem rel_turn {o : List Int} {items : List (Int × Int)} {i : Nat} {it : Int × Int} {d : DecS} (hi : items[i]? = some it) (hok : ItemsOk items) (ho : ∀ x ∈ o, 0 ≤ x ∧ x ≤ 255)
    (hc : accO o ((encItems encInit items).front.length + 4) = bigL (encItems encInit items)) (hr : Rel o (encItems encInit (items.take i)) d) :
    decItemBit d it = it.2 ∧ Rel o (encItems encInit (items.take (i + 1))) (decItem d it) := by
  have hg : EncG (encItems encInit (items.take i)) := items_ok init_ok (fun x hx => hok x (List.mem_of_mem_take hx))
  have hE : EncG (encItems encInit items) := items_ok init_ok hok
  have hit := hok _ (List.mem_of_getElem? hi)
  have e1 := items_turn (e := encInit) hi rfl
  have hw : Within (encItems encInit items) (encItem (encItems encInit (items.take i)) it) := by
    have hw := within_self hE.mid.span0
    have hs := items_split encInit items (i + 1)
    rw [← e1] at hs
    exact within_items (item_ok hg hit) (fun x hx => hok x (List.mem_of_mem_drop hx)) (by rw [← hs]; exact hw)
  rw [← e1]
  exact rel_item ho hc hr hg hit hw
theorem rel_start {o : List Int} {items : List (Int × Int)} (hok : ItemsOk items) (ho : ∀ x ∈ o, 0 ≤ x ∧ x ≤ 255) (hc : accO o ((encItems encInit items).front.length + 4) = bigL (encItems encInit items)) : Rel o encInit (decInit o) :=
  rel_init ho hc (within_items init_ok hok (within_self (items_ok init_ok hok).mid.span0))
end Pu
open Pu
theorem gd {α : Type} {xs : List α} {k n : Int} (e : (xs.length : Int) = n) (h0 : 0 ≤ k) (h1 : k < n) : -(xs.length : Int) ≤ k ∧ k < (xs.length : Int) := by omega
theorem big {x : Int} (h0 : 0 ≤ x) (h1 : x < 2 ^ 64) : -(2 ^ 4096) < x ∧ x < 2 ^ 4096 := by
  have h : (0 : Int) < 2 ^ 4032 := Int.pow_pos (by decide)
  have e : (2 : Int) ^ 4096 = 2 ^ 4032 * 2 ^ 64 := Int.pow_add 2 4032 64
  have l : (1 : Int) * 2 ^ 64 ≤ 2 ^ 4032 * 2 ^ 64 := Int.mul_le_mul_of_nonneg_right h (by decide)
  rw [← e] at l
  generalize (2 : Int) ^ 4096 = z at l ⊢
  omega
theorem e8 : (2 : Int) ^ Int.toNat 8 = 256 := by decide
theorem while_bk {σ ρ : Type} {n : Nat} {s s' : σ} {f : σ → Rx (Lp σ ρ)} (h : f s = .ok (.bk s')) : whileR (n + 1) s f = .ok (.go s') := by
  show (f s).bind _ = _
  rw [h]
  rfl
theorem while_go {σ ρ : Type} {n : Nat} {s s' : σ} {f : σ → Rx (Lp σ ρ)} (h : f s = .ok (.go s')) : whileR (n + 1) s f = whileR n s' f := by
  show (f s).bind _ = _
  rw [h]
  rfl
theorem adapted_eq (c b : Int) : F__adapted c b = .ok (adaptE c b) := by
  unfold F__adapted adaptE
  split <;> rfl
theorem ctx_ok {c : Int} (h0 : 0 ≤ c) (h1 : c < 256) : F__check_context c = .ok () := by
  unfold F__check_context
  rw [if_pos h0, if_pos h1]
/-! the decoder -/
theorem shift_eq {d : DecS} (h : DecO d) (hv : 0 ≤ d.value) (hv2 : d.value < 2 ^ 64) : F_Decoder__shift d = .ok (decShift d) := by
  have ho := oct_in h
  have hp := h.place
  have k : ∀ (q : St_Decoder) (o : Int), q.value = d.value → 0 ≤ o → o ≤ 255 → F_Decoder__shift_k1 q o = .ok ⟨q.probs, q.octs, q.place, q.span, d.value * 256 + o⟩ := fun q o e h0 h1 => by
    unfold F_Decoder__shift_k1
    rw [e, grd_pos ⟨by decide, by decide, big hv hv2⟩, bnd_eq, e8, low_or hv h0 h1]
  unfold F_Decoder__shift decShift
  unfold decOct at ho ⊢
  by_cases c : d.place < (d.octs.length : Int)
  · rw [if_pos c] at ho
    rw [if_pos c, if_pos c, if_pos c, grd_pos ⟨by omega, c⟩, bnd_eq, bnd_eq, bind_ok]
    exact k ⟨d.probs, d.octs, d.place + 1, d.span, d.value⟩ (itD d.octs d.place) rfl ho.1 ho.2
  · rw [if_neg c] at ho
    rw [if_neg c, if_neg c, if_neg c, bind_ok]
    exact k d 0 rfl ho.1 ho.2
theorem dnorm_eq {d : DecS} (h : DecMid d) (b : Int) : F_Decoder__decide_k1 b d = .ok (b, decNorm d) := by
  have hs := h.span
  have hv := h.value
  unfold F_Decoder__decide_k1 decNorm
  by_cases c : d.span < 16777216
  · rw [if_pos c, show (1000000 : Nat) = 999999 + 1 from rfl, while_go (s' := decNorm1 d)]
    · rw [show (999999 : Nat) = 999998 + 1 from rfl, while_bk (s' := decNorm1 d)]
      · rfl
      · unfold F_Decoder__decide_b2
        rw [if_neg (show ¬ (decNorm1 d).span < 16777216 by show ¬ d.span * 256 < 16777216; omega)]
    · unfold F_Decoder__decide_b2
      rw [if_pos c, shift_eq h.o hv.1 (by omega), noEr_ok, bind_ok, grd_pos ⟨by decide, by decide, big (show 0 ≤ d.span by omega) (show d.span < 2 ^ 64 by omega)⟩, bnd_eq, e8]
      rfl
  · rw [if_neg c, show (1000000 : Nat) = 999999 + 1 from rfl, while_bk (s' := d)]
    · rfl
    · unfold F_Decoder__decide_b2
      rw [if_neg c]
theorem decide_eq {d : DecS} (g : DecG d) {p : Int} (hp : 31 ≤ p ∧ p ≤ 4065) : F_Decoder__decide d p = .ok (decBit d p, decDecide d p) := by
  have hn := dnorm_eq (decPre_ok g hp)
  unfold F_Decoder__decide decDecide
  rw [grd_pos (.inr ⟨by omega, by omega⟩), bnd_eq, bnd_eq]
  unfold decBit
  unfold decPre at hn ⊢
  by_cases c : d.value < d.span / 4096 * p
  · rw [if_pos c] at hn ⊢
    rw [if_pos c, if_pos rfl, bind_ok]
    exact hn 0
  · rw [if_neg c] at hn ⊢
    rw [if_neg c, if_neg (by decide), bnd_eq, bnd_eq, bind_ok]
    exact hn 1
theorem read_eq {d : DecS} (g : DecG d) {c : Int} (h0 : 0 ≤ c) (h1 : c < 256) : F_Decoder_read d c = .ok (decBit d (itD d.probs c), decRead d c) := by
  have l := g.len
  have gi := gd (show (d.probs.length : Int) = 256 by omega) h0 h1
  unfold F_Decoder_read
  rw [ctx_ok h0 h1, bind_ok, grd_pos gi, bnd_eq, decide_eq g (g.chance h0 h1), bind_ok, adapted_eq, noEr_ok, bind_ok, grd_pos (by rw [probs_decide]; exact gi), bnd_eq]
  rfl
theorem reven_eq {d : DecS} (g : DecG d) : F_Decoder_read_even d = .ok (decBit d 2048, decDecide d 2048) := by
  unfold F_Decoder_read_even
  rw [decide_eq g (by decide), bind_ok]
theorem dinit_eq {o : List Int} (h : ∀ x ∈ o, 0 ≤ x ∧ x ≤ 255) : F_Decoder___init__ o = .ok (decInit o) := by
  have st : ∀ (i : Nat) (x : Int), i < 4 → F_Decoder___init___b1 (decShifts i (decBlank o)) x = .ok (decShifts (i + 1) (decBlank o)) := fun i x hi => by
    have hs := shifts_ok (blank_ok h) rfl i
    have := pow_turn hi hs.2.2
    unfold F_Decoder___init___b1
    first
      | rw [shift_eq hs.1 hs.2.1 (by omega), noEr_ok, bind_ok]
      | rw [shift_eq hs.1 hs.2.1 (by omega), bind_ok]
    rfl
  unfold F_Decoder___init__
  rw [grd_pos ⟨by decide, by decide, by decide +kernel⟩, bnd_eq, show rng 0 (Int.toNat 4) = [0, 1, 2, 3] from by decide]
  have e : forS [0, 1, 2, 3] (decBlank o) (fun s x => F_Decoder___init___b1 s x) = .ok (decShifts 4 (decBlank o)) := by
    show (F_Decoder___init___b1 (decShifts 0 (decBlank o)) 0).bind _ = _
    rw [st 0 0 (by decide), bind_ok]
    show (F_Decoder___init___b1 (decShifts 1 (decBlank o)) 1).bind _ = _
    rw [st 1 1 (by decide), bind_ok]
    show (F_Decoder___init___b1 (decShifts 2 (decBlank o)) 2).bind _ = _
    rw [st 2 2 (by decide), bind_ok]
    show (F_Decoder___init___b1 (decShifts 3 (decBlank o)) 3).bind _ = _
    rw [st 3 3 (by decide), bind_ok]
    rfl
  show (forS [0, 1, 2, 3] (decBlank o) (fun s x => F_Decoder___init___b1 s x)).bind _ = _
  rw [e, bind_ok]
  rfl
open Pu
def cap (k : Int) : Int := if 7 < k then 7 else k
theorem cap_in {k : Int} (h : 0 ≤ k) : 0 ≤ cap k ∧ cap k ≤ 7 ∧ cap k ≤ k := by
  unfold cap
  split <;> omega
/-- what unary values need of their contexts -/
def UnOk (base most : Int) : Prop := 0 ≤ most ∧ most ≤ 64 ∧ (most = 0 ∨ (0 ≤ base ∧ base ≤ 256 - (if 8 < most then 8 else most)))
theorem un_ctx {base most k : Int} (h : UnOk base most) (h0 : 0 ≤ k) (h1 : k < most) : 0 ≤ base + cap k ∧ base + cap k ≤ 255 := by
  obtain ⟨a, b, c⟩ := h
  rcases c with c | c
  · omega
  · unfold cap
    have := c.2
    split at this <;> split <;> omega
theorem checks_ok {base count : Int} (h : count ≤ 0 ∨ (0 ≤ base ∧ base ≤ 256 - count)) : F__check_contexts base count = .ok () := by
  unfold F__check_contexts
  by_cases c : 0 < count
  · rw [if_pos c, if_pos (by omega), if_pos (by omega)]
  · rw [if_neg c]
theorem un_check {base most : Int} (h : UnOk base most) : F__check_unary base most = .ok () := by
  obtain ⟨m0, m1, hb⟩ := h
  unfold F__check_unary
  rw [if_pos m0, if_pos m1, checks_ok]
  · rfl
  · rcases hb with h | h
    · left
      rw [if_neg (by omega)]
      omega
    · right
      exact h
/-! readers on any octets: what they give, and that they go on -/
section
variable {d : DecS}
theorem rd_bit (g : DecG d) {c : Int} (h0 : 0 ≤ c) (h1 : c < 256) : Gv (F_Decoder_read d c) (fun r => (0 ≤ r.1 ∧ r.1 ≤ 1) ∧ DecG r.2) := .of_eq (read_eq g h0 h1) ⟨bit_in d _, read_ok g h0 h1⟩
theorem rd_even (g : DecG d) : Gv (F_Decoder_read_even d) (fun r => (0 ≤ r.1 ∧ r.1 ≤ 1) ∧ DecG r.2) := .of_eq (reven_eq g) ⟨bit_in d _, decide_ok g ⟨by decide, by decide⟩⟩
theorem rd_unary (g : DecG d) {base most : Int} (h : UnOk base most) : Gv (F_SymbolReader_unary ⟨d⟩ base most) (fun r => (0 ≤ r.1 ∧ r.1 ≤ most) ∧ DecG r.2.dec) := by
  unfold F_SymbolReader_unary
  refine Gv.bind_eq (un_check h) (Gv.bind (Gv.whileR (P := fun s : St_SymbolReader × Int => (0 ≤ s.2 ∧ s.2 ≤ most) ∧ DecG s.1.dec) (R := fun s : St_SymbolReader × Int => (0 ≤ s.2 ∧ s.2 ≤ most) ∧ DecG s.1.dec) (fun s => (most - s.2).toNat) (fun s p => ?_) ⟨⟨Int.le_refl 0, h.1⟩, g⟩ (by have := h.2.1; show (most - 0).toNat < 1000000; omega)) ?_)
  · obtain ⟨⟨dd⟩, v⟩ := s
    obtain ⟨⟨p0, p1⟩, p2⟩ := p
    have p0 : 0 ≤ v := p0
    have p1 : v ≤ most := p1
    unfold F_SymbolReader_unary_b1
    refine Gv.ite (fun c => ?_) fun c => .ok (.inr ⟨_, rfl, ⟨p0, p1⟩, p2⟩)
    have c : v < most := c
    have cx := un_ctx h p0 c
    refine Gv.bind (Gv.noEr (rd_bit p2 (c := base + cap v) cx.1 (by omega))) fun r hr => Gv.ite (fun q => Gv.bnd fun w hw => .ok (.inl ⟨_, rfl, ⟨⟨?_, ?_⟩, hr.2⟩, ?_⟩)) fun q => .ok (.inr ⟨_, rfl, ⟨p0, p1⟩, hr.2⟩)
    · show 0 ≤ w
      have hw : w = v + 1 := hw
      omega
    · show w ≤ most
      have hw : w = v + 1 := hw
      omega
    · show (most - w).toNat < (most - v).toNat
      have hw : w = v + 1 := hw
      omega
  · rintro _ ⟨s, rfl, p⟩
    exact .ok p
theorem pow2_nat (k : Nat) : (2 : Int) ^ (k + 1) = 2 * 2 ^ k := by rw [Int.pow_succ]; omega
theorem pow2_pos (k : Nat) : (1 : Int) ≤ 2 ^ k := Int.pow_pos (by decide)
theorem pow2_le {i w : Nat} (h : i ≤ w) : (2 : Int) ^ i ≤ 2 ^ w := by
  obtain ⟨k, rfl⟩ := Nat.exists_eq_add_of_le h
  rw [Int.pow_add]
  have a := pow2_pos i
  have b := pow2_pos k
  have := Int.mul_le_mul_of_nonneg_left b (show (0 : Int) ≤ 2 ^ i by omega)
  omega
/-- a choice whose number of digits is known -/
theorem rd_choice (g : DecG d) {base count : Int} {w : Nat} (hw : w ≤ 4) (h : F__choice_digits base count = .ok (w : Int)) (c1 : 1 ≤ count) (b0 : 0 ≤ base) (b1 : base + 2 ^ w ≤ 257) : Gv (F_SymbolReader_choice ⟨d⟩ base count) (fun r => (0 ≤ r.1 ∧ r.1 < count) ∧ DecG r.2.dec) := by
  unfold F_SymbolReader_choice
  refine Gv.bind_eq h (Gv.grd (by omega) (Gv.bind (Gv.forS (P := fun i (s : St_SymbolReader × Int) => ((2 : Int) ^ i ≤ s.2 ∧ s.2 < 2 * 2 ^ i) ∧ DecG s.1.dec) ⟨⟨by show (2 : Int) ^ 0 ≤ 1; decide, by show (1 : Int) < 2 * 2 ^ 0; decide⟩, g⟩ fun i x s hx p => ?_) fun s p => ?_))
  · obtain ⟨_, hi⟩ := rng_at hx
    have hi : i < w := by
      have hi : i < Int.toNat (w : Int) := hi
      omega
    obtain ⟨⟨dd⟩, v⟩ := s
    obtain ⟨⟨p0, p1⟩, p2⟩ := p
    have p0 : (2 : Int) ^ i ≤ v := p0
    have p1 : v < 2 * 2 ^ i := p1
    have q := pow2_le (show i + 1 ≤ w by omega)
    have q1 := pow2_pos i
    rw [pow2_nat] at q
    unfold F_SymbolReader_choice_b1
    refine Gv.bind (Gv.noEr (rd_bit p2 (c := base + v - 1) (by omega) (by omega))) fun r hr => Gv.bnd fun z hz => .ok ⟨⟨?_, ?_⟩, hr.2⟩
    · show (2 : Int) ^ (i + 1) ≤ z
      have hz : z = 2 * v + r.1 := hz
      have := hr.1.1
      rw [pow2_nat]
      omega
    · show z < 2 * 2 ^ (i + 1)
      have hz : z = 2 * v + r.1 := hz
      have := hr.1.2
      rw [pow2_nat]
      omega
  · obtain ⟨⟨dd⟩, v⟩ := s
    obtain ⟨⟨p0, p1⟩, p2⟩ := p
    have el : (rng 0 (Int.toNat (w : Int))).length = w := by rw [rng_len]; omega
    rw [el] at p0 p1
    have p0 : (2 : Int) ^ w ≤ v := p0
    have p2 : DecG dd := p2
    show Gv (F_SymbolReader_choice_r1 count w ⟨dd⟩ v) _
    unfold F_SymbolReader_choice_r1
    rw [Int.toNat_natCast, Int.one_mul]
    refine Gv.grd ⟨by omega, by omega, big (by decide) (by decide)⟩ (.ok ⟨⟨?_, ?_⟩, p2⟩)
    · show 0 ≤ (if count - 1 < v - 2 ^ w then count - 1 else v - 2 ^ w)
      split <;> omega
    · show (if count - 1 < v - 2 ^ w then count - 1 else v - 2 ^ w) < count
      split <;> omega
theorem rd_number (g : DecG d) {base : Int} (b0 : 0 ≤ base) (b1 : base ≤ 240) : Gv (F_SymbolReader_number ⟨d⟩ base) (fun r => (0 ≤ r.1 ∧ r.1 ≤ 1048576) ∧ DecG r.2.dec) := by
  have hu : UnOk base 20 := ⟨by decide, by decide, .inr ⟨b0, by rw [if_pos (by decide)]; omega⟩⟩
  unfold F_SymbolReader_number
  refine Gv.bind_eq (checks_ok (.inr ⟨b0, by omega⟩)) (Gv.bind (rd_unary g hu) fun u hu => Gv.bind (P := fun s : St_SymbolReader × Int => 1 ≤ s.2 ∧ DecG s.1.dec) (Gv.ite (fun c => ?_) fun c => .ok ⟨Int.le_refl 1, hu.2⟩) fun s hs => ?_)
  · refine Gv.bind (P := fun x => 0 ≤ x ∧ x < 256) (Gv.noEr ?_) fun x hx => Gv.bind (Gv.noEr (rd_bit hu.2 hx.1 hx.2)) fun r hr => Gv.bnd fun z hz => .ok ⟨?_, hr.2⟩
    · unfold F__digit_context
      refine .ok ?_
      have := hu.1.2
      split <;> omega
    · show 1 ≤ z
      have := hr.1.1
      omega
  · obtain ⟨⟨dd⟩, v⟩ := s
    show Gv (F_SymbolReader_number_k1 u.1 ⟨dd⟩ v) _
    have h1 : 1 ≤ v := hs.1
    have h2 : DecG dd := hs.2
    unfold F_SymbolReader_number_k1
    refine Gv.grd (by have := hu.1; omega) (Gv.bind (Gv.forS (P := fun _ (s : St_SymbolReader × Int) => 1 ≤ s.2 ∧ DecG s.1.dec) ⟨h1, h2⟩ fun i x s _ p => ?_) fun s p => ?_)
    · obtain ⟨⟨de⟩, y⟩ := s
      have p1 : 1 ≤ y := p.1
      unfold F_SymbolReader_number_b2
      refine Gv.bind (Gv.noEr (rd_even p.2)) fun r hr => Gv.bnd fun z hz => .ok ⟨?_, hr.2⟩
      show 1 ≤ z
      have hz : z = 2 * y + r.1 := hz
      have := hr.1.1
      omega
    · obtain ⟨⟨de⟩, y⟩ := s
      have p1 : 1 ≤ y := p.1
      have p2 : DecG de := p.2
      show Gv (F_SymbolReader_number_r2 ⟨de⟩ y) _
      unfold F_SymbolReader_number_r2
      refine .ok ⟨?_, p2⟩
      show 0 ≤ (if 1048576 < y - 1 then 1048576 else y - 1) ∧ (if 1048576 < y - 1 then 1048576 else y - 1) ≤ 1048576
      split <;> omega
theorem rd_signed (g : DecG d) {base : Int} (b0 : 0 ≤ base) (b1 : base ≤ 240) : Gv (F_SymbolReader_signed ⟨d⟩ base) (fun r => (-1048576 ≤ r.1 ∧ r.1 ≤ 1048576) ∧ DecG r.2.dec) := by
  unfold F_SymbolReader_signed
  refine Gv.bind (rd_number g b0 b1) fun u hu => Gv.ite (fun c => .ok ⟨⟨by show -1048576 ≤ u.1; have := hu.1.1; omega, hu.1.2⟩, hu.2⟩) fun c => Gv.bind (Gv.noEr (rd_even hu.2)) fun r hr => Gv.ite (fun q => .ok ⟨⟨?_, ?_⟩, hr.2⟩) fun q => .ok ⟨⟨by show -1048576 ≤ u.1; have := hu.1.1; omega, hu.1.2⟩, hr.2⟩
  · show -1048576 ≤ -u.1
    have := hu.1.2
    omega
  · show -u.1 ≤ 1048576
    have := hu.1.1
    omega
end
theorem rx_ok {α : Type} [DecidableEq α] {m : Rx α} {a : α} (h : (match m with | .ok b => decide (b = a) | _ => false) = true) : m = .ok a := by
  cases m with
  | ok b => rw [of_decide_eq_true h]
  | er e => cases h
  | bad => cases h
/-! motions as data, grids of them, what is predicted -/
def VOk (v : Int × Int) : Prop := (-1023 ≤ v.1 ∧ v.1 ≤ 1023) ∧ -1023 ≤ v.2 ∧ v.2 ≤ 1023
abbrev vE (v : Int × Int) : PyData := encT2 PyData.int PyData.int v
abbrev vD (d : PyData) : Int × Int := (cT2 cI cI).dec d
theorem vD_E (v : Int × Int) : vD (vE v) = v := (cT2 cI cI).de v
theorem vE_ok (v : Int × Int) : (cT2 cI cI).ok (vE v) = true := (cT2 cI cI).oke v
/-- a vector or none -/
def Vo (d : PyData) : Prop := d = .none ∨ ∃ v, d = vE v ∧ VOk v
abbrev mE (m : Int × Int × PyData × PyData) : PyData := encT4 PyData.int PyData.int encD encD m
def Cel (d : PyData) : Prop := d = .none ∨ ∃ m : Int × Int × PyData × PyData, d = mE m ∧ Vo m.2.2.1 ∧ Vo m.2.2.2
theorem eqv_int (a : Int) : PyData.eqv (.int a) (.int a) = true := by simp [PyData.eqv]
theorem Vo.eqv {d : PyData} (h : Vo d) : PyData.eqv d d = true := by
  rcases h with rfl | ⟨v, rfl, _⟩
  · rfl
  · simp [encT2, PyData.eqv, PyData.eqvAll]
theorem Vo.lay {d : PyData} (h : Vo d) : PyData.canLay0 d = true ∧ PyData.depth d ≤ 1 := by
  rcases h with rfl | ⟨v, rfl, _⟩
  · exact ⟨by simp [PyData.canLay0], by simp [PyData.depth]⟩
  · exact ⟨by simp [encT2, PyData.canLay0, PyData.canLayAll0], by simp [encT2, PyData.depth, PyData.depthAll]⟩
theorem mE_eqv {m : Int × Int × PyData × PyData} (h1 : Vo m.2.2.1) (h2 : Vo m.2.2.2) : PyData.eqv (mE m) (mE m) = true := by
  simp [encT4, encD, PyData.eqv, PyData.eqvAll, h1.eqv, h2.eqv]
theorem mE_shaped {m : Int × Int × PyData × PyData} (h1 : Vo m.2.2.1) (h2 : Vo m.2.2.2) : SeqAt.shaped (mE m) = true := by
  obtain ⟨a, b⟩ := h1.lay
  obtain ⟨c, d⟩ := h2.lay
  have : PyData.depth (mE m) ≤ 2 := by
    simp [encT4, encD, PyData.depth, PyData.depthAll]
    omega
  simp [SeqAt.shaped, encT4, encD, PyData.canLay0, PyData.canLayAll0, a, c]
  simp [encT4, encD] at this
  omega
theorem Cel.eqv {d : PyData} (h : Cel d) : PyData.eqv d d = true := by
  rcases h with rfl | ⟨m, rfl, h1, h2⟩
  · rfl
  · exact mE_eqv h1 h2
theorem Cel.shaped {d : PyData} (h : Cel d) : SeqAt.shaped d = true := by
  rcases h with rfl | ⟨m, rfl, h1, h2⟩
  · rfl
  · exact mE_shaped h1 h2
/-- the vector of a cell at a place of its motion -/
def vc (d : PyData) (p : Nat) : Int × Int := if dNone d = true then (0, 0) else if dNone (dGet d p) = true then (0, 0) else vD (dGet d p)
theorem vok0 : VOk (0, 0) := ⟨⟨by decide, by decide⟩, by decide, by decide⟩
theorem Vo.dec {d : PyData} (h : Vo d) (n : dNone d = false) : (cT2 cI cI).ok d = true ∧ VOk (vD d) ∧ d = vE (vD d) := by
  rcases h with rfl | ⟨v, rfl, hv⟩
  · cases n
  · rw [vD_E]
    exact ⟨vE_ok v, hv, rfl⟩
theorem Cel.at {d : PyData} (h : Cel d) (n : dNone d = false) {p : Nat} (hp : p = 2 ∨ p = 3) : dHasT d p = true ∧ Vo (dGet d p) := by
  rcases h with rfl | ⟨m, rfl, h1, h2⟩
  · cases n
  · rcases hp with rfl | rfl
    · exact ⟨rfl, h1⟩
    · exact ⟨rfl, h2⟩
theorem vc_in {d : PyData} (h : Cel d) {p : Nat} (hp : p = 2 ∨ p = 3) : VOk (vc d p) := by
  unfold vc
  split
  · exact vok0
  · rename_i n
    split
    · exact vok0
    · rename_i n2
      exact ((h.at (by simpa using n) hp).2.dec (by simpa using n2)).2.1
structure GOk (C R : Int) (g : List (List PyData)) : Prop where
  c0 : 0 < C
  r0 : 0 < R
  len : (g.length : Int) = R
  row : ∀ r ∈ g, (r.length : Int) = C ∧ ∀ d ∈ r, Cel d
section
variable {C R : Int} {g : List (List PyData)} {x y : Int}
theorem itD_in {α : Type} [Inhabited α] {xs : List α} {k : Int} (h0 : 0 ≤ k) (h1 : k < xs.length) : itD xs k ∈ xs := by
  obtain ⟨j, rfl⟩ := Int.eq_ofNat_of_zero_le h0
  have hj : j < xs.length := by omega
  unfold itD atI ixN
  rw [if_pos (by omega), if_pos (by omega)]
  show (xs[j]?).getD default ∈ xs
  rw [List.getElem?_eq_getElem hj]
  exact List.getElem_mem hj
theorem GOk.rowAt (h : GOk C R g) (y0 : 0 ≤ y) (y1 : y < R) : itD g y ∈ g ∧ ((itD g y).length : Int) = C := by
  have := itD_in (xs := g) y0 (by rw [h.len]; exact y1)
  exact ⟨this, (h.row _ this).1⟩
theorem GOk.cell (h : GOk C R g) (x0 : 0 ≤ x) (x1 : x < C) (y0 : 0 ≤ y) (y1 : y < R) : Cel (itD (itD g y) x) := by
  obtain ⟨a, b⟩ := h.rowAt y0 y1
  exact (h.row _ a).2 _ (itD_in x0 (by rw [b]; exact x1))
def vat (C R : Int) (g : List (List PyData)) (x y : Int) (p : Nat) : Int × Int := if 0 ≤ x ∧ x < C ∧ 0 ≤ y ∧ y < R then vc (itD (itD g y) x) p else (0, 0)
theorem vat_in (h : GOk C R g) {p : Nat} (hp : p = 2 ∨ p = 3) : VOk (vat C R g x y p) := by
  unfold vat
  split
  · rename_i c
    exact vc_in (h.cell c.1 c.2.1 c.2.2.1 c.2.2.2) hp
  · exact vok0
theorem has_eq : F_MotionGrid__has ⟨C, R, g⟩ x y = .ok (decide (0 ≤ x ∧ x < C ∧ 0 ≤ y ∧ y < R)) := by
  unfold F_MotionGrid__has
  by_cases a : 0 ≤ x
  · by_cases b : x < C
    · by_cases c : 0 ≤ y
      · by_cases d : y < R <;> simp [a, b, c, d]
      · simp [a, b, c]
    · simp [a, b]
  · simp [a]
theorem motion_at_eq (h : GOk C R g) : F_MotionGrid_motion_at ⟨C, R, g⟩ x y = .ok (if 0 ≤ x ∧ x < C ∧ 0 ≤ y ∧ y < R then itD (itD g y) x else .none) := by
  unfold F_MotionGrid_motion_at
  rw [has_eq, bind_ok]
  by_cases c : 0 ≤ x ∧ x < C ∧ 0 ≤ y ∧ y < R
  · obtain ⟨a, b⟩ := h.rowAt c.2.2.1 c.2.2.2
    have hl := h.len
    rw [if_pos (by simpa using c), if_pos c, grd_pos (by show -(g.length : Int) ≤ y ∧ y < (g.length : Int); omega), grd_pos (by show -((itD g y).length : Int) ≤ x ∧ x < ((itD g y).length : Int); omega)]
  · rw [if_neg (by simpa using c), if_neg c]
    rfl
theorem at_cel (h : GOk C R g) : Cel (if 0 ≤ x ∧ x < C ∧ 0 ≤ y ∧ y < R then itD (itD g y) x else .none) := by
  split
  · rename_i c
    exact h.cell c.1 c.2.1 c.2.2.1 c.2.2.2
  · exact .inl rfl
theorem vector_at_eq (h : GOk C R g) {p : Nat} (hp : p = 2 ∨ p = 3) : F_MotionGrid__vector_at ⟨C, R, g⟩ x y (p : Int) = .ok (vat C R g x y p) := by
  unfold F_MotionGrid__vector_at vat
  rw [motion_at_eq h, bind_ok]
  by_cases c : 0 ≤ x ∧ x < C ∧ 0 ≤ y ∧ y < R
  · rw [if_pos c, if_pos c]
    have hc := h.cell c.1 c.2.1 c.2.2.1 c.2.2.2
    generalize itD (itD g y) x = d at hc
    unfold vc
    by_cases n : dNone d = true
    · rw [if_pos n, if_pos n]
    · obtain ⟨a, b⟩ := hc.at (by simpa using n) hp
      rw [if_neg n, if_neg n, Int.toNat_natCast, grd_pos ⟨by omega, a⟩]
      by_cases n2 : dNone (dGet d p) = true
      · rw [if_pos n2, if_pos n2]
      · rw [if_neg n2, if_neg n2, grd_pos ⟨by omega, a⟩, grd_pos (b.dec (by simpa using n2)).1]
  · rw [if_neg c, if_neg c]
    rfl
def md (l : List Int) : Int := itD (sortL l) 1
theorem sortL_len (l : List Int) : (sortL l).length = l.length := (sortL_perm l).length_eq
theorem median_eq {l : List Int} (h : l.length = 3) : F__median l = .ok (md l) := by
  unfold F__median md
  have := sortL_len l
  rw [grd_pos (by omega)]
theorem md_mem {l : List Int} (h : l.length = 3) : md l ∈ l := by
  have := sortL_len l
  exact (sortL_perm l).mem_iff.mp (itD_in (by decide) (by omega))
def mdv (a b c : Int × Int) : Int × Int := (md [a.1, b.1, c.1], md [a.2, b.2, c.2])
theorem mdv_in {a b c : Int × Int} (ha : VOk a) (hb : VOk b) (hc : VOk c) : VOk (mdv a b c) := by
  have h1 := md_mem (l := [a.1, b.1, c.1]) rfl
  have h2 := md_mem (l := [a.2, b.2, c.2]) rfl
  simp only [List.mem_cons, List.not_mem_nil, or_false] at h1 h2
  obtain ⟨⟨a1, a2⟩, a3, a4⟩ := ha
  obtain ⟨⟨b1, b2⟩, b3, b4⟩ := hb
  obtain ⟨⟨c1, c2⟩, c3, c4⟩ := hc
  unfold mdv VOk
  rcases h1 with q | q | q <;> rcases h2 with r | r | r <;> rw [q, r] <;> exact ⟨⟨by assumption, by assumption⟩, by assumption, by assumption⟩
def pr (C R : Int) (g : List (List PyData)) (x y : Int) (p : Nat) : Int × Int := mdv (vat C R g (x - 1) y p) (vat C R g x (y - 1) p) (vat C R g (x - 1) (y - 1) p)
theorem pr_in (h : GOk C R g) {p : Nat} (hp : p = 2 ∨ p = 3) : VOk (pr C R g x y p) := mdv_in (vat_in h hp) (vat_in h hp) (vat_in h hp)
theorem predicted_eq (h : GOk C R g) (b : Bool) : F_MotionGrid_predicted ⟨C, R, g⟩ x y b = .ok (pr C R g x y (if b = true then 3 else 2)) := by
  unfold F_MotionGrid_predicted
  rw [bnd_eq]
  have hp : ((if b = true then 3 else 2 : Nat) = 2 ∨ (if b = true then 3 else 2 : Nat) = 3) := by cases b <;> simp
  have e : (if b = true then (3 : Int) else 2) = ((if b = true then 3 else 2 : Nat) : Int) := by cases b <;> rfl
  rw [e]
  generalize (if b = true then 3 else 2 : Nat) = p at hp
  refine Gv.get (Gv.bind_eq (vector_at_eq h hp) (Gv.bind_eq (vector_at_eq h hp) (Gv.bind_eq (vector_at_eq h hp) ?_)))
  generalize ea : vat C R g (x - 1) y p = a
  generalize eb : vat C R g x (y - 1) p = b
  generalize ec : vat C R g (x - 1) (y - 1) p = c
  refine Gv.bind_eq (a := [a.1, b.1, c.1]) rfl (Gv.bind_eq (median_eq rfl) (Gv.bind_eq (a := [a.2, b.2, c.2]) rfl (Gv.bind_eq (median_eq rfl) (.ok ?_))))
  unfold pr mdv
  rw [ea, eb, ec]
theorem setL_nat {α : Type} {xs : List α} {k : Int} {v : α} (h0 : 0 ≤ k) (h1 : k < xs.length) : setL xs k v = xs.set k.toNat v := by
  obtain ⟨j, rfl⟩ := Int.eq_ofNat_of_zero_le h0
  unfold setL ixN
  rw [if_pos (by omega), if_pos (by omega)]
  rfl
def kept (g : List (List PyData)) (x y : Int) (d : PyData) : List (List PyData) := setL g y (setL (itD g y) x d)
theorem kept_ok (h : GOk C R g) (x0 : 0 ≤ x) (x1 : x < C) (y0 : 0 ≤ y) (y1 : y < R) {d : PyData} (hd : Cel d) : GOk C R (kept g x y d) := by
  obtain ⟨a, b⟩ := h.rowAt y0 y1
  have hl := h.len
  unfold kept
  rw [setL_nat y0 (by omega), setL_nat x0 (by omega)]
  refine ⟨h.c0, h.r0, by rw [List.length_set]; exact hl, fun r hr => ?_⟩
  rcases List.mem_or_eq_of_mem_set hr with hr | rfl
  · exact h.row r hr
  · refine ⟨by rw [List.length_set]; exact b, fun e he => ?_⟩
    rcases List.mem_or_eq_of_mem_set he with he | rfl
    · exact (h.row _ a).2 e he
    · exact hd
theorem keep_eq (h : GOk C R g) (x0 : 0 ≤ x) (x1 : x < C) (y0 : 0 ≤ y) (y1 : y < R) (d : PyData) : F_MotionGrid_keep_quarter ⟨C, R, g⟩ x y d = .ok ⟨C, R, kept g x y d⟩ := by
  obtain ⟨a, b⟩ := h.rowAt y0 y1
  have hl := h.len
  unfold F_MotionGrid_keep_quarter
  rw [has_eq, bind_ok, if_pos (by simpa using (⟨x0, x1, y0, y1⟩ : 0 ≤ x ∧ x < C ∧ 0 ≤ y ∧ y < R)), grd_pos (by show -(g.length : Int) ≤ y ∧ y < (g.length : Int); omega), grd_pos (by show -((itD g y).length : Int) ≤ x ∧ x < ((itD g y).length : Int); omega), bnd_eq]
  rfl
end
def blank (C R : Int) : List (List PyData) := (rng 0 R.toNat).map fun _ => repL [PyData.none] C
theorem repL_one {α : Type} (a : α) (k : Int) : repL [a] k = List.replicate k.toNat a := by
  unfold repL
  induction k.toNat with
  | zero => rfl
  | succ n ih => rw [List.replicate_succ, List.flatten_cons, ih]; rfl
theorem blank_ok {C R : Int} (hc : 0 < C) (hr : 0 < R) : GOk C R (blank C R) := by
  refine ⟨hc, hr, by unfold blank; rw [List.length_map, rng_len]; omega, fun r hr => ?_⟩
  unfold blank at hr
  obtain ⟨_, _, rfl⟩ := List.mem_map.mp hr
  rw [repL_one, List.length_replicate]
  refine ⟨by omega, fun d hd => ?_⟩
  rw [(List.mem_replicate.mp hd).2]
  exact .inl rfl
theorem grid_init {c r : Int} (hc : 0 < c ∧ c ≤ 1000) (hr : 0 < r ∧ r ≤ 1000) : F_MotionGrid___init__ c r = .ok ⟨2 * c, 2 * r, blank (2 * c) (2 * r)⟩ := by
  unfold F_MotionGrid___init__
  rw [bnd_eq, bnd_eq, grd_pos (by omega)]
  refine Gv.get (Gv.bind_eq (mapA_pure0 (g := fun _ => repL [PyData.none] (2 * c)) (fun x _ => ?_) (by rw [rng_len]; omega)) (.ok rfl))
  unfold F_MotionGrid___init___c1
  rw [grd_pos (by show _ ∧ _ ∧ 1 * Int.toNat (2 * c) ≤ 1000000; omega)]
  rfl
/-! the law's own grid, read -/
def isV (d : PyData) : Prop := ∃ v, d = vE v ∧ VOk v
theorem inb_at : ∀ {vs ls : List Int} (k : Nat) {l : Int}, Inb vs ls → ls[k]? = some l → 0 ≤ itD vs (k : Int) ∧ itD vs (k : Int) < l
  | [], [], _, _, _, h => by simp at h
  | v :: vs, l :: ls, 0, _, h, e => by
    simp at e
    subst e
    have : itD (v :: vs) ((0 : Nat) : Int) = v := itD_lit 0 rfl rfl
    rw [this]
    exact ⟨h.1, h.2.1⟩
  | v :: vs, l :: ls, k + 1, q, h, e => by
    have ih := inb_at k h.2.2 (show ls[k]? = some q by simpa using e)
    have hk := get_len (show ls[k]? = some q by simpa using e)
    have hk2 : k < vs.length := by rw [h.2.2.len]; exact hk
    have e2 : itD vs (k : Int) = vs[k] := itD_lit k rfl (List.getElem?_eq_getElem hk2)
    have : itD (v :: vs) ((k + 1 : Nat) : Int) = itD vs (k : Int) := by
      rw [e2]
      exact itD_lit (k + 1) rfl (by rw [List.getElem?_cons_succ]; exact List.getElem?_eq_getElem hk2)
    rw [this]
    exact ih
  | [], _ :: _, _, _, h, _ => h.elim
  | _ :: _, [], _, _, h, _ => h.elim
section
variable {C R : Int} {g : List (List PyData)} {x y : Int}
theorem law_vector_eq (h : GOk C R g) {s : Int} (hs : s = 0 ∨ s = 1) : F__law_vector g x y s = .ok (vat C R g x y (2 + s).toNat) := by
  have hp : (2 + s).toNat = 2 ∨ (2 + s).toNat = 3 := by omega
  have hl := h.len
  have hr := h.r0
  unfold F__law_vector vat
  by_cases c : 0 ≤ x ∧ x < C ∧ 0 ≤ y ∧ y < R
  · have hc := h.cell c.1 c.2.1 c.2.2.1 c.2.2.2
    obtain ⟨a, b⟩ := h.rowAt c.2.2.1 c.2.2.2
    obtain ⟨a0, b0⟩ := h.rowAt (y := 0) (by decide) hr
    have gy : -(g.length : Int) ≤ y ∧ y < (g.length : Int) := by omega
    have gx : -((itD g y).length : Int) ≤ x ∧ x < ((itD g y).length : Int) := by omega
    rw [if_pos c, if_neg (by omega), if_neg (by omega), if_neg (by omega), grd_pos (by omega), if_neg (by rw [b0]; omega), grd_pos gy, grd_pos gx]
    generalize itD (itD g y) x = d at hc
    unfold vc
    by_cases n : dNone d = true
    · rw [if_pos n, if_pos n]
    · obtain ⟨a, b⟩ := hc.at (by simpa using n) hp
      rw [if_neg n, if_neg n, grd_pos gy, grd_pos gx, grd_pos ⟨by omega, a⟩]
      by_cases n2 : dNone (dGet d (2 + s).toNat) = true
      · rw [if_pos n2, if_pos n2]
      · rw [if_neg n2, if_neg n2, grd_pos (b.dec (by simpa using n2)).1]
  · rw [if_neg c]
    by_cases c1 : x < 0
    · rw [if_pos c1]
    rw [if_neg c1]
    by_cases c2 : y < 0
    · rw [if_pos c2]
    rw [if_neg c2]
    by_cases c3 : (g.length : Int) ≤ y
    · rw [if_pos c3]
    rw [if_neg c3, grd_pos (by omega)]
    obtain ⟨a0, b0⟩ := h.rowAt (y := 0) (by decide) hr
    rw [if_pos (by rw [b0]; omega)]
theorem law_median_eq {l : List Int} (h : l.length = 3) : F__law_median l = .ok (md l) := by
  unfold F__law_median md
  have := sortL_len l
  rw [grd_pos (by omega)]
theorem law_predicted_eq (h : GOk C R g) {s : Int} (hs : s = 0 ∨ s = 1) : F__law_predicted g x y s = .ok (pr C R g x y (2 + s).toNat) := by
  unfold F__law_predicted
  refine Gv.get (Gv.bind_eq (law_vector_eq h hs) (Gv.bind_eq (law_vector_eq h hs) (Gv.bind_eq (law_vector_eq h hs) ?_)))
  generalize (2 + s).toNat = p
  generalize ea : vat C R g (x - 1) y p = a
  generalize eb : vat C R g x (y - 1) p = b
  generalize ec : vat C R g (x - 1) (y - 1) p = c
  refine Gv.bind_eq (a := [a.1, b.1, c.1]) rfl (Gv.bind_eq (law_median_eq rfl) (Gv.bind_eq (a := [a.2, b.2, c.2]) rfl (Gv.bind_eq (law_median_eq rfl) (.ok ?_))))
  unfold pr mdv
  rw [ea, eb, ec]
end
/-! a motion of any octets -/
abbrev Mo := Int × Int × PyData × PyData
structure MOk (kind refs : Int) (m : Mo) : Prop where
  f : Vo m.2.2.1
  s : Vo m.2.2.2
  k : (kind = 1 ∧ m.1 = 0 ∧ (0 ≤ m.2.1 ∧ m.2.1 < refs) ∧ isV m.2.2.1 ∧ m.2.2.2 = .none) ∨
    (kind = 2 ∧ m.2.1 = 0 ∧ ((m.1 = 0 ∧ isV m.2.2.1 ∧ m.2.2.2 = .none) ∨ (m.1 = 1 ∧ m.2.2.1 = .none ∧ isV m.2.2.2) ∨ (m.1 = 2 ∧ isV m.2.2.1 ∧ isV m.2.2.2)))
def HdOk (kind refs : Int) (H : St_PictureHeader) : Prop := ((kind = 2 ∧ H.kind = "B") ∨ (kind = 1 ∧ H.kind = "P")) ∧ (H.refs.length : Int) = refs
theorem hd_if {kind refs : Int} {H : St_PictureHeader} (hh : HdOk kind refs H) : (V.str H.kind = V.str ("B" : Str)) ↔ kind = 2 := by
  rcases hh.1 with ⟨a, b⟩ | ⟨a, b⟩
  · rw [b]
    exact ⟨fun _ => a, fun _ => rfl⟩
  · rw [b]
    exact ⟨fun z => absurd z (by decide), fun z => by omega⟩
def cl (v : Int) : Int := if v < -1023 then -1023 else if 1023 < v then 1023 else v
theorem cl_in (v : Int) : -1023 ≤ cl v ∧ cl v ≤ 1023 := by
  unfold cl
  split
  · decide
  · split
    · decide
    · omega
theorem clip_eq (v : Int) : F__clip_component v = .ok (cl v) := by
  have : F_clip v (-1023) 1023 = .ok (cl v) := by
    unfold F_clip cl
    congr 1
    by_cases c : v < -1023
    · have e : (if (-1023 : Int) > v then (-1023 : Int) else v) = -1023 := if_pos (by omega)
      rw [e, if_pos c]
      decide
    · have e : (if (-1023 : Int) > v then (-1023 : Int) else v) = v := if_neg (by omega)
      rw [e, if_neg c]
  unfold F__clip_component
  rw [this]
  rfl
theorem law_clip (v : Int) : (if (if v > -1023 then v else -1023) < 1023 then (if v > -1023 then v else -1023) else 1023) = cl v := by
  unfold cl
  by_cases c : v > -1023
  · have e : (if v > -1023 then v else -1023) = v := if_pos c
    rw [e, if_neg (show ¬ v < -1023 by omega)]
    by_cases c2 : v < 1023
    · rw [if_pos c2, if_neg (by omega)]
    · rw [if_neg c2]
      by_cases c3 : 1023 < v
      · rw [if_pos c3]
      · rw [if_neg c3]
        omega
  · have e : (if v > -1023 then v else -1023) = -1023 := if_neg c
    rw [e, if_pos (by decide)]
    by_cases c2 : v < -1023
    · rw [if_pos c2]
    · rw [if_neg c2, if_neg (by omega)]
      omega
section
variable {d : DecS} {C R : Int} {g : List (List PyData)} {x y kind refs : Int}
/-- one vector: as the program and as the law read it -/
theorem vec_both (hd : DecG d) (p : Int × Int) : ∃ (a b : Int) (d1 d2 : DecS), F_SymbolReader_signed ⟨d⟩ 25 = .ok (a, ⟨d1⟩) ∧ F_SymbolReader_signed ⟨d1⟩ 41 = .ok (b, ⟨d2⟩) ∧ DecG d2 ∧
    F__read_vector ⟨d⟩ p = .ok ((cl (p.1 + a), cl (p.2 + b)), ⟨d2⟩) := by
  obtain ⟨⟨a, ⟨d1⟩⟩, e1, _, g1⟩ := rd_signed hd (base := 25) (by decide) (by decide)
  have g1 : DecG d1 := g1
  obtain ⟨⟨b, ⟨d2⟩⟩, e2, _, g2⟩ := rd_signed g1 (base := 41) (by decide) (by decide)
  refine ⟨a, b, d1, d2, e1, e2, g2, ?_⟩
  unfold F__read_vector
  rw [e1, bind_ok, bnd_eq]
  show (noEr (F_SymbolReader_signed ⟨d1⟩ 41)).bind _ = _
  rw [e2, noEr_ok, bind_ok, bnd_eq]
  show (noEr (F_clip_vector (p.1 + a) (p.2 + b))).bind _ = _
  unfold F_clip_vector
  rw [clip_eq, bind_ok, clip_eq, bind_ok]
  rfl
theorem due_turn (hd : DecG d) (G : GOk C R g) {dir s : Int} (hs : s = 0 ∨ s = 1) (hn : ¬ dir = 1 - s) {vs : List PyData} (hv : vs.length = 2) : ∃ v d', VOk v ∧ DecG d' ∧
    F__read_vector ⟨d⟩ (pr C R g x y (2 + s).toNat) = .ok (v, ⟨d'⟩) ∧ F__law_due_b3 g (x, y) dir ⟨d⟩ vs s = .ok (⟨d'⟩, setL vs s (vE v)) := by
  obtain ⟨a, b, d1, d2, e1, e2, g2, e3⟩ := vec_both hd (pr C R g x y (2 + s).toNat)
  refine ⟨_, d2, ⟨cl_in _, cl_in _⟩, g2, e3, ?_⟩
  unfold F__law_due_b3
  rw [if_neg hn, law_predicted_eq G hs, noEr_ok, bind_ok, e1, noEr_ok, bind_ok, bnd_eq]
  show (noEr (F_SymbolReader_signed ⟨d1⟩ 41)).bind _ = _
  rw [e2, noEr_ok, bind_ok, bnd_eq]
  rw [grd_pos (by omega), bnd_eq, law_clip, law_clip]
theorem head_both (hd : DecG d) {H : St_PictureHeader} (hh : HdOk kind refs H) (hr : refs = 1 ∨ refs = 2) : ∃ (dir ix : Int) (d1 : DecS), DecG d1 ∧ ((kind = 1 ∧ dir = 0 ∧ 0 ≤ ix ∧ ix < refs) ∨ (kind = 2 ∧ ix = 0 ∧ 0 ≤ dir ∧ dir < 3)) ∧
    F_read_motion ⟨d⟩ H ⟨C, R, g⟩ x y = F_read_motion_k1 ⟨C, R, g⟩ x y ⟨d1⟩ dir ix ∧ F__law_due ⟨d⟩ g (x, y) kind refs = F__law_due_k2 g (x, y) ix ⟨d1⟩ dir := by
  have i3 : F__choice_digits 20 3 = .ok ((2 : Nat) : Int) := rx_ok (by decide +kernel)
  have i2 : F__choice_digits 24 2 = .ok ((1 : Nat) : Int) := rx_ok (by decide +kernel)
  unfold F_read_motion F__law_due
  by_cases k : kind = 2
  · obtain ⟨⟨v, ⟨d1⟩⟩, e1, hv, g1⟩ := rd_choice hd (by decide) i3 (by decide) (by decide) (by decide)
    refine ⟨v, 0, d1, g1, .inr ⟨k, rfl, hv⟩, ?_, ?_⟩
    · rw [if_pos ((hd_if hh).mpr k), e1]
      rfl
    · rw [if_neg (by omega), bind_ok]
      unfold F__law_due_k1
      rw [if_pos k, e1]
      rfl
  · have k1 : kind = 1 := by
      rcases hh.1 with ⟨q, _⟩ | ⟨q, _⟩
      · exact absurd q k
      · exact q
    rw [if_neg (fun z => k ((hd_if hh).mp z)), if_pos k1]
    by_cases r : refs = 2
    · obtain ⟨⟨v, ⟨d1⟩⟩, e1, hv, g1⟩ := rd_choice hd (by decide) i2 (by decide) (by decide) (by decide)
      refine ⟨0, v, d1, g1, .inl ⟨k1, rfl, hv.1, by rw [r]; exact hv.2⟩, ?_, ?_⟩
      · rw [if_pos (by rw [hh.2]; exact r), e1]
        rfl
      · rw [if_pos r, e1, bind_ok, bind_ok]
        unfold F__law_due_k1
        rw [if_neg k]
        rfl
    · refine ⟨0, 0, d, hd, .inl ⟨k1, rfl, by omega, by omega⟩, ?_, ?_⟩
      · rw [if_neg (by rw [hh.2]; exact r)]
        rfl
      · rw [if_neg r, bind_ok]
        unfold F__law_due_k1
        rw [if_neg k]
        rfl
theorem both (hd : DecG d) {H : St_PictureHeader} (hh : HdOk kind refs H) (hr : refs = 1 ∨ refs = 2) (G : GOk C R g) : ∃ (m : Mo) (d' : DecS), DecG d' ∧ MOk kind refs m ∧
    F_read_motion ⟨d⟩ H ⟨C, R, g⟩ x y = .ok (m, ⟨d'⟩) ∧ F__law_due ⟨d⟩ g (x, y) kind refs = .ok (m, ⟨d'⟩) := by
  obtain ⟨dir, ix, d1, g1, hk, e1, e2⟩ := head_both (C := C) (R := R) (g := g) (x := x) (y := y) hd hh hr
  rw [e1, e2]
  unfold F_read_motion_k1 F__law_due_k2
  rw [show rng 0 (Int.toNat 2) = [0, 1] from by decide]
  -- the first vector
  obtain ⟨f, d2, g2, hf, p1, q1⟩ : ∃ (f : PyData) (d2 : DecS), DecG d2 ∧ ((dir = 1 ∧ f = .none) ∨ (dir ≠ 1 ∧ isV f)) ∧
      (if (dir : Int) = 1 then .ok (⟨d1⟩, encN ()) else Rx.bind (noEr (F_MotionGrid_predicted ⟨C, R, g⟩ x y false)) fun v => Rx.bind (noEr (F__read_vector ⟨d1⟩ v)) fun w => .ok (w.2, encT2 PyData.int PyData.int w.1) : Rx (St_SymbolReader × PyData)) = .ok (⟨d2⟩, f) ∧
      F__law_due_b3 g (x, y) dir ⟨d1⟩ [encN (), encN ()] 0 = .ok (⟨d2⟩, [f, encN ()]) := by
    by_cases c : dir = 1
    · refine ⟨encN (), d1, g1, .inl ⟨c, rfl⟩, if_pos c, ?_⟩
      unfold F__law_due_b3
      rw [if_pos (by omega)]
    · obtain ⟨v, d2, hv, g2, r1, r2⟩ := due_turn (x := x) (y := y) g1 G (dir := dir) (s := 0) (.inl rfl) (by omega) (vs := [encN (), encN ()]) rfl
      refine ⟨vE v, d2, g2, .inr ⟨c, v, rfl, hv⟩, ?_, r2⟩
      rw [if_neg c, predicted_eq G, noEr_ok, bind_ok]
      show (noEr (F__read_vector ⟨d1⟩ (pr C R g x y 2))).bind _ = _
      have r1 : F__read_vector ⟨d1⟩ (pr C R g x y 2) = .ok (v, ⟨d2⟩) := r1
      rw [r1]
      rfl
  rw [p1, bind_ok]
  unfold F_read_motion_k2
  obtain ⟨s, d3, g3, hs, p2, q2⟩ : ∃ (s : PyData) (d3 : DecS), DecG d3 ∧ ((dir = 0 ∧ s = .none) ∨ (dir ≠ 0 ∧ isV s)) ∧
      (if (dir : Int) = 0 then .ok (⟨d2⟩, encN ()) else Rx.bind (noEr (F_MotionGrid_predicted ⟨C, R, g⟩ x y true)) fun v => Rx.bind (noEr (F__read_vector ⟨d2⟩ v)) fun w => .ok (w.2, encT2 PyData.int PyData.int w.1) : Rx (St_SymbolReader × PyData)) = .ok (⟨d3⟩, s) ∧
      F__law_due_b3 g (x, y) dir ⟨d2⟩ [f, encN ()] 1 = .ok (⟨d3⟩, [f, s]) := by
    by_cases c : dir = 0
    · refine ⟨encN (), d2, g2, .inl ⟨c, rfl⟩, if_pos c, ?_⟩
      unfold F__law_due_b3
      rw [if_pos (by omega)]
    · obtain ⟨v, d3, hv, g3, r1, r2⟩ := due_turn (x := x) (y := y) g2 G (dir := dir) (s := 1) (.inr rfl) (by omega) (vs := [f, encN ()]) rfl
      refine ⟨vE v, d3, g3, .inr ⟨c, v, rfl, hv⟩, ?_, r2⟩
      rw [if_neg c, predicted_eq G, noEr_ok, bind_ok]
      show (noEr (F__read_vector ⟨d2⟩ (pr C R g x y 3))).bind _ = _
      have r1 : F__read_vector ⟨d2⟩ (pr C R g x y 3) = .ok (v, ⟨d3⟩) := r1
      rw [r1]
      rfl
  refine ⟨(dir, ix, f, s), d3, g3, ⟨?_, ?_, ?_⟩, ?_, ?_⟩
  · rcases hf with ⟨_, q⟩ | ⟨_, q⟩
    · exact .inl q
    · exact .inr q
  · rcases hs with ⟨_, q⟩ | ⟨_, q⟩
    · exact .inl q
    · exact .inr q
  · show (kind = 1 ∧ dir = 0 ∧ (0 ≤ ix ∧ ix < refs) ∧ isV f ∧ s = .none) ∨ (kind = 2 ∧ ix = 0 ∧ ((dir = 0 ∧ isV f ∧ s = .none) ∨ (dir = 1 ∧ f = .none ∧ isV s) ∨ (dir = 2 ∧ isV f ∧ isV s)))
    rcases hk with ⟨k, q, r⟩ | ⟨k, q, r⟩
    · refine .inl ⟨k, q, r, ?_, ?_⟩
      · rcases hf with ⟨z, _⟩ | ⟨_, z⟩
        · omega
        · exact z
      · rcases hs with ⟨_, z⟩ | ⟨z, _⟩
        · exact z
        · exact absurd q z
    · refine .inr ⟨k, q, ?_⟩
      rcases hf with ⟨a, b⟩ | ⟨a, b⟩ <;> rcases hs with ⟨e, h⟩ | ⟨e, h⟩
      · omega
      · exact .inr (.inl ⟨a, b, h⟩)
      · exact .inl ⟨e, b, h⟩
      · exact .inr (.inr ⟨by omega, b, h⟩)
  · rw [p2, bind_ok]
    rfl
  · show Rx.bind ((F__law_due_b3 g (x, y) dir ⟨d1⟩ [encN (), encN ()] 0).bind _) _ = _
    rw [q1, bind_ok]
    show Rx.bind ((F__law_due_b3 g (x, y) dir ⟨d2⟩ [f, encN ()] 1).bind _) _ = _
    rw [q2, bind_ok]
    show F__law_due_r3 ix dir ⟨d3⟩ [f, s] = _
    unfold F__law_due_r3
    rw [grd_pos (by show -(2 : Int) ≤ 0 ∧ (0 : Int) < 2; decide), grd_pos (by show -(2 : Int) ≤ 1 ∧ (1 : Int) < 2; decide)]
    rfl
theorem isv_ok {f : PyData} (h : isV f) : F__law_is_vector f = .ok true := by
  obtain ⟨v, rfl, hv⟩ := h
  unfold F__law_is_vector
  rw [if_pos (show dTup (vE v) = true from rfl), grd_pos (vE_ok v), if_pos rfl, show (cT2 cI cI).dec (vE v) = v from vD_E v]
  rw [forR_unit]
  · rfl
  · intro z hz
    unfold F__law_is_vector_b1
    have : -1023 ≤ z ∧ z ≤ 1023 := by
      simp only [List.mem_cons, List.not_mem_nil, or_false] at hz
      rcases hz with rfl | rfl
      · exact hv.1
      · exact hv.2
    rw [if_pos this.1, if_pos this.2]
theorem ism_ok {m : Mo} (h : MOk kind refs m) : F__law_is_motion m kind refs = .ok true := by
  obtain ⟨m1, m2, m3, m4⟩ := m
  unfold F__law_is_motion
  rw [if_pos rfl]
  rcases h.k with ⟨k, a, ⟨b1, b2⟩, f, s⟩ | ⟨k, a, q⟩
  · have a : m1 = 0 := a
    have s : m4 = .none := s
    have b1 : 0 ≤ m2 := b1
    have b2 : m2 < refs := b2
    have f : isV m3 := f
    rw [if_pos k, if_pos (by simpa using a), if_pos b1, if_pos (by simpa using b2)]
    show (F__law_is_vector m3).bind _ = _
    rw [isv_ok f, bind_ok, if_pos rfl, s]
    rfl
  · have a : m2 = 0 := a
    rw [if_neg (by omega), if_pos a]
    rcases q with ⟨q, f, s⟩ | ⟨q, f, s⟩ | ⟨q, f, s⟩
    · have q : m1 = 0 := q
      have s : m4 = .none := s
      have f : isV m3 := f
      rw [if_pos (by show 0 ≤ m1; omega), if_pos (by show m1 ≤ 2; omega), if_pos q]
      show (F__law_is_vector m3).bind _ = _
      rw [isv_ok f, bind_ok, if_pos rfl, s]
      rfl
    · have q : m1 = 1 := q
      have f : m3 = .none := f
      have s : isV m4 := s
      rw [if_pos (by show 0 ≤ m1; omega), if_pos (by show m1 ≤ 2; omega), if_neg (by show ¬ m1 = 0; omega), if_pos q, if_pos (by show dNone m3 = true; rw [f]; rfl)]
      show (F__law_is_vector m4).bind _ = _
      rw [isv_ok s, bind_ok]
    · have q : m1 = 2 := q
      have f : isV m3 := f
      have s : isV m4 := s
      rw [if_pos (by show 0 ≤ m1; omega), if_pos (by show m1 ≤ 2; omega), if_neg (by show ¬ m1 = 0; omega), if_neg (by show ¬ m1 = 1; omega)]
      show (F__law_is_vector m3).bind _ = _
      rw [isv_ok f, bind_ok, if_pos rfl]
      show (F__law_is_vector m4).bind _ = _
      rw [isv_ok s, bind_ok]
end
/-! the law -/
theorem octs_any {l : Int} (hl : 0 ≤ l ∧ l < 31) {v : List Int} (h : Inb v (repL [256] l)) : ∀ x ∈ v, 0 ≤ x ∧ x ≤ 255 := by
  rw [repL_one] at h
  generalize l.toNat = n at h
  clear hl
  induction n generalizing v with
  | zero => rw [Inb.nil h]; exact fun _ z => nomatch z
  | succ n ih =>
    rw [List.replicate_succ] at h
    obtain ⟨a, r, rfl, a0, a1, hr⟩ := h.cons
    intro x hx
    rcases List.mem_cons.mp hx with rfl | hx
    · omega
    · exact ih hr x hx
theorem repL_in {a l : Int} (h : 0 ≤ a ∧ a ≤ 255) : ∀ x ∈ repL [a] l, 0 ≤ x ∧ x ≤ 255 := by
  rw [repL_one]
  intro x hx
  rw [(List.mem_replicate.mp hx).2]
  exact h
theorem law_true (xs : List Int) (h : xs.length ≤ 63) : F_law xs = .ok true := by
  refine Gv.get ?_
  unfold F_law
  refine Gv.bind (cell_gv xs 0 (by decide)) fun cell _ => Gv.bind (draws_gv cell _ (by decide) (by decide)) fun D hD => ?_
  have hl : D.length = 4 := hD.len
  have d0 : 0 ≤ itD D 0 ∧ itD D 0 < 2 := inb_at 0 hD rfl
  have d1 : 0 ≤ itD D 1 ∧ itD D 1 < 2 := inb_at 1 hD rfl
  have d2 : 0 ≤ itD D 2 ∧ itD D 2 < 31 := inb_at 2 hD rfl
  refine Gv.grd (by omega) (Gv.bnd fun kind hkind => Gv.grd (by omega) (Gv.grd (by omega) (Gv.grd (by show -(2 : Int) ≤ itD D 0 ∧ itD D 0 < 2; omega) (Gv.bnd fun refs hrefs => ?_))))
  have hk : kind = 1 ∨ kind = 2 := by omega
  have hrk : (refs = 1 ∨ refs = 2) ∧ (kind = 2 → refs = 2) := by
    have : itD D 0 = 0 ∨ itD D 0 = 1 := by omega
    rcases this with q | q
    · rw [q, show itD [1 + itD D 1, 2] 0 = 1 + itD D 1 from itD_lit 0 rfl rfl] at hrefs
      omega
    · rw [q, show itD [1 + itD D 1, 2] 1 = 2 from itD_lit 1 rfl rfl] at hrefs
      omega
  obtain ⟨hr, hkr⟩ := hrk
  refine Gv.bind_eq (a := ⟨16, 16, 8, 0⟩) (rx_ok (by decide +kernel)) (Gv.bind_eq (a := ⟨⟨16, 16, 8, 0⟩, 4, 1, false, false, 1⟩) (rx_ok (by decide +kernel)) (Gv.grd (by show -(3 : Int) ≤ kind ∧ kind < 3; omega) ?_))
  refine Gv.bind (P := fun H => HdOk kind refs H) ?_ fun H hh => ?_
  · rcases hk with rfl | rfl
    · rcases hr with rfl | rfl
      · exact .of_eq (a := ⟨9, "P", 0, [], [3], 8, 0, true, 0⟩) (rx_ok (by decide +kernel)) ⟨.inr ⟨rfl, rfl⟩, rfl⟩
      · exact .of_eq (a := ⟨9, "P", 0, [], [3, 2], 8, 0, true, 0⟩) (rx_ok (by decide +kernel)) ⟨.inr ⟨rfl, rfl⟩, rfl⟩
    · obtain rfl := hkr rfl
      exact .of_eq (a := ⟨9, "B", 0, [], [3, 2], 8, 0, true, 0⟩) (rx_ok (by decide +kernel)) ⟨.inl ⟨rfl, rfl⟩, rfl⟩
  refine Gv.bind (cell_gv xs 1 (by decide)) fun c1 _ => Gv.grd (by omega) (Gv.grd ⟨by omega, by omega, by show 1 * Int.toNat (itD D 2) ≤ 1000000; omega⟩ (Gv.bind (draws_gv c1 _ (fun l hl => by rw [repL_one] at hl; rw [(List.mem_replicate.mp hl).2]; decide) (by rw [repL_one, List.length_replicate]; omega)) fun O hO => ?_))
  have hO := octs_any d2 hO
  refine Gv.bind (P := fun o : List Int => ∀ x ∈ o, 0 ≤ x ∧ x ≤ 255) (Gv.grd (by omega) (Gv.ite (fun _ => Gv.grd (by omega) (Gv.grd ⟨by omega, by omega, by show 1 * Int.toNat (itD D 2) ≤ 1000000; omega⟩ (.ok (repL_in (by decide))))) fun _ => .ok hO)) fun o1 h1 => ?_
  show Gv (F_law_k1 xs D kind refs H o1) _
  unfold F_law_k1
  refine Gv.bind (P := fun o : List Int => ∀ x ∈ o, 0 ≤ x ∧ x ≤ 255) (Gv.grd (by omega) (Gv.ite (fun _ => Gv.grd (by omega) (Gv.grd ⟨by omega, by omega, by show 1 * Int.toNat (itD D 2) ≤ 1000000; omega⟩ (.ok (repL_in (by decide))))) fun _ => .ok h1)) fun o ho => ?_
  unfold F_law_k2
  have b0 := blank_ok (C := 4) (R := 4) (by decide) (by decide)
  refine Gv.bind_eq (grid_init (c := 2) (r := 2) (by decide) (by decide)) (Gv.bind_eq (a := blank 4 4) (mapA_pure0 (g := fun _ => repL [PyData.none] 4) (fun x _ => ?_) (by rw [rng_len]; decide)) (Gv.bind_eq (dinit_eq ho) (Gv.bind_eq (a := ⟨decInit o⟩) rfl (Gv.bind_eq (dinit_eq ho) (Gv.bind_eq (a := ⟨decInit o⟩) rfl ?_)))))
  · unfold F_law_c3
    rw [grd_pos (by show _ ∧ _ ∧ 1 * Int.toNat 4 ≤ 1000000; decide)]
    rfl
  refine Gv.bind (Gv.forR (P := fun _ (s : St_MotionGrid × List (List PyData) × St_SymbolReader × St_SymbolReader) => ∃ g d, GOk 4 4 g ∧ DecG d ∧ s = (⟨4, 4, g⟩, g, ⟨d⟩, ⟨d⟩)) ⟨_, _, b0, decInit_ok ho, rfl⟩ fun i cell s hi p => ?_) ?_
  · obtain ⟨g, d, G, hd, rfl⟩ := p
    show Gv (F_law_b4 kind refs H ⟨4, 4, g⟩ g ⟨d⟩ ⟨d⟩ cell) _
    unfold F_law_b4
    have hx : 0 ≤ cell % 4 ∧ cell % 4 < 4 := by omega
    have hy : 0 ≤ cell / 4 % 4 ∧ cell / 4 % 4 < 4 := by omega
    generalize cell % 4 = x at hx
    generalize cell / 4 % 4 = y at hy
    obtain ⟨m, d', hd', hm, e1, e2⟩ := both (x := x) (y := y) hd hh hr G
    have mc : Cel (mE m) := .inr ⟨m, rfl, hm.f, hm.s⟩
    obtain ⟨a, b⟩ := G.rowAt hy.1 hy.2
    have gl := G.len
    have cc := G.cell hx.1 hx.2 hy.1 hy.2
    have ry : -(g.length : Int) ≤ y ∧ y < (g.length : Int) := by omega
    have rx : -((itD g y).length : Int) ≤ x ∧ x < ((itD g y).length : Int) := by omega
    refine Gv.bind_eq e2 (Gv.bind_eq e1 (Gv.bind_eq (ism_ok hm) (Gv.pos rfl (Gv.grd ⟨mc.shaped, mc.shaped⟩ (Gv.neg ?_ (Gv.bind_eq (motion_at_eq G) ?_))))))
    · show ¬ (!PyData.eqv (mE m) (mE m)) = true
      rw [mc.eqv]
      decide
    rw [if_pos (⟨hx.1, hx.2, hy.1, hy.2⟩ : 0 ≤ x ∧ x < 4 ∧ 0 ≤ y ∧ y < 4)]
    refine Gv.grd ry (Gv.grd rx (Gv.grd ⟨cc.shaped, cc.shaped⟩ (Gv.neg (by rw [cc.eqv]; decide) (Gv.bind_eq (keep_eq G hx.1 hx.2 hy.1 hy.2 _) (Gv.grd ry (Gv.grd rx (Gv.bnd fun z hz => .ok ⟨_, rfl, _, d', kept_ok G hx.1 hx.2 hy.1 hy.2 mc, hd', ?_⟩)))))))
    rw [hz]
    rfl
  · rintro _ ⟨s, rfl, _⟩
    exact .ok rfl

end Vx
namespace Vx
open PySem PySem.Spec PyProof.Rows L2
def topS (i : Nat) : Stmt := PySem.Challenge.pw_thaumatrope_k34_any_octets_read_as_motio.main.body.getD i (.Pass ⟨0, 0, 0, 0⟩)
abbrev s__law_draws : Stmt := topS 61
abbrev s__require : Stmt := topS 44
abbrev s_Settings___init__ : Stmt := inClass (topS 42) 0
abbrev s__check_contexts : Stmt := topS 55
abbrev s__check_unary : Stmt := topS 57
abbrev s__check_context : Stmt := topS 31
abbrev s__adapted : Stmt := topS 32
abbrev s_Decoder__shift : Stmt := inClass (topS 30) 5
abbrev s_Decoder__decide : Stmt := inClass (topS 30) 4
abbrev s_Decoder_read : Stmt := inClass (topS 30) 1
abbrev s_SymbolReader_unary : Stmt := inClass (topS 54) 3
abbrev s__digit_context : Stmt := topS 58
abbrev s_Decoder_read_even : Stmt := inClass (topS 30) 2
abbrev s_SymbolReader_number : Stmt := inClass (topS 54) 4
abbrev s__check_numbers : Stmt := topS 45
abbrev s__check_slots : Stmt := topS 46
abbrev s_PictureHeader___init__ : Stmt := inClass (topS 43) 0
abbrev s_MotionGrid___init__ : Stmt := inClass (topS 16) 0
abbrev s_SymbolReader___init__ : Stmt := inClass (topS 54) 0
abbrev s__law_cell : Stmt := topS 60
abbrev s_Format___init__ : Stmt := inClass (topS 35) 0
abbrev s_Decoder___init__ : Stmt := inClass (topS 30) 0
abbrev s__choice_digits : Stmt := topS 56
abbrev s_SymbolReader_choice : Stmt := inClass (topS 54) 2
abbrev s__law_vector : Stmt := topS 63
abbrev s__law_median : Stmt := topS 62
abbrev s__law_predicted : Stmt := topS 64
abbrev s_SymbolReader_signed : Stmt := inClass (topS 54) 5
abbrev s__law_due : Stmt := topS 67
abbrev s_clip : Stmt := topS 2
abbrev s__clip_component : Stmt := topS 19
abbrev s_clip_vector : Stmt := topS 18
abbrev s__read_vector : Stmt := topS 21
abbrev s__median : Stmt := topS 20
abbrev s_MotionGrid__has : Stmt := inClass (topS 16) 6
abbrev s_MotionGrid_motion_at : Stmt := inClass (topS 16) 3
abbrev s_MotionGrid__vector_at : Stmt := inClass (topS 16) 7
abbrev s_MotionGrid_predicted : Stmt := inClass (topS 16) 4
abbrev s_read_motion : Stmt := topS 17
abbrev s_MotionGrid_keep_quarter : Stmt := inClass (topS 16) 2
abbrev s__law_is_vector : Stmt := topS 65
abbrev s__law_is_motion : Stmt := topS 66
abbrev s_law : Stmt := topS 68
structure Ads where
  td_PictureHeader___init___store : Addr
  td_PictureHeader___init___refs : Addr
  c_Decoder : Addr
  c_SymbolReader : Addr
  c_MotionGrid : Addr
  c_Format : Addr
  c_Settings : Addr
  c_PictureHeader : Addr
  x_CodecError : Addr
  x_BadFormat : Addr
  x_OutOfRange : Addr
  x_BadHeader : Addr
  t_KINDS : Addr
  t_REF_COUNTS : Addr
  t_REF_COUNTS_0 : Addr
  t_REF_COUNTS_1 : Addr
  t_REF_COUNTS_2 : Addr
  z0 : Addr
def excA (AD : Ads) : Nat → Addr
  | 0 => AD.x_CodecError
  | 1 => AD.x_BadFormat
  | 2 => AD.x_OutOfRange
  | 3 => AD.x_BadHeader
  | _ => AD.z0
structure Txt (w : World) (K : PySem.W.Frag) (mg : Str → Option Value) (AD : Ads) : Prop where
  b_abs : mg "abs" = none
  b_int : mg "int" = none
  g_CONTEXTS_symbols : ∃ u, mg "CONTEXTS_symbols" = some u ∧ RelV (V.int 256) u
  g_GREATEST_UNARY : ∃ u, mg "GREATEST_UNARY" = some u ∧ RelV (V.int 64) u
  b_min : mg "min" = none
  g_SHARED : ∃ u, mg "SHARED" = some u ∧ RelV (V.int 8) u
  g_CONTEXTS_coder : ∃ u, mg "CONTEXTS_coder" = some u ∧ RelV (V.int 256) u
  g_SCALE : ∃ u, mg "SCALE" = some u ∧ RelV (V.int 4096) u
  g_RATE : ∃ u, mg "RATE" = some u ∧ RelV (V.int 5) u
  b_len : mg "len" = none
  g_SCALE_BITS : ∃ u, mg "SCALE_BITS" = some u ∧ RelV (V.int 12) u
  g_LEAST_SPAN : ∃ u, mg "LEAST_SPAN" = some u ∧ RelV (V.int 16777216) u
  g_EVEN : ∃ u, mg "EVEN" = some u ∧ RelV (V.int 2048) u
  g_MOST_DIGITS : ∃ u, mg "MOST_DIGITS" = some u ∧ RelV (V.int 20) u
  b_range : mg "range" = none
  g_GREATEST_NUMBER_symbols : ∃ u, mg "GREATEST_NUMBER_symbols" = some u ∧ RelV (V.int 1048576) u
  g_GREATEST_NUMBER_headers : ∃ u, mg "GREATEST_NUMBER_headers" = some u ∧ RelV (V.int 999) u
  g_KINDS : ∃ u, mg "KINDS" = some u ∧ RelV (V.ref AD.t_KINDS) u
  ts_KINDS : ∀ H, SqT K H AD.t_KINDS ((["I", "P", "B"] : List Str).map V.str)
  g_GREATEST_LEVEL : ∃ u, mg "GREATEST_LEVEL" = some u ∧ RelV (V.int 31) u
  g_EVEN_WEIGHT : ∃ u, mg "EVEN_WEIGHT" = some u ∧ RelV (V.int 8) u
  b_sorted : mg "sorted" = none
  b_set : mg "set" = none
  g_REF_COUNTS : ∃ u, mg "REF_COUNTS" = some u ∧ RelV (V.ref AD.t_REF_COUNTS) u
  kd_REF_COUNTS : KDA K w AD.t_REF_COUNTS ([("I", AD.t_REF_COUNTS_0), ("P", AD.t_REF_COUNTS_1), ("B", AD.t_REF_COUNTS_2)] : List (Str × Addr))
  th_REF_COUNTS : ∀ z, hasG ([("I", [0]), ("P", [1, 2]), ("B", [2])] : List (Str × List Int)) z = true → hasG ([("I", AD.t_REF_COUNTS_0), ("P", AD.t_REF_COUNTS_1), ("B", AD.t_REF_COUNTS_2)] : List (Str × Addr)) z = true
  tt_REF_COUNTS : ∀ z, hasG ([("I", [0]), ("P", [1, 2]), ("B", [2])] : List (Str × List Int)) z = true → ∀ H, SqT K H (dictG ([("I", AD.t_REF_COUNTS_0), ("P", AD.t_REF_COUNTS_1), ("B", AD.t_REF_COUNTS_2)] : List (Str × Addr)) z) ((dictG ([("I", [0]), ("P", [1, 2]), ("B", [2])] : List (Str × List Int)) z).map V.int)
  b_list : mg "list" = none
  g_WORD : ∃ u, mg "WORD" = some u ∧ RelV (V.int 4294967296) u
  g_MOST_CHOICES : ∃ u, mg "MOST_CHOICES" = some u ∧ RelV (V.int 16) u
  g_INDEX : ∃ u, mg "INDEX" = some u ∧ RelV (V.int 24) u
  g_DIRECTION : ∃ u, mg "DIRECTION" = some u ∧ RelV (V.int 20) u
  g_VECTOR_X : ∃ u, mg "VECTOR_X" = some u ∧ RelV (V.int 25) u
  g_VECTOR_Y : ∃ u, mg "VECTOR_Y" = some u ∧ RelV (V.int 41) u
  b_max : mg "max" = none
  g_GREATEST_COMPONENT : ∃ u, mg "GREATEST_COMPONENT" = some u ∧ RelV (V.int 1023) u
  g_SECOND : ∃ u, mg "SECOND" = some u ∧ RelV (V.int 3) u
  g_FIRST : ∃ u, mg "FIRST" = some u ∧ RelV (V.int 2) u
  b_isinstance : mg "isinstance" = none
  b_tuple : mg "tuple" = none
  b_bool : mg "bool" = none
  td_PictureHeader___init___store : ∀ H, SqT K H AD.td_PictureHeader___init___store (([] : List Int).map V.int)
  td_PictureHeader___init___refs : ∀ H, SqT K H AD.td_PictureHeader___init___refs (([] : List Int).map V.int)
  cl_Settings : Cls K AD.c_Settings
  n_Settings_fmt : NoAttr K AD.c_Settings "fmt"
  n_Settings_slots : NoAttr K AD.c_Settings "slots"
  n_Settings_rows : NoAttr K AD.c_Settings "rows"
  n_Settings_deblock : NoAttr K AD.c_Settings "deblock"
  n_Settings_offset : NoAttr K AD.c_Settings "offset"
  n_Settings_layers : NoAttr K AD.c_Settings "layers"
  cl_Decoder : Cls K AD.c_Decoder
  n_Decoder__probabilities : NoAttr K AD.c_Decoder "_probabilities"
  n_Decoder__octets : NoAttr K AD.c_Decoder "_octets"
  n_Decoder__place : NoAttr K AD.c_Decoder "_place"
  n_Decoder__span : NoAttr K AD.c_Decoder "_span"
  n_Decoder__value : NoAttr K AD.c_Decoder "_value"
  cl_SymbolReader : Cls K AD.c_SymbolReader
  n_SymbolReader__decoder : NoAttr K AD.c_SymbolReader "_decoder"
  cl_PictureHeader : Cls K AD.c_PictureHeader
  n_PictureHeader_number : NoAttr K AD.c_PictureHeader "number"
  n_PictureHeader_kind : NoAttr K AD.c_PictureHeader "kind"
  n_PictureHeader_level : NoAttr K AD.c_PictureHeader "level"
  n_PictureHeader_store : NoAttr K AD.c_PictureHeader "store"
  n_PictureHeader_refs : NoAttr K AD.c_PictureHeader "refs"
  n_PictureHeader_weight : NoAttr K AD.c_PictureHeader "weight"
  n_PictureHeader_layer : NoAttr K AD.c_PictureHeader "layer"
  n_PictureHeader_shown : NoAttr K AD.c_PictureHeader "shown"
  n_PictureHeader_edge : NoAttr K AD.c_PictureHeader "edge"
  cl_MotionGrid : Cls K AD.c_MotionGrid
  n_MotionGrid__width : NoAttr K AD.c_MotionGrid "_width"
  n_MotionGrid__height : NoAttr K AD.c_MotionGrid "_height"
  n_MotionGrid__lines : NoAttr K AD.c_MotionGrid "_lines"
  cl_Format : Cls K AD.c_Format
  n_Format_width : NoAttr K AD.c_Format "width"
  n_Format_height : NoAttr K AD.c_Format "height"
  n_Format_depth : NoAttr K AD.c_Format "depth"
  n_Format_chroma : NoAttr K AD.c_Format "chroma"
  xg_BadHeader : mg "BadHeader" = some (.ref AD.x_BadHeader)
  xx_BadHeader : PySem.W.excIn K AD.x_BadHeader [.type "ValueError", .type "Exception", .type "BaseException", .type "object"] "ValueError.__new__" = true
  xk_BadHeader : PySem.W.keepIn K (.ref AD.x_BadHeader) = true
  xb_BadHeader : PySem.W.subIn K (.ref AD.x_BadHeader) (.type "BaseException") = some true
  xt_BadHeader : PySem.W.typeIn K (.ref AD.x_BadHeader) = some (.type "type")
  xg_OutOfRange : mg "OutOfRange" = some (.ref AD.x_OutOfRange)
  xx_OutOfRange : PySem.W.excIn K AD.x_OutOfRange [.type "ValueError", .type "Exception", .type "BaseException", .type "object"] "ValueError.__new__" = true
  xk_OutOfRange : PySem.W.keepIn K (.ref AD.x_OutOfRange) = true
  xb_OutOfRange : PySem.W.subIn K (.ref AD.x_OutOfRange) (.type "BaseException") = some true
  xt_OutOfRange : PySem.W.typeIn K (.ref AD.x_OutOfRange) = some (.type "type")
  xg_BadFormat : mg "BadFormat" = some (.ref AD.x_BadFormat)
  xx_BadFormat : PySem.W.excIn K AD.x_BadFormat [.type "ValueError", .type "Exception", .type "BaseException", .type "object"] "ValueError.__new__" = true
  xk_BadFormat : PySem.W.keepIn K (.ref AD.x_BadFormat) = true
  xb_BadFormat : PySem.W.subIn K (.ref AD.x_BadFormat) (.type "BaseException") = some true
  xt_BadFormat : PySem.W.typeIn K (.ref AD.x_BadFormat) = some (.type "type")
abbrev pat__law_draws_0 : Pat := (2, [], fun vs _ => vs)
abbrev pats__law_draws : List Pat := [pat__law_draws_0]
abbrev pat__require_0 : Pat := (2, [], fun vs _ => vs)
abbrev pats__require : List Pat := [pat__require_0]
def gk_Settings___init___0 {α : Type} (us mz ws : List α) : List α := match us, mz, ws with | [a0, a1], [m0, m1, m2, m3], [b0] => [a0, a1, b0, m0, m1, m2, m3] | _, _, _ => []
theorem gknil_Settings___init___0 {α : Type} {us mz ws : List α} (h : us.length ≠ 2 ∨ mz.length ≠ 4 ∨ ws.length ≠ 1) : gk_Settings___init___0 us mz ws = [] := by
  unfold gk_Settings___init___0
  split
  · simp at h
  · rfl
theorem gkrel_Settings___init___0 {vs mz zs : List V} {us mv ws : List Value} (r : Vals vs us) (s : Vals mz mv) (q : Vals zs ws) : Vals (gk_Settings___init___0 vs mz zs) (gk_Settings___init___0 us mv ws) := by
  by_cases h1 : vs.length = 2
  · by_cases h2 : mz.length = 4
    · by_cases h3 : zs.length = 1
      · obtain ⟨a0, a1, rfl⟩ := len2 h1
        obtain ⟨m0, m1, m2, m3, rfl⟩ := len4 h2
        obtain ⟨b0, rfl⟩ := len1 h3
        cases r with | cons r0 r =>
          cases r with | cons r1 r =>
            cases r
            cases s with | cons s0 s =>
              cases s with | cons s1 s =>
                cases s with | cons s2 s =>
                  cases s with | cons s3 s =>
                    cases s
                    cases q with | cons q0 q =>
                      cases q
                      exact (.cons r0 (.cons r1 (.cons q0 (.cons s0 (.cons s1 (.cons s2 (.cons s3 .nil)))))))
      · have k : ws.length ≠ 1 := fun z => h3 (q.length.trans z)
        rw [gknil_Settings___init___0 (by first | exact .inl h3 | exact .inr (.inl h3) | exact .inr (.inr h3)), gknil_Settings___init___0 (by first | exact .inl k | exact .inr (.inl k) | exact .inr (.inr k))]
        exact .nil
    · have k : mv.length ≠ 4 := fun z => h2 (s.length.trans z)
      rw [gknil_Settings___init___0 (by first | exact .inl h2 | exact .inr (.inl h2) | exact .inr (.inr h2)), gknil_Settings___init___0 (by first | exact .inl k | exact .inr (.inl k) | exact .inr (.inr k))]
      exact .nil
  · have k : us.length ≠ 2 := fun z => h1 (r.length.trans z)
    rw [gknil_Settings___init___0 (by first | exact .inl h1 | exact .inr (.inl h1) | exact .inr (.inr h1)), gknil_Settings___init___0 (by first | exact .inl k | exact .inr (.inl k) | exact .inr (.inr k))]
    exact .nil
abbrev pat_Settings___init___0 : Pat := (2, ["slots"], fun vs zs => gk_Settings___init___0 vs [V.int 1, V.bl false, V.bl false, V.int 1] zs)
abbrev pats_Settings___init__ : List Pat := [pat_Settings___init___0]
abbrev pat__check_contexts_0 : Pat := (2, [], fun vs _ => vs)
abbrev pats__check_contexts : List Pat := [pat__check_contexts_0]
abbrev pat__check_unary_0 : Pat := (2, [], fun vs _ => vs)
abbrev pats__check_unary : List Pat := [pat__check_unary_0]
abbrev pat__check_context_0 : Pat := (1, [], fun vs _ => vs)
abbrev pats__check_context : List Pat := [pat__check_context_0]
abbrev pat__adapted_0 : Pat := (2, [], fun vs _ => vs)
abbrev pats__adapted : List Pat := [pat__adapted_0]
abbrev pat_Decoder__shift_0 : Pat := (1, [], fun vs _ => vs)
abbrev pats_Decoder__shift : List Pat := [pat_Decoder__shift_0]
abbrev pat_Decoder__decide_0 : Pat := (2, [], fun vs _ => vs)
abbrev pats_Decoder__decide : List Pat := [pat_Decoder__decide_0]
abbrev pat_Decoder_read_0 : Pat := (2, [], fun vs _ => vs)
abbrev pats_Decoder_read : List Pat := [pat_Decoder_read_0]
abbrev pat_SymbolReader_unary_0 : Pat := (2, ["most"], fun vs zs => match vs, zs with | [a0, a1], [b0] => [a0, a1, b0] | _, _ => [])
abbrev pats_SymbolReader_unary : List Pat := [pat_SymbolReader_unary_0]
abbrev pat__digit_context_0 : Pat := (2, [], fun vs _ => vs)
abbrev pats__digit_context : List Pat := [pat__digit_context_0]
abbrev pat_Decoder_read_even_0 : Pat := (1, [], fun vs _ => vs)
abbrev pats_Decoder_read_even : List Pat := [pat_Decoder_read_even_0]
abbrev pat_SymbolReader_number_0 : Pat := (2, [], fun vs _ => vs)
abbrev pats_SymbolReader_number : List Pat := [pat_SymbolReader_number_0]
abbrev pat__check_numbers_0 : Pat := (2, [], fun vs _ => vs)
abbrev pats__check_numbers : List Pat := [pat__check_numbers_0]
abbrev pat__check_slots_0 : Pat := (2, [], fun vs _ => vs)
abbrev pats__check_slots : List Pat := [pat__check_slots_0]
def gk_PictureHeader___init___0 {α : Type} (us mz ws : List α) : List α := match us, mz, ws with | [a0, a1], [m0, m1, m2, m3, m4, m5], [b0, b1, b2] => [a0, a1, b0, b1, m0, m1, b2, m2, m3, m4, m5] | _, _, _ => []
theorem gknil_PictureHeader___init___0 {α : Type} {us mz ws : List α} (h : us.length ≠ 2 ∨ mz.length ≠ 6 ∨ ws.length ≠ 3) : gk_PictureHeader___init___0 us mz ws = [] := by
  unfold gk_PictureHeader___init___0
  split
  · simp at h
  · rfl
theorem gkrel_PictureHeader___init___0 {vs mz zs : List V} {us mv ws : List Value} (r : Vals vs us) (s : Vals mz mv) (q : Vals zs ws) : Vals (gk_PictureHeader___init___0 vs mz zs) (gk_PictureHeader___init___0 us mv ws) := by
  by_cases h1 : vs.length = 2
  · by_cases h2 : mz.length = 6
    · by_cases h3 : zs.length = 3
      · obtain ⟨a0, a1, rfl⟩ := len2 h1
        obtain ⟨m0, m1, m2, m3, m4, m5, rfl⟩ := len6 h2
        obtain ⟨b0, b1, b2, rfl⟩ := len3 h3
        cases r with | cons r0 r =>
          cases r with | cons r1 r =>
            cases r
            cases s with | cons s0 s =>
              cases s with | cons s1 s =>
                cases s with | cons s2 s =>
                  cases s with | cons s3 s =>
                    cases s with | cons s4 s =>
                      cases s with | cons s5 s =>
                        cases s
                        cases q with | cons q0 q =>
                          cases q with | cons q1 q =>
                            cases q with | cons q2 q =>
                              cases q
                              exact (.cons r0 (.cons r1 (.cons q0 (.cons q1 (.cons s0 (.cons s1 (.cons q2 (.cons s2 (.cons s3 (.cons s4 (.cons s5 .nil)))))))))))
      · have k : ws.length ≠ 3 := fun z => h3 (q.length.trans z)
        rw [gknil_PictureHeader___init___0 (by first | exact .inl h3 | exact .inr (.inl h3) | exact .inr (.inr h3)), gknil_PictureHeader___init___0 (by first | exact .inl k | exact .inr (.inl k) | exact .inr (.inr k))]
        exact .nil
    · have k : mv.length ≠ 6 := fun z => h2 (s.length.trans z)
      rw [gknil_PictureHeader___init___0 (by first | exact .inl h2 | exact .inr (.inl h2) | exact .inr (.inr h2)), gknil_PictureHeader___init___0 (by first | exact .inl k | exact .inr (.inl k) | exact .inr (.inr k))]
      exact .nil
  · have k : us.length ≠ 2 := fun z => h1 (r.length.trans z)
    rw [gknil_PictureHeader___init___0 (by first | exact .inl h1 | exact .inr (.inl h1) | exact .inr (.inr h1)), gknil_PictureHeader___init___0 (by first | exact .inl k | exact .inr (.inl k) | exact .inr (.inr k))]
    exact .nil
abbrev pat_PictureHeader___init___0 (AD : Ads) : Pat := (2, ["number", "kind", "refs"], fun vs zs => gk_PictureHeader___init___0 vs [V.int 0, V.ref AD.td_PictureHeader___init___store, V.int 8, V.int 0, V.bl true, V.int 0] zs)
abbrev pats_PictureHeader___init__ (AD : Ads) : List Pat := [pat_PictureHeader___init___0 AD]
abbrev pat_MotionGrid___init___0 : Pat := (3, [], fun vs _ => vs)
abbrev pats_MotionGrid___init__ : List Pat := [pat_MotionGrid___init___0]
abbrev pat_SymbolReader___init___0 : Pat := (2, [], fun vs _ => vs)
abbrev pats_SymbolReader___init__ : List Pat := [pat_SymbolReader___init___0]
abbrev pat__law_cell_0 : Pat := (2, [], fun vs _ => vs)
abbrev pats__law_cell : List Pat := [pat__law_cell_0]
def gk_Format___init___0 {α : Type} (us mz ws : List α) : List α := match us, mz, ws with | [a0, a1, a2], [m0, m1], [] => [a0, a1, a2, m0, m1] | _, _, _ => []
theorem gknil_Format___init___0 {α : Type} {us mz ws : List α} (h : us.length ≠ 3 ∨ mz.length ≠ 2 ∨ ws.length ≠ 0) : gk_Format___init___0 us mz ws = [] := by
  unfold gk_Format___init___0
  split
  · simp at h
  · rfl
theorem gkrel_Format___init___0 {vs mz zs : List V} {us mv ws : List Value} (r : Vals vs us) (s : Vals mz mv) (q : Vals zs ws) : Vals (gk_Format___init___0 vs mz zs) (gk_Format___init___0 us mv ws) := by
  by_cases h1 : vs.length = 3
  · by_cases h2 : mz.length = 2
    · by_cases h3 : zs.length = 0
      · obtain ⟨a0, a1, a2, rfl⟩ := len3 h1
        obtain ⟨m0, m1, rfl⟩ := len2 h2
        obtain rfl := len0 h3
        cases r with | cons r0 r =>
          cases r with | cons r1 r =>
            cases r with | cons r2 r =>
              cases r
              cases s with | cons s0 s =>
                cases s with | cons s1 s =>
                  cases s
                  cases q
                  exact (.cons r0 (.cons r1 (.cons r2 (.cons s0 (.cons s1 .nil)))))
      · have k : ws.length ≠ 0 := fun z => h3 (q.length.trans z)
        rw [gknil_Format___init___0 (by first | exact .inl h3 | exact .inr (.inl h3) | exact .inr (.inr h3)), gknil_Format___init___0 (by first | exact .inl k | exact .inr (.inl k) | exact .inr (.inr k))]
        exact .nil
    · have k : mv.length ≠ 2 := fun z => h2 (s.length.trans z)
      rw [gknil_Format___init___0 (by first | exact .inl h2 | exact .inr (.inl h2) | exact .inr (.inr h2)), gknil_Format___init___0 (by first | exact .inl k | exact .inr (.inl k) | exact .inr (.inr k))]
      exact .nil
  · have k : us.length ≠ 3 := fun z => h1 (r.length.trans z)
    rw [gknil_Format___init___0 (by first | exact .inl h1 | exact .inr (.inl h1) | exact .inr (.inr h1)), gknil_Format___init___0 (by first | exact .inl k | exact .inr (.inl k) | exact .inr (.inr k))]
    exact .nil
abbrev pat_Format___init___0 : Pat := (3, [], fun vs zs => gk_Format___init___0 vs [V.int 8, V.int 0] zs)
abbrev pats_Format___init__ : List Pat := [pat_Format___init___0]
abbrev pat_Decoder___init___0 : Pat := (2, [], fun vs _ => vs)
abbrev pats_Decoder___init__ : List Pat := [pat_Decoder___init___0]
abbrev pat__choice_digits_0 : Pat := (2, [], fun vs _ => vs)
abbrev pats__choice_digits : List Pat := [pat__choice_digits_0]
abbrev pat_SymbolReader_choice_0 : Pat := (2, ["count"], fun vs zs => match vs, zs with | [a0, a1], [b0] => [a0, a1, b0] | _, _ => [])
abbrev pats_SymbolReader_choice : List Pat := [pat_SymbolReader_choice_0]
abbrev pat__law_vector_0 : Pat := (4, [], fun vs _ => vs)
abbrev pats__law_vector : List Pat := [pat__law_vector_0]
abbrev pat__law_median_0 : Pat := (1, [], fun vs _ => vs)
abbrev pats__law_median : List Pat := [pat__law_median_0]
abbrev pat__law_predicted_0 : Pat := (4, [], fun vs _ => vs)
abbrev pats__law_predicted : List Pat := [pat__law_predicted_0]
abbrev pat_SymbolReader_signed_0 : Pat := (2, [], fun vs _ => vs)
abbrev pats_SymbolReader_signed : List Pat := [pat_SymbolReader_signed_0]
abbrev pat__law_due_0 : Pat := (5, [], fun vs _ => vs)
abbrev pats__law_due : List Pat := [pat__law_due_0]
abbrev pat_clip_0 : Pat := (3, [], fun vs _ => vs)
abbrev pats_clip : List Pat := [pat_clip_0]
abbrev pat__clip_component_0 : Pat := (1, [], fun vs _ => vs)
abbrev pats__clip_component : List Pat := [pat__clip_component_0]
abbrev pat_clip_vector_0 : Pat := (2, [], fun vs _ => vs)
abbrev pats_clip_vector : List Pat := [pat_clip_vector_0]
abbrev pat__read_vector_0 : Pat := (2, [], fun vs _ => vs)
abbrev pats__read_vector : List Pat := [pat__read_vector_0]
abbrev pat__median_0 : Pat := (1, [], fun vs _ => vs)
abbrev pats__median : List Pat := [pat__median_0]
abbrev pat_MotionGrid__has_0 : Pat := (3, [], fun vs _ => vs)
abbrev pats_MotionGrid__has : List Pat := [pat_MotionGrid__has_0]
abbrev pat_MotionGrid_motion_at_0 : Pat := (3, [], fun vs _ => vs)
abbrev pats_MotionGrid_motion_at : List Pat := [pat_MotionGrid_motion_at_0]
abbrev pat_MotionGrid__vector_at_0 : Pat := (4, [], fun vs _ => vs)
abbrev pats_MotionGrid__vector_at : List Pat := [pat_MotionGrid__vector_at_0]
def gk_MotionGrid_predicted_0 {α : Type} (us mz ws : List α) : List α := match us, mz, ws with | [a0, a1, a2], [m0], [] => [a0, a1, a2, m0] | _, _, _ => []
theorem gknil_MotionGrid_predicted_0 {α : Type} {us mz ws : List α} (h : us.length ≠ 3 ∨ mz.length ≠ 1 ∨ ws.length ≠ 0) : gk_MotionGrid_predicted_0 us mz ws = [] := by
  unfold gk_MotionGrid_predicted_0
  split
  · simp at h
  · rfl
theorem gkrel_MotionGrid_predicted_0 {vs mz zs : List V} {us mv ws : List Value} (r : Vals vs us) (s : Vals mz mv) (q : Vals zs ws) : Vals (gk_MotionGrid_predicted_0 vs mz zs) (gk_MotionGrid_predicted_0 us mv ws) := by
  by_cases h1 : vs.length = 3
  · by_cases h2 : mz.length = 1
    · by_cases h3 : zs.length = 0
      · obtain ⟨a0, a1, a2, rfl⟩ := len3 h1
        obtain ⟨m0, rfl⟩ := len1 h2
        obtain rfl := len0 h3
        cases r with | cons r0 r =>
          cases r with | cons r1 r =>
            cases r with | cons r2 r =>
              cases r
              cases s with | cons s0 s =>
                cases s
                cases q
                exact (.cons r0 (.cons r1 (.cons r2 (.cons s0 .nil))))
      · have k : ws.length ≠ 0 := fun z => h3 (q.length.trans z)
        rw [gknil_MotionGrid_predicted_0 (by first | exact .inl h3 | exact .inr (.inl h3) | exact .inr (.inr h3)), gknil_MotionGrid_predicted_0 (by first | exact .inl k | exact .inr (.inl k) | exact .inr (.inr k))]
        exact .nil
    · have k : mv.length ≠ 1 := fun z => h2 (s.length.trans z)
      rw [gknil_MotionGrid_predicted_0 (by first | exact .inl h2 | exact .inr (.inl h2) | exact .inr (.inr h2)), gknil_MotionGrid_predicted_0 (by first | exact .inl k | exact .inr (.inl k) | exact .inr (.inr k))]
      exact .nil
  · have k : us.length ≠ 3 := fun z => h1 (r.length.trans z)
    rw [gknil_MotionGrid_predicted_0 (by first | exact .inl h1 | exact .inr (.inl h1) | exact .inr (.inr h1)), gknil_MotionGrid_predicted_0 (by first | exact .inl k | exact .inr (.inl k) | exact .inr (.inr k))]
    exact .nil
abbrev pat_MotionGrid_predicted_0 : Pat := (3, [], fun vs zs => gk_MotionGrid_predicted_0 vs [V.bl false] zs)
abbrev pat_MotionGrid_predicted_1 : Pat := (3, ["second"], fun vs zs => match vs, zs with | [a0, a1, a2], [b0] => [a0, a1, a2, b0] | _, _ => [])
abbrev pats_MotionGrid_predicted : List Pat := [pat_MotionGrid_predicted_0, pat_MotionGrid_predicted_1]
abbrev pat_read_motion_0 : Pat := (5, [], fun vs _ => vs)
abbrev pats_read_motion : List Pat := [pat_read_motion_0]
abbrev pat_MotionGrid_keep_quarter_0 : Pat := (4, [], fun vs _ => vs)
abbrev pats_MotionGrid_keep_quarter : List Pat := [pat_MotionGrid_keep_quarter_0]
abbrev pat__law_is_vector_0 : Pat := (1, [], fun vs _ => vs)
abbrev pats__law_is_vector : List Pat := [pat__law_is_vector_0]
abbrev pat__law_is_motion_0 : Pat := (3, [], fun vs _ => vs)
abbrev pats__law_is_motion : List Pat := [pat__law_is_motion_0]
abbrev pats_law : List Pat := []
def sp__law_draws (K : PySem.W.Frag) (AD : Ads) : Sp := fun vs H Q E => ∃ (G : Hp) (cell' : Int) (a_limits : Addr) (limits' : List Int), vs = [.int cell', .ref a_limits] ∧ Same G H ∧ (hideL [] H) a_limits = some (.lst ((limits' : List Int).map V.int)) ∧ cW (F__law_draws cell' limits') (fun v => ∀ p H', H p = none → Same H H' → H' p = some (.lst (v.map V.int)) → Q (.ref p) H') (fun e => ∀ H', Same H H' → E (.ref (excA AD e)) none H')
def sp__require (K : PySem.W.Frag) (AD : Ads) : Sp := fun vs H Q E => ∃ (G : Hp) (holds' : Bool) (text' : Str), vs = [.bl holds', .str text'] ∧ Same G H ∧ cW (F__require holds' text') (fun v => Q .non H) (fun e => E (.ref (excA AD e)) none H)
def sp_Settings___init__ (K : PySem.W.Frag) (AD : Ads) : Sp := fun vs H Q E => ∃ (G : Hp) (p_self dx_self : Addr) (p_fmt dx_fmt : Addr) (fmt' : St_Format) (slots' : Int) (rows' : Int) (deblock' : Bool) (offset' : Bool) (layers' : Int), vs = [.ref p_self, .ref p_fmt, .int slots', .int rows', .bl deblock', .bl offset', .int layers'] ∧ Same G H ∧ (∀ a ∈ [p_self], G a = none) ∧ H p_self = some (.ins AD.c_Settings dx_self []) ∧ (hideL [p_self] H) p_fmt = some (.ins AD.c_Format dx_fmt [("width", V.int fmt'.width), ("height", V.int fmt'.height), ("depth", V.int fmt'.depth), ("chroma", V.int fmt'.chroma)]) ∧ cW (F_Settings___init__ fmt' slots' rows' deblock' offset' layers') (fun v => ∀ (H' : Hp), SameX p_self H H' → H' p_self = some (.ins AD.c_Settings dx_self [("fmt", V.ref p_fmt), ("slots", V.int v.slots), ("rows", V.int v.rows), ("deblock", V.bl v.deblock), ("offset", V.bl v.offset), ("layers", V.int v.layers)]) → Q .non H') (fun e => ∀ H', SameX p_self H H' → E (.ref (excA AD e)) none H')
def sp__check_contexts (K : PySem.W.Frag) (AD : Ads) : Sp := fun vs H Q E => ∃ (G : Hp) (base' : Int) (count' : Int), vs = [.int base', .int count'] ∧ Same G H ∧ cW (F__check_contexts base' count') (fun v => Q .non H) (fun e => E (.ref (excA AD e)) none H)
def sp__check_unary (K : PySem.W.Frag) (AD : Ads) : Sp := fun vs H Q E => ∃ (G : Hp) (base' : Int) (most' : Int), vs = [.int base', .int most'] ∧ Same G H ∧ cW (F__check_unary base' most') (fun v => Q .non H) (fun e => E (.ref (excA AD e)) none H)
def sp__check_context (K : PySem.W.Frag) (AD : Ads) : Sp := fun vs H Q E => ∃ (G : Hp) (context' : Int), vs = [.int context'] ∧ Same G H ∧ cW (F__check_context context') (fun v => Q .non H) (fun e => E (.ref (excA AD e)) none H)
def sp__adapted (K : PySem.W.Frag) (AD : Ads) : Sp := fun vs H Q E => ∃ (G : Hp) (chance' : Int) (decision' : Int), vs = [.int chance', .int decision'] ∧ Same G H ∧ cW (F__adapted chance' decision') (fun v => Q (.int v) H) (fun e => E (.ref (excA AD e)) none H)
def sp_Decoder__shift (K : PySem.W.Frag) (AD : Ads) : Sp := fun vs H Q E => ∃ (G : Hp) (p_self l_self_probs l_self_octs dx_self : Addr) (self' : St_Decoder), vs = [.ref p_self] ∧ Same G H ∧ (∀ a ∈ [p_self, l_self_probs, l_self_octs], G a = none) ∧ H p_self = some (.ins AD.c_Decoder dx_self [("_probabilities", V.ref l_self_probs), ("_octets", V.ref l_self_octs), ("_place", V.int self'.place), ("_span", V.int self'.span), ("_value", V.int self'.value)]) ∧ H l_self_probs = some (.lst ((self'.probs : (List Int)).map V.int)) ∧ H l_self_octs = some (.lst ((self'.octs : (List Int)).map V.int)) ∧ l_self_probs ≠ l_self_octs ∧ cW (F_Decoder__shift self') (fun v => ∀ (H' : Hp), SameXs [p_self, l_self_probs, l_self_octs] H H' → H' p_self = some (.ins AD.c_Decoder dx_self [("_probabilities", V.ref l_self_probs), ("_octets", V.ref l_self_octs), ("_place", V.int v.place), ("_span", V.int v.span), ("_value", V.int v.value)]) → H' l_self_probs = some (.lst ((v.probs : (List Int)).map V.int)) → H' l_self_octs = some (.lst ((v.octs : (List Int)).map V.int)) → Q .non H') (fun e => ∀ H', Same H H' → E (.ref (excA AD e)) none H')
def sp_Decoder__decide (K : PySem.W.Frag) (AD : Ads) : Sp := fun vs H Q E => ∃ (G : Hp) (p_self l_self_probs l_self_octs dx_self : Addr) (self' : St_Decoder) (chance' : Int), vs = [.ref p_self, .int chance'] ∧ Same G H ∧ (∀ a ∈ [p_self, l_self_probs, l_self_octs], G a = none) ∧ H p_self = some (.ins AD.c_Decoder dx_self [("_probabilities", V.ref l_self_probs), ("_octets", V.ref l_self_octs), ("_place", V.int self'.place), ("_span", V.int self'.span), ("_value", V.int self'.value)]) ∧ H l_self_probs = some (.lst ((self'.probs : (List Int)).map V.int)) ∧ H l_self_octs = some (.lst ((self'.octs : (List Int)).map V.int)) ∧ l_self_probs ≠ l_self_octs ∧ cW (F_Decoder__decide self' chance') (fun v => ∀ (H' : Hp), SameXs [p_self, l_self_probs, l_self_octs] H H' → H' p_self = some (.ins AD.c_Decoder dx_self [("_probabilities", V.ref l_self_probs), ("_octets", V.ref l_self_octs), ("_place", V.int v.2.place), ("_span", V.int v.2.span), ("_value", V.int v.2.value)]) → H' l_self_probs = some (.lst ((v.2.probs : (List Int)).map V.int)) → H' l_self_octs = some (.lst ((v.2.octs : (List Int)).map V.int)) → Q (.int v.1) H') (fun e => ∀ H', Same H H' → E (.ref (excA AD e)) none H')
def sp_Decoder_read (K : PySem.W.Frag) (AD : Ads) : Sp := fun vs H Q E => ∃ (G : Hp) (p_self l_self_probs l_self_octs dx_self : Addr) (self' : St_Decoder) (context' : Int), vs = [.ref p_self, .int context'] ∧ Same G H ∧ (∀ a ∈ [p_self, l_self_probs, l_self_octs], G a = none) ∧ H p_self = some (.ins AD.c_Decoder dx_self [("_probabilities", V.ref l_self_probs), ("_octets", V.ref l_self_octs), ("_place", V.int self'.place), ("_span", V.int self'.span), ("_value", V.int self'.value)]) ∧ H l_self_probs = some (.lst ((self'.probs : (List Int)).map V.int)) ∧ H l_self_octs = some (.lst ((self'.octs : (List Int)).map V.int)) ∧ l_self_probs ≠ l_self_octs ∧ cW (F_Decoder_read self' context') (fun v => ∀ (H' : Hp), SameXs [p_self, l_self_probs, l_self_octs] H H' → H' p_self = some (.ins AD.c_Decoder dx_self [("_probabilities", V.ref l_self_probs), ("_octets", V.ref l_self_octs), ("_place", V.int v.2.place), ("_span", V.int v.2.span), ("_value", V.int v.2.value)]) → H' l_self_probs = some (.lst ((v.2.probs : (List Int)).map V.int)) → H' l_self_octs = some (.lst ((v.2.octs : (List Int)).map V.int)) → Q (.int v.1) H') (fun e => ∀ H', Same H H' → E (.ref (excA AD e)) none H')
def sp_SymbolReader_unary (K : PySem.W.Frag) (AD : Ads) : Sp := fun vs H Q E => ∃ (G : Hp) (p_self p_self_dec l_self_dec_probs l_self_dec_octs dx_self dx_self_dec : Addr) (self' : St_SymbolReader) (base' : Int) (most' : Int), vs = [.ref p_self, .int base', .int most'] ∧ Same G H ∧ (∀ a ∈ [p_self, p_self_dec, l_self_dec_probs, l_self_dec_octs], G a = none) ∧ H p_self = some (.ins AD.c_SymbolReader dx_self [("_decoder", V.ref p_self_dec)]) ∧ H p_self_dec = some (.ins AD.c_Decoder dx_self_dec [("_probabilities", V.ref l_self_dec_probs), ("_octets", V.ref l_self_dec_octs), ("_place", V.int self'.dec.place), ("_span", V.int self'.dec.span), ("_value", V.int self'.dec.value)]) ∧ H l_self_dec_probs = some (.lst ((self'.dec.probs : (List Int)).map V.int)) ∧ H l_self_dec_octs = some (.lst ((self'.dec.octs : (List Int)).map V.int)) ∧ l_self_dec_probs ≠ l_self_dec_octs ∧ p_self ≠ p_self_dec ∧ cW (F_SymbolReader_unary self' base' most') (fun v => ∀ (H' : Hp), SameXs [p_self, p_self_dec, l_self_dec_probs, l_self_dec_octs] H H' → H' p_self = some (.ins AD.c_SymbolReader dx_self [("_decoder", V.ref p_self_dec)]) → H' p_self_dec = some (.ins AD.c_Decoder dx_self_dec [("_probabilities", V.ref l_self_dec_probs), ("_octets", V.ref l_self_dec_octs), ("_place", V.int v.2.dec.place), ("_span", V.int v.2.dec.span), ("_value", V.int v.2.dec.value)]) → H' l_self_dec_probs = some (.lst ((v.2.dec.probs : (List Int)).map V.int)) → H' l_self_dec_octs = some (.lst ((v.2.dec.octs : (List Int)).map V.int)) → Q (.int v.1) H') (fun e => ∀ H', Same H H' → E (.ref (excA AD e)) none H')
def sp__digit_context (K : PySem.W.Frag) (AD : Ads) : Sp := fun vs H Q E => ∃ (G : Hp) (base' : Int) (digits' : Int), vs = [.int base', .int digits'] ∧ Same G H ∧ cW (F__digit_context base' digits') (fun v => Q (.int v) H) (fun e => E (.ref (excA AD e)) none H)
def sp_Decoder_read_even (K : PySem.W.Frag) (AD : Ads) : Sp := fun vs H Q E => ∃ (G : Hp) (p_self l_self_probs l_self_octs dx_self : Addr) (self' : St_Decoder), vs = [.ref p_self] ∧ Same G H ∧ (∀ a ∈ [p_self, l_self_probs, l_self_octs], G a = none) ∧ H p_self = some (.ins AD.c_Decoder dx_self [("_probabilities", V.ref l_self_probs), ("_octets", V.ref l_self_octs), ("_place", V.int self'.place), ("_span", V.int self'.span), ("_value", V.int self'.value)]) ∧ H l_self_probs = some (.lst ((self'.probs : (List Int)).map V.int)) ∧ H l_self_octs = some (.lst ((self'.octs : (List Int)).map V.int)) ∧ l_self_probs ≠ l_self_octs ∧ cW (F_Decoder_read_even self') (fun v => ∀ (H' : Hp), SameXs [p_self, l_self_probs, l_self_octs] H H' → H' p_self = some (.ins AD.c_Decoder dx_self [("_probabilities", V.ref l_self_probs), ("_octets", V.ref l_self_octs), ("_place", V.int v.2.place), ("_span", V.int v.2.span), ("_value", V.int v.2.value)]) → H' l_self_probs = some (.lst ((v.2.probs : (List Int)).map V.int)) → H' l_self_octs = some (.lst ((v.2.octs : (List Int)).map V.int)) → Q (.int v.1) H') (fun e => ∀ H', Same H H' → E (.ref (excA AD e)) none H')
def sp_SymbolReader_number (K : PySem.W.Frag) (AD : Ads) : Sp := fun vs H Q E => ∃ (G : Hp) (p_self p_self_dec l_self_dec_probs l_self_dec_octs dx_self dx_self_dec : Addr) (self' : St_SymbolReader) (base' : Int), vs = [.ref p_self, .int base'] ∧ Same G H ∧ (∀ a ∈ [p_self, p_self_dec, l_self_dec_probs, l_self_dec_octs], G a = none) ∧ H p_self = some (.ins AD.c_SymbolReader dx_self [("_decoder", V.ref p_self_dec)]) ∧ H p_self_dec = some (.ins AD.c_Decoder dx_self_dec [("_probabilities", V.ref l_self_dec_probs), ("_octets", V.ref l_self_dec_octs), ("_place", V.int self'.dec.place), ("_span", V.int self'.dec.span), ("_value", V.int self'.dec.value)]) ∧ H l_self_dec_probs = some (.lst ((self'.dec.probs : (List Int)).map V.int)) ∧ H l_self_dec_octs = some (.lst ((self'.dec.octs : (List Int)).map V.int)) ∧ l_self_dec_probs ≠ l_self_dec_octs ∧ p_self ≠ p_self_dec ∧ cW (F_SymbolReader_number self' base') (fun v => ∀ (H' : Hp), SameXs [p_self, p_self_dec, l_self_dec_probs, l_self_dec_octs] H H' → H' p_self = some (.ins AD.c_SymbolReader dx_self [("_decoder", V.ref p_self_dec)]) → H' p_self_dec = some (.ins AD.c_Decoder dx_self_dec [("_probabilities", V.ref l_self_dec_probs), ("_octets", V.ref l_self_dec_octs), ("_place", V.int v.2.dec.place), ("_span", V.int v.2.dec.span), ("_value", V.int v.2.dec.value)]) → H' l_self_dec_probs = some (.lst ((v.2.dec.probs : (List Int)).map V.int)) → H' l_self_dec_octs = some (.lst ((v.2.dec.octs : (List Int)).map V.int)) → Q (.int v.1) H') (fun e => ∀ H', Same H H' → E (.ref (excA AD e)) none H')
def sp__check_numbers (K : PySem.W.Frag) (AD : Ads) : Sp := fun vs H Q E => ∃ (G : Hp) (p_settings p_settings_fmt dx_settings dx_settings_fmt : Addr) (settings' : St_Settings) (p_header l_header_store l_header_refs dx_header : Addr) (header' : St_PictureHeader), vs = [.ref p_settings, .ref p_header] ∧ Same G H ∧ (hideL [] H) p_settings = some (.ins AD.c_Settings dx_settings [("fmt", V.ref p_settings_fmt), ("slots", V.int settings'.slots), ("rows", V.int settings'.rows), ("deblock", V.bl settings'.deblock), ("offset", V.bl settings'.offset), ("layers", V.int settings'.layers)]) ∧ (hideL [] H) p_settings_fmt = some (.ins AD.c_Format dx_settings_fmt [("width", V.int settings'.fmt.width), ("height", V.int settings'.fmt.height), ("depth", V.int settings'.fmt.depth), ("chroma", V.int settings'.fmt.chroma)]) ∧ (hideL [] H) p_header = some (.ins AD.c_PictureHeader dx_header [("number", V.int header'.number), ("kind", V.str header'.kind), ("level", V.int header'.level), ("store", V.ref l_header_store), ("refs", V.ref l_header_refs), ("weight", V.int header'.weight), ("layer", V.int header'.layer), ("shown", V.bl header'.shown), ("edge", V.int header'.edge)]) ∧ (hideL [] H) l_header_store = some (.lst ((header'.store : (List Int)).map V.int)) ∧ (hideL [] H) l_header_refs = some (.lst ((header'.refs : (List Int)).map V.int)) ∧ cW (F__check_numbers settings' header') (fun v => ∀ H', Same H H' → Q .non H') (fun e => ∀ H', Same H H' → E (.ref (excA AD e)) none H')
def sp__check_slots (K : PySem.W.Frag) (AD : Ads) : Sp := fun vs H Q E => ∃ (G : Hp) (p_settings p_settings_fmt dx_settings dx_settings_fmt : Addr) (settings' : St_Settings) (p_header l_header_store l_header_refs dx_header : Addr) (header' : St_PictureHeader), vs = [.ref p_settings, .ref p_header] ∧ Same G H ∧ (hideL [] H) p_settings = some (.ins AD.c_Settings dx_settings [("fmt", V.ref p_settings_fmt), ("slots", V.int settings'.slots), ("rows", V.int settings'.rows), ("deblock", V.bl settings'.deblock), ("offset", V.bl settings'.offset), ("layers", V.int settings'.layers)]) ∧ (hideL [] H) p_settings_fmt = some (.ins AD.c_Format dx_settings_fmt [("width", V.int settings'.fmt.width), ("height", V.int settings'.fmt.height), ("depth", V.int settings'.fmt.depth), ("chroma", V.int settings'.fmt.chroma)]) ∧ (hideL [] H) p_header = some (.ins AD.c_PictureHeader dx_header [("number", V.int header'.number), ("kind", V.str header'.kind), ("level", V.int header'.level), ("store", V.ref l_header_store), ("refs", V.ref l_header_refs), ("weight", V.int header'.weight), ("layer", V.int header'.layer), ("shown", V.bl header'.shown), ("edge", V.int header'.edge)]) ∧ (hideL [] H) l_header_store = some (.lst ((header'.store : (List Int)).map V.int)) ∧ (hideL [] H) l_header_refs = some (.lst ((header'.refs : (List Int)).map V.int)) ∧ cW (F__check_slots settings' header') (fun v => ∀ H', Same H H' → Q .non H') (fun e => ∀ H', Same H H' → E (.ref (excA AD e)) none H')
def sp_PictureHeader___init__ (K : PySem.W.Frag) (AD : Ads) : Sp := fun vs H Q E => ∃ (G : Hp) (p_self dx_self : Addr) (p_settings p_settings_fmt dx_settings dx_settings_fmt : Addr) (settings' : St_Settings) (number' : Int) (kind' : Str) (level' : Int) (v_store : V) (store' : (List Int)) (v_refs : V) (refs' : (List Int)) (weight' : Int) (layer' : Int) (shown' : Bool) (edge' : Int), vs = [.ref p_self, .ref p_settings, .int number', .str kind', .int level', v_store, v_refs, .int weight', .int layer', .bl shown', .int edge'] ∧ Same G H ∧ (∀ a ∈ [p_self], G a = none) ∧ H p_self = some (.ins AD.c_PictureHeader dx_self []) ∧ (hideL [p_self] H) p_settings = some (.ins AD.c_Settings dx_settings [("fmt", V.ref p_settings_fmt), ("slots", V.int settings'.slots), ("rows", V.int settings'.rows), ("deblock", V.bl settings'.deblock), ("offset", V.bl settings'.offset), ("layers", V.int settings'.layers)]) ∧ (hideL [p_self] H) p_settings_fmt = some (.ins AD.c_Format dx_settings_fmt [("width", V.int settings'.fmt.width), ("height", V.int settings'.fmt.height), ("depth", V.int settings'.fmt.depth), ("chroma", V.int settings'.fmt.chroma)]) ∧ SeqI K (hideL [p_self] H) v_store store' ∧ SeqI K (hideL [p_self] H) v_refs refs' ∧ cW (F_PictureHeader___init__ settings' number' kind' level' store' refs' weight' layer' shown' edge') (fun v => ∀ (H' : Hp) (l_store l_refs : Addr), SameX p_self H H' → H l_store = none → H l_refs = none → l_store ≠ l_refs → H' p_self = some (.ins AD.c_PictureHeader dx_self [("number", V.int v.number), ("kind", V.str v.kind), ("level", V.int v.level), ("store", V.ref l_store), ("refs", V.ref l_refs), ("weight", V.int v.weight), ("layer", V.int v.layer), ("shown", V.bl v.shown), ("edge", V.int v.edge)]) → H' l_store = some (.lst (v.store.map V.int)) → H' l_refs = some (.lst (v.refs.map V.int)) → Q .non H') (fun e => ∀ H', SameX p_self H H' → E (.ref (excA AD e)) none H')
def sp_MotionGrid___init__ (K : PySem.W.Frag) (AD : Ads) : Sp := fun vs H Q E => ∃ (G : Hp) (p_self dx_self : Addr) (columns' : Int) (rows' : Int), vs = [.ref p_self, .int columns', .int rows'] ∧ Same G H ∧ (∀ a ∈ [p_self], G a = none) ∧ H p_self = some (.ins AD.c_MotionGrid dx_self []) ∧ cW (F_MotionGrid___init__ columns' rows') (fun v => ∀ (H' G' : Hp) (l_lines : Addr) (vs_lines : List V) (L_lines : List Addr), SameX p_self H H' → Same G G' → Same G' H' → (∀ b, H b ≠ none → G b = none → G' b = none) → H l_lines = none → G' l_lines = none → (∀ b ∈ L_lines, H b = none) → (∀ b ∈ L_lines, G' b = none) → (∀ b ∈ L_lines, b ≠ l_lines) → H' p_self = some (.ins AD.c_MotionGrid dx_self [("_width", V.int v.width), ("_height", V.int v.height), ("_lines", V.ref l_lines)]) → H' l_lines = some (.lst vs_lines) → OwAll G' H' L_lines vs_lines ((v.lines : (List (List PyData))).map (oL (oF encD))) → Q .non H') (fun e => ∀ H', SameX p_self H H' → E (.ref (excA AD e)) none H')
def sp_SymbolReader___init__ (K : PySem.W.Frag) (AD : Ads) : Sp := fun vs H Q E => ∃ (G : Hp) (p_self dx_self : Addr) (p_decoder l_decoder_probs l_decoder_octs dx_decoder : Addr) (decoder' : St_Decoder), vs = [.ref p_self, .ref p_decoder] ∧ Same G H ∧ (∀ a ∈ [p_self], G a = none) ∧ H p_self = some (.ins AD.c_SymbolReader dx_self []) ∧ (hideL [p_self] H) p_decoder = some (.ins AD.c_Decoder dx_decoder [("_probabilities", V.ref l_decoder_probs), ("_octets", V.ref l_decoder_octs), ("_place", V.int decoder'.place), ("_span", V.int decoder'.span), ("_value", V.int decoder'.value)]) ∧ (hideL [p_self] H) l_decoder_probs = some (.lst ((decoder'.probs : (List Int)).map V.int)) ∧ (hideL [p_self] H) l_decoder_octs = some (.lst ((decoder'.octs : (List Int)).map V.int)) ∧ cW (F_SymbolReader___init__ decoder') (fun v => ∀ (H' : Hp), SameX p_self H H' → H' p_self = some (.ins AD.c_SymbolReader dx_self [("_decoder", V.ref p_decoder)]) → Q .non H') (fun e => ∀ H', SameX p_self H H' → E (.ref (excA AD e)) none H')
def sp__law_cell (K : PySem.W.Frag) (AD : Ads) : Sp := fun vs H Q E => ∃ (G : Hp) (a_script : Addr) (script' : List Int) (k' : Int), vs = [.ref a_script, .int k'] ∧ Same G H ∧ SqL K H a_script ((script' : List Int).map V.int) ∧ cW (F__law_cell script' k') (fun v => Q (.int v) H) (fun e => E (.ref (excA AD e)) none H)
def sp_Format___init__ (K : PySem.W.Frag) (AD : Ads) : Sp := fun vs H Q E => ∃ (G : Hp) (p_self dx_self : Addr) (width' : Int) (height' : Int) (depth' : Int) (chroma' : Int), vs = [.ref p_self, .int width', .int height', .int depth', .int chroma'] ∧ Same G H ∧ (∀ a ∈ [p_self], G a = none) ∧ H p_self = some (.ins AD.c_Format dx_self []) ∧ cW (F_Format___init__ width' height' depth' chroma') (fun v => ∀ (H' : Hp), SameX p_self H H' → H' p_self = some (.ins AD.c_Format dx_self [("width", V.int v.width), ("height", V.int v.height), ("depth", V.int v.depth), ("chroma", V.int v.chroma)]) → Q .non H') (fun e => ∀ H', SameX p_self H H' → E (.ref (excA AD e)) none H')
def sp_Decoder___init__ (K : PySem.W.Frag) (AD : Ads) : Sp := fun vs H Q E => ∃ (G : Hp) (p_self dx_self : Addr) (a_octets : Addr) (octets' : List Int), vs = [.ref p_self, .ref a_octets] ∧ Same G H ∧ (∀ a ∈ [p_self], G a = none) ∧ H p_self = some (.ins AD.c_Decoder dx_self []) ∧ (hideL [p_self] H) a_octets = some (.lst ((octets' : List Int).map V.int)) ∧ cW (F_Decoder___init__ octets') (fun v => ∀ (H' : Hp) (l_probs l_octs : Addr), SameX p_self H H' → H l_probs = none → H l_octs = none → l_probs ≠ l_octs → H' p_self = some (.ins AD.c_Decoder dx_self [("_probabilities", V.ref l_probs), ("_octets", V.ref l_octs), ("_place", V.int v.place), ("_span", V.int v.span), ("_value", V.int v.value)]) → H' l_probs = some (.lst (v.probs.map V.int)) → H' l_octs = some (.lst (v.octs.map V.int)) → Q .non H') (fun e => ∀ H', SameX p_self H H' → E (.ref (excA AD e)) none H')
def sp__choice_digits (K : PySem.W.Frag) (AD : Ads) : Sp := fun vs H Q E => ∃ (G : Hp) (base' : Int) (count' : Int), vs = [.int base', .int count'] ∧ Same G H ∧ cW (F__choice_digits base' count') (fun v => ∀ H', Same H H' → Q (.int v) H') (fun e => ∀ H', Same H H' → E (.ref (excA AD e)) none H')
def sp_SymbolReader_choice (K : PySem.W.Frag) (AD : Ads) : Sp := fun vs H Q E => ∃ (G : Hp) (p_self p_self_dec l_self_dec_probs l_self_dec_octs dx_self dx_self_dec : Addr) (self' : St_SymbolReader) (base' : Int) (count' : Int), vs = [.ref p_self, .int base', .int count'] ∧ Same G H ∧ (∀ a ∈ [p_self, p_self_dec, l_self_dec_probs, l_self_dec_octs], G a = none) ∧ H p_self = some (.ins AD.c_SymbolReader dx_self [("_decoder", V.ref p_self_dec)]) ∧ H p_self_dec = some (.ins AD.c_Decoder dx_self_dec [("_probabilities", V.ref l_self_dec_probs), ("_octets", V.ref l_self_dec_octs), ("_place", V.int self'.dec.place), ("_span", V.int self'.dec.span), ("_value", V.int self'.dec.value)]) ∧ H l_self_dec_probs = some (.lst ((self'.dec.probs : (List Int)).map V.int)) ∧ H l_self_dec_octs = some (.lst ((self'.dec.octs : (List Int)).map V.int)) ∧ l_self_dec_probs ≠ l_self_dec_octs ∧ p_self ≠ p_self_dec ∧ cW (F_SymbolReader_choice self' base' count') (fun v => ∀ (H' : Hp), SameXs [p_self, p_self_dec, l_self_dec_probs, l_self_dec_octs] H H' → H' p_self = some (.ins AD.c_SymbolReader dx_self [("_decoder", V.ref p_self_dec)]) → H' p_self_dec = some (.ins AD.c_Decoder dx_self_dec [("_probabilities", V.ref l_self_dec_probs), ("_octets", V.ref l_self_dec_octs), ("_place", V.int v.2.dec.place), ("_span", V.int v.2.dec.span), ("_value", V.int v.2.dec.value)]) → H' l_self_dec_probs = some (.lst ((v.2.dec.probs : (List Int)).map V.int)) → H' l_self_dec_octs = some (.lst ((v.2.dec.octs : (List Int)).map V.int)) → Q (.int v.1) H') (fun e => ∀ H', Same H H' → E (.ref (excA AD e)) none H')
def sp__law_vector (K : PySem.W.Frag) (AD : Ads) : Sp := fun vs H Q E => ∃ (G : Hp) (a_grid : Addr) (vs_grid : List V) (L_grid : List Addr) (grid' : (List (List PyData))) (x' : Int) (y' : Int) (second' : Int), vs = [.ref a_grid, .int x', .int y', .int second'] ∧ Same G H ∧ (hideL [] H) a_grid = some (.lst vs_grid) ∧ OwAll G (hideL [] H) L_grid vs_grid ((grid' : (List (List PyData))).map (oL (oF encD))) ∧ cW (F__law_vector grid' x' y' second') (fun v => ∀ u H' G', Same H H' → Same G G' → Same G' H' → (∀ b, H b ≠ none → G b = none → G' b = none) → Rp G' u ((encT2 PyData.int PyData.int) v) → Q u H') (fun e => ∀ H', Same H H' → E (.ref (excA AD e)) none H')
def sp__law_median (K : PySem.W.Frag) (AD : Ads) : Sp := fun vs H Q E => ∃ (G : Hp) (a_values : Addr) (values' : List Int), vs = [.ref a_values] ∧ Same G H ∧ (hideL [] H) a_values = some (.lst ((values' : List Int).map V.int)) ∧ cW (F__law_median values') (fun v => ∀ H', Same H H' → Q (.int v) H') (fun e => ∀ H', Same H H' → E (.ref (excA AD e)) none H')
def sp__law_predicted (K : PySem.W.Frag) (AD : Ads) : Sp := fun vs H Q E => ∃ (G : Hp) (a_grid : Addr) (vs_grid : List V) (L_grid : List Addr) (grid' : (List (List PyData))) (x' : Int) (y' : Int) (second' : Int), vs = [.ref a_grid, .int x', .int y', .int second'] ∧ Same G H ∧ (hideL [] H) a_grid = some (.lst vs_grid) ∧ OwAll G (hideL [] H) L_grid vs_grid ((grid' : (List (List PyData))).map (oL (oF encD))) ∧ cW (F__law_predicted grid' x' y' second') (fun v => ∀ u H' G', Same H H' → Same G G' → Same G' H' → (∀ b, H b ≠ none → G b = none → G' b = none) → Rp G' u ((encT2 PyData.int PyData.int) v) → Q u H') (fun e => ∀ H', Same H H' → E (.ref (excA AD e)) none H')
def sp_SymbolReader_signed (K : PySem.W.Frag) (AD : Ads) : Sp := fun vs H Q E => ∃ (G : Hp) (p_self p_self_dec l_self_dec_probs l_self_dec_octs dx_self dx_self_dec : Addr) (self' : St_SymbolReader) (base' : Int), vs = [.ref p_self, .int base'] ∧ Same G H ∧ (∀ a ∈ [p_self, p_self_dec, l_self_dec_probs, l_self_dec_octs], G a = none) ∧ H p_self = some (.ins AD.c_SymbolReader dx_self [("_decoder", V.ref p_self_dec)]) ∧ H p_self_dec = some (.ins AD.c_Decoder dx_self_dec [("_probabilities", V.ref l_self_dec_probs), ("_octets", V.ref l_self_dec_octs), ("_place", V.int self'.dec.place), ("_span", V.int self'.dec.span), ("_value", V.int self'.dec.value)]) ∧ H l_self_dec_probs = some (.lst ((self'.dec.probs : (List Int)).map V.int)) ∧ H l_self_dec_octs = some (.lst ((self'.dec.octs : (List Int)).map V.int)) ∧ l_self_dec_probs ≠ l_self_dec_octs ∧ p_self ≠ p_self_dec ∧ cW (F_SymbolReader_signed self' base') (fun v => ∀ (H' : Hp), SameXs [p_self, p_self_dec, l_self_dec_probs, l_self_dec_octs] H H' → H' p_self = some (.ins AD.c_SymbolReader dx_self [("_decoder", V.ref p_self_dec)]) → H' p_self_dec = some (.ins AD.c_Decoder dx_self_dec [("_probabilities", V.ref l_self_dec_probs), ("_octets", V.ref l_self_dec_octs), ("_place", V.int v.2.dec.place), ("_span", V.int v.2.dec.span), ("_value", V.int v.2.dec.value)]) → H' l_self_dec_probs = some (.lst ((v.2.dec.probs : (List Int)).map V.int)) → H' l_self_dec_octs = some (.lst ((v.2.dec.octs : (List Int)).map V.int)) → Q (.int v.1) H') (fun e => ∀ H', Same H H' → E (.ref (excA AD e)) none H')
def sp__law_due (K : PySem.W.Frag) (AD : Ads) : Sp := fun vs H Q E => ∃ (G : Hp) (p_reader p_reader_dec l_reader_dec_probs l_reader_dec_octs dx_reader dx_reader_dec : Addr) (reader' : St_SymbolReader) (a_grid : Addr) (vs_grid : List V) (L_grid : List Addr) (grid' : (List (List PyData))) (v_place : V) (place' : (Int × Int)) (kind' : Int) (refs' : Int), vs = [.ref p_reader, .ref a_grid, v_place, .int kind', .int refs'] ∧ Same G H ∧ (∀ a ∈ [p_reader, p_reader_dec, l_reader_dec_probs, l_reader_dec_octs], G a = none) ∧ H p_reader = some (.ins AD.c_SymbolReader dx_reader [("_decoder", V.ref p_reader_dec)]) ∧ H p_reader_dec = some (.ins AD.c_Decoder dx_reader_dec [("_probabilities", V.ref l_reader_dec_probs), ("_octets", V.ref l_reader_dec_octs), ("_place", V.int reader'.dec.place), ("_span", V.int reader'.dec.span), ("_value", V.int reader'.dec.value)]) ∧ H l_reader_dec_probs = some (.lst ((reader'.dec.probs : (List Int)).map V.int)) ∧ H l_reader_dec_octs = some (.lst ((reader'.dec.octs : (List Int)).map V.int)) ∧ l_reader_dec_probs ≠ l_reader_dec_octs ∧ p_reader ≠ p_reader_dec ∧ (hideL [p_reader, p_reader_dec, l_reader_dec_probs, l_reader_dec_octs] H) a_grid = some (.lst vs_grid) ∧ OwAll G (hideL [p_reader, p_reader_dec, l_reader_dec_probs, l_reader_dec_octs] H) L_grid vs_grid ((grid' : (List (List PyData))).map (oL (oF encD))) ∧ Rp (hideL [p_reader, p_reader_dec, l_reader_dec_probs, l_reader_dec_octs] H) v_place ((encT2 PyData.int PyData.int) place') ∧ cW (F__law_due reader' grid' place' kind' refs') (fun v => ∀ (H' : Hp), SameXs [p_reader, p_reader_dec, l_reader_dec_probs, l_reader_dec_octs] H H' → H' p_reader = some (.ins AD.c_SymbolReader dx_reader [("_decoder", V.ref p_reader_dec)]) → H' p_reader_dec = some (.ins AD.c_Decoder dx_reader_dec [("_probabilities", V.ref l_reader_dec_probs), ("_octets", V.ref l_reader_dec_octs), ("_place", V.int v.2.dec.place), ("_span", V.int v.2.dec.span), ("_value", V.int v.2.dec.value)]) → H' l_reader_dec_probs = some (.lst ((v.2.dec.probs : (List Int)).map V.int)) → H' l_reader_dec_octs = some (.lst ((v.2.dec.octs : (List Int)).map V.int)) → ∀ u G', Same G G' → Same G' H' → (∀ b, H b ≠ none → G b = none → G' b = none) → Rp G' u ((encT4 PyData.int PyData.int encD encD) v.1) → Q u H') (fun e => ∀ H', Same H H' → E (.ref (excA AD e)) none H')
def sp_clip (K : PySem.W.Frag) (AD : Ads) : Sp := fun vs H Q E => ∃ (G : Hp) (value' : Int) (low' : Int) (high' : Int), vs = [.int value', .int low', .int high'] ∧ Same G H ∧ cW (F_clip value' low' high') (fun v => Q (.int v) H) (fun e => E (.ref (excA AD e)) none H)
def sp__clip_component (K : PySem.W.Frag) (AD : Ads) : Sp := fun vs H Q E => ∃ (G : Hp) (component' : Int), vs = [.int component'] ∧ Same G H ∧ cW (F__clip_component component') (fun v => Q (.int v) H) (fun e => E (.ref (excA AD e)) none H)
def sp_clip_vector (K : PySem.W.Frag) (AD : Ads) : Sp := fun vs H Q E => ∃ (G : Hp) (x' : Int) (y' : Int), vs = [.int x', .int y'] ∧ Same G H ∧ cW (F_clip_vector x' y') (fun v => ∀ u H' G', Same H H' → Same G G' → Same G' H' → (∀ b, H b ≠ none → G b = none → G' b = none) → Rp G' u ((encT2 PyData.int PyData.int) v) → Q u H') (fun e => ∀ H', Same H H' → E (.ref (excA AD e)) none H')
def sp__read_vector (K : PySem.W.Frag) (AD : Ads) : Sp := fun vs H Q E => ∃ (G : Hp) (p_reader p_reader_dec l_reader_dec_probs l_reader_dec_octs dx_reader dx_reader_dec : Addr) (reader' : St_SymbolReader) (v_predicted : V) (predicted' : (Int × Int)), vs = [.ref p_reader, v_predicted] ∧ Same G H ∧ (∀ a ∈ [p_reader, p_reader_dec, l_reader_dec_probs, l_reader_dec_octs], G a = none) ∧ H p_reader = some (.ins AD.c_SymbolReader dx_reader [("_decoder", V.ref p_reader_dec)]) ∧ H p_reader_dec = some (.ins AD.c_Decoder dx_reader_dec [("_probabilities", V.ref l_reader_dec_probs), ("_octets", V.ref l_reader_dec_octs), ("_place", V.int reader'.dec.place), ("_span", V.int reader'.dec.span), ("_value", V.int reader'.dec.value)]) ∧ H l_reader_dec_probs = some (.lst ((reader'.dec.probs : (List Int)).map V.int)) ∧ H l_reader_dec_octs = some (.lst ((reader'.dec.octs : (List Int)).map V.int)) ∧ l_reader_dec_probs ≠ l_reader_dec_octs ∧ p_reader ≠ p_reader_dec ∧ Rp (hideL [p_reader, p_reader_dec, l_reader_dec_probs, l_reader_dec_octs] H) v_predicted ((encT2 PyData.int PyData.int) predicted') ∧ cW (F__read_vector reader' predicted') (fun v => ∀ (H' : Hp), SameXs [p_reader, p_reader_dec, l_reader_dec_probs, l_reader_dec_octs] H H' → H' p_reader = some (.ins AD.c_SymbolReader dx_reader [("_decoder", V.ref p_reader_dec)]) → H' p_reader_dec = some (.ins AD.c_Decoder dx_reader_dec [("_probabilities", V.ref l_reader_dec_probs), ("_octets", V.ref l_reader_dec_octs), ("_place", V.int v.2.dec.place), ("_span", V.int v.2.dec.span), ("_value", V.int v.2.dec.value)]) → H' l_reader_dec_probs = some (.lst ((v.2.dec.probs : (List Int)).map V.int)) → H' l_reader_dec_octs = some (.lst ((v.2.dec.octs : (List Int)).map V.int)) → ∀ u G', Same G G' → Same G' H' → (∀ b, H b ≠ none → G b = none → G' b = none) → Rp G' u ((encT2 PyData.int PyData.int) v.1) → Q u H') (fun e => ∀ H', Same H H' → E (.ref (excA AD e)) none H')
def sp__median (K : PySem.W.Frag) (AD : Ads) : Sp := fun vs H Q E => ∃ (G : Hp) (a_numbers : Addr) (numbers' : List Int), vs = [.ref a_numbers] ∧ Same G H ∧ (hideL [] H) a_numbers = some (.lst ((numbers' : List Int).map V.int)) ∧ cW (F__median numbers') (fun v => ∀ H', Same H H' → Q (.int v) H') (fun e => ∀ H', Same H H' → E (.ref (excA AD e)) none H')
def sp_MotionGrid__has (K : PySem.W.Frag) (AD : Ads) : Sp := fun vs H Q E => ∃ (G : Hp) (p_self l_self_lines dx_self : Addr) (vs_self_lines : List V) (L_self_lines : List Addr) (self' : St_MotionGrid) (x' : Int) (y' : Int), vs = [.ref p_self, .int x', .int y'] ∧ Same G H ∧ (hideL [] H) p_self = some (.ins AD.c_MotionGrid dx_self [("_width", V.int self'.width), ("_height", V.int self'.height), ("_lines", V.ref l_self_lines)]) ∧ (hideL [] H) l_self_lines = some (.lst (vs_self_lines)) ∧ OwAll G (hideL [] H) L_self_lines vs_self_lines ((self'.lines : (List (List PyData))).map (oL (oF encD))) ∧ cW (F_MotionGrid__has self' x' y') (fun v => ∀ H', Same H H' → Q (.bl v) H') (fun e => ∀ H', Same H H' → E (.ref (excA AD e)) none H')
def sp_MotionGrid_motion_at (K : PySem.W.Frag) (AD : Ads) : Sp := fun vs H Q E => ∃ (G : Hp) (p_self l_self_lines dx_self : Addr) (vs_self_lines : List V) (L_self_lines : List Addr) (self' : St_MotionGrid) (x' : Int) (y' : Int), vs = [.ref p_self, .int x', .int y'] ∧ Same G H ∧ (hideL [] H) p_self = some (.ins AD.c_MotionGrid dx_self [("_width", V.int self'.width), ("_height", V.int self'.height), ("_lines", V.ref l_self_lines)]) ∧ (hideL [] H) l_self_lines = some (.lst (vs_self_lines)) ∧ OwAll G (hideL [] H) L_self_lines vs_self_lines ((self'.lines : (List (List PyData))).map (oL (oF encD))) ∧ cW (F_MotionGrid_motion_at self' x' y') (fun v => ∀ u H' G', Same H H' → Same G G' → Same G' H' → (∀ b, H b ≠ none → G b = none → G' b = none) → Rp G' u (encD v) → Q u H') (fun e => ∀ H', Same H H' → E (.ref (excA AD e)) none H')
def sp_MotionGrid__vector_at (K : PySem.W.Frag) (AD : Ads) : Sp := fun vs H Q E => ∃ (G : Hp) (p_self l_self_lines dx_self : Addr) (vs_self_lines : List V) (L_self_lines : List Addr) (self' : St_MotionGrid) (x' : Int) (y' : Int) (place' : Int), vs = [.ref p_self, .int x', .int y', .int place'] ∧ Same G H ∧ (hideL [] H) p_self = some (.ins AD.c_MotionGrid dx_self [("_width", V.int self'.width), ("_height", V.int self'.height), ("_lines", V.ref l_self_lines)]) ∧ (hideL [] H) l_self_lines = some (.lst (vs_self_lines)) ∧ OwAll G (hideL [] H) L_self_lines vs_self_lines ((self'.lines : (List (List PyData))).map (oL (oF encD))) ∧ cW (F_MotionGrid__vector_at self' x' y' place') (fun v => ∀ u H' G', Same H H' → Same G G' → Same G' H' → (∀ b, H b ≠ none → G b = none → G' b = none) → Rp G' u ((encT2 PyData.int PyData.int) v) → Q u H') (fun e => ∀ H', Same H H' → E (.ref (excA AD e)) none H')
def sp_MotionGrid_predicted (K : PySem.W.Frag) (AD : Ads) : Sp := fun vs H Q E => ∃ (G : Hp) (p_self l_self_lines dx_self : Addr) (vs_self_lines : List V) (L_self_lines : List Addr) (self' : St_MotionGrid) (x' : Int) (y' : Int) (second' : Bool), vs = [.ref p_self, .int x', .int y', .bl second'] ∧ Same G H ∧ (hideL [] H) p_self = some (.ins AD.c_MotionGrid dx_self [("_width", V.int self'.width), ("_height", V.int self'.height), ("_lines", V.ref l_self_lines)]) ∧ (hideL [] H) l_self_lines = some (.lst (vs_self_lines)) ∧ OwAll G (hideL [] H) L_self_lines vs_self_lines ((self'.lines : (List (List PyData))).map (oL (oF encD))) ∧ cW (F_MotionGrid_predicted self' x' y' second') (fun v => ∀ u H' G', Same H H' → Same G G' → Same G' H' → (∀ b, H b ≠ none → G b = none → G' b = none) → Rp G' u ((encT2 PyData.int PyData.int) v) → Q u H') (fun e => ∀ H', Same H H' → E (.ref (excA AD e)) none H')
def sp_read_motion (K : PySem.W.Frag) (AD : Ads) : Sp := fun vs H Q E => ∃ (G : Hp) (p_reader p_reader_dec l_reader_dec_probs l_reader_dec_octs dx_reader dx_reader_dec : Addr) (reader' : St_SymbolReader) (p_header l_header_store l_header_refs dx_header : Addr) (header' : St_PictureHeader) (p_grid l_grid_lines dx_grid : Addr) (vs_grid_lines : List V) (L_grid_lines : List Addr) (grid' : St_MotionGrid) (x' : Int) (y' : Int), vs = [.ref p_reader, .ref p_header, .ref p_grid, .int x', .int y'] ∧ Same G H ∧ (∀ a ∈ [p_reader, p_reader_dec, l_reader_dec_probs, l_reader_dec_octs], G a = none) ∧ H p_reader = some (.ins AD.c_SymbolReader dx_reader [("_decoder", V.ref p_reader_dec)]) ∧ H p_reader_dec = some (.ins AD.c_Decoder dx_reader_dec [("_probabilities", V.ref l_reader_dec_probs), ("_octets", V.ref l_reader_dec_octs), ("_place", V.int reader'.dec.place), ("_span", V.int reader'.dec.span), ("_value", V.int reader'.dec.value)]) ∧ H l_reader_dec_probs = some (.lst ((reader'.dec.probs : (List Int)).map V.int)) ∧ H l_reader_dec_octs = some (.lst ((reader'.dec.octs : (List Int)).map V.int)) ∧ l_reader_dec_probs ≠ l_reader_dec_octs ∧ p_reader ≠ p_reader_dec ∧ (hideL [p_reader, p_reader_dec, l_reader_dec_probs, l_reader_dec_octs] H) p_header = some (.ins AD.c_PictureHeader dx_header [("number", V.int header'.number), ("kind", V.str header'.kind), ("level", V.int header'.level), ("store", V.ref l_header_store), ("refs", V.ref l_header_refs), ("weight", V.int header'.weight), ("layer", V.int header'.layer), ("shown", V.bl header'.shown), ("edge", V.int header'.edge)]) ∧ (hideL [p_reader, p_reader_dec, l_reader_dec_probs, l_reader_dec_octs] H) l_header_store = some (.lst ((header'.store : (List Int)).map V.int)) ∧ (hideL [p_reader, p_reader_dec, l_reader_dec_probs, l_reader_dec_octs] H) l_header_refs = some (.lst ((header'.refs : (List Int)).map V.int)) ∧ (hideL [p_reader, p_reader_dec, l_reader_dec_probs, l_reader_dec_octs] H) p_grid = some (.ins AD.c_MotionGrid dx_grid [("_width", V.int grid'.width), ("_height", V.int grid'.height), ("_lines", V.ref l_grid_lines)]) ∧ (hideL [p_reader, p_reader_dec, l_reader_dec_probs, l_reader_dec_octs] H) l_grid_lines = some (.lst (vs_grid_lines)) ∧ OwAll G (hideL [p_reader, p_reader_dec, l_reader_dec_probs, l_reader_dec_octs] H) L_grid_lines vs_grid_lines ((grid'.lines : (List (List PyData))).map (oL (oF encD))) ∧ cW (F_read_motion reader' header' grid' x' y') (fun v => ∀ (H' : Hp), SameXs [p_reader, p_reader_dec, l_reader_dec_probs, l_reader_dec_octs] H H' → H' p_reader = some (.ins AD.c_SymbolReader dx_reader [("_decoder", V.ref p_reader_dec)]) → H' p_reader_dec = some (.ins AD.c_Decoder dx_reader_dec [("_probabilities", V.ref l_reader_dec_probs), ("_octets", V.ref l_reader_dec_octs), ("_place", V.int v.2.dec.place), ("_span", V.int v.2.dec.span), ("_value", V.int v.2.dec.value)]) → H' l_reader_dec_probs = some (.lst ((v.2.dec.probs : (List Int)).map V.int)) → H' l_reader_dec_octs = some (.lst ((v.2.dec.octs : (List Int)).map V.int)) → ∀ u G', Same G G' → Same G' H' → (∀ b, H b ≠ none → G b = none → G' b = none) → Rp G' u ((encT4 PyData.int PyData.int encD encD) v.1) → Q u H') (fun e => ∀ H', Same H H' → E (.ref (excA AD e)) none H')
def sp_MotionGrid_keep_quarter (K : PySem.W.Frag) (AD : Ads) : Sp := fun vs H Q E => ∃ (G : Hp) (p_self l_self_lines dx_self : Addr) (vs_self_lines : List V) (L_self_lines : List Addr) (self' : St_MotionGrid) (x' : Int) (y' : Int) (v_motion : V) (motion' : PyData), vs = [.ref p_self, .int x', .int y', v_motion] ∧ Same G H ∧ (∀ a ∈ (p_self :: (l_self_lines :: (L_self_lines ++ []))), G a = none) ∧ H p_self = some (.ins AD.c_MotionGrid dx_self [("_width", V.int self'.width), ("_height", V.int self'.height), ("_lines", V.ref l_self_lines)]) ∧ H l_self_lines = some (.lst (vs_self_lines)) ∧ OwAll G H L_self_lines vs_self_lines ((self'.lines : (List (List PyData))).map (oL (oF encD))) ∧ (∀ b ∈ L_self_lines, b ≠ p_self) ∧ (∀ b ∈ L_self_lines, b ≠ l_self_lines) ∧ Rp G v_motion (encD motion') ∧ cW (F_MotionGrid_keep_quarter self' x' y' motion') (fun v => ∀ (H' G' : Hp) (vs'_self_lines : List V) (L'_self_lines : List Addr), SameXs (p_self :: (l_self_lines :: (L_self_lines ++ []))) H H' → Same G G' → Same G' H' → (∀ b, H b ≠ none → G b = none → G' b = none) → (∀ b ∈ (p_self :: (l_self_lines :: (L_self_lines ++ []))), H' b ≠ none) → H' p_self = some (.ins AD.c_MotionGrid dx_self [("_width", V.int v.width), ("_height", V.int v.height), ("_lines", V.ref l_self_lines)]) → H' l_self_lines = some (.lst (vs'_self_lines)) → (∀ b ∈ L'_self_lines, b ∈ L_self_lines ∨ H b = none) → (∀ b ∈ L'_self_lines, G' b = none) → (∀ b ∈ L'_self_lines, b ≠ p_self) → (∀ b ∈ L'_self_lines, b ≠ l_self_lines) → OwAll G' H' L'_self_lines vs'_self_lines ((v.lines : (List (List PyData))).map (oL (oF encD))) → Q .non H') (fun e => ∀ H', Same H H' → E (.ref (excA AD e)) none H')
def sp__law_is_vector (K : PySem.W.Frag) (AD : Ads) : Sp := fun vs H Q E => ∃ (G : Hp) (v_vector : V) (vector' : PyData), vs = [v_vector] ∧ Same G H ∧ Rp (hideL [] H) v_vector (encD vector') ∧ cW (F__law_is_vector vector') (fun v => ∀ H', Same H H' → Q (.bl v) H') (fun e => ∀ H', Same H H' → E (.ref (excA AD e)) none H')
def sp__law_is_motion (K : PySem.W.Frag) (AD : Ads) : Sp := fun vs H Q E => ∃ (G : Hp) (v_motion : V) (motion' : (Int × Int × PyData × PyData)) (kind' : Int) (refs' : Int), vs = [v_motion, .int kind', .int refs'] ∧ Same G H ∧ Rp (hideL [] H) v_motion ((encT4 PyData.int PyData.int encD encD) motion') ∧ cW (F__law_is_motion motion' kind' refs') (fun v => ∀ H', Same H H' → Q (.bl v) H') (fun e => ∀ H', Same H H' → E (.ref (excA AD e)) none H')
def sp_law (K : PySem.W.Frag) (AD : Ads) : Sp := fun vs H Q E => ∃ (a_script : Addr) (script : List Int), vs = [.ref a_script] ∧ SqL K H a_script (script.map V.int) ∧ cW (F_law script) (fun v => v = true) (fun _ => False) ∧ ∀ H', Q (.bl true) H'
section
variable {P : Program} {w : World} {K : PySem.W.Frag} {mg : Str → Option Value} {base : Heap} {AD : Ads}
abbrev N__law_draws : List Str := ["cell", "limits", "found", "rest", "state", "free", "limit"]
theorem sc__law_draws : FnScope N__law_draws ["cell", "limits"] (defScope s__law_draws) := ⟨rfl, rfl, rfl, by decide +kernel, rfl, by decide +kernel, by decide +kernel⟩
theorem ok__law_draws (D : DefX K mg "_law_draws" s__law_draws ["cell", "limits"] pats__law_draws) (T : Txt w K mg AD)  : CalX P w K mg base 1 "_law_draws" (sp__law_draws K AD) pats__law_draws := by
  refine D.ok sc__law_draws (fun vs H Q E h => ?_) (fun f cdv A_ outer s H vs Q E hr h => ?_)
  · obtain ⟨G, cell', a_limits, limits', rfl, _⟩ := h
    rfl
  · obtain ⟨G, cell', a_limits, limits', rfl, sG, q_limits, hw⟩ := h
    refine ⟨_, (pss_cons (ps_set (i := 2) sc__law_draws.nd rfl (Or.inl rfl) (pe_lst pa_nil))
      (pss_cons (ps_set (i := 3) sc__law_draws.nd rfl (Or.inl rfl) (pe_callB call_abs (by rfl) T.b_abs (by decide +kernel) (pa_cons (pe_callTy call_int1 (by rfl) T.b_int (by decide +kernel) (pa_cons (pv 0) pa_nil)) pa_nil)))
      (pss_cons (ps_set (i := 4) sc__law_draws.nd rfl (Or.inl rfl) (pe_op op_mod (pe_callTy call_int1 (by rfl) T.b_int (by decide +kernel) (pa_cons (pv 3) pa_nil)) pe_int))
      (pss_cons (ps_set (i := 5) sc__law_draws.nd rfl (Or.inl rfl) (pe_or (pe_cmp (pc_lt (pv 0) pe_int)) (pe_one (pe_cmp (pc_ge (pv 0) (pe_op op_pow pe_int pe_int))))))
      (pss_cons (ps_for (passes_of rfl) rfl (pi_listK (K := K) (pv 1)) (pg_name (i := 6) sc__law_draws.nd rfl (Or.inl rfl)) (pss_one (ps_if (PW.pt (pw_and (pt_val (pv 5)) (pw_and1 (pt_cmp (pc_gt (pv 3) pe_int))))) (pss_cons (ps_expr (pe_bm PySem.F.plainAttrs_list PySem.F.slot_list_append PySem.F.type_list_append mt_append (pv 2) (pa_cons (pe_op op_mod (pe_callTy call_int1 (by rfl) T.b_int (by decide +kernel) (pa_cons (pv 3) pa_nil)) (pv 6)) pa_nil)))
      (pss_one (ps_set (i := 3) sc__law_draws.nd rfl (Or.inl rfl) (pe_op op_fdivW (pv 3) (pv 6))))) (pss_cons (ps_set (i := 4) sc__law_draws.nd rfl (Or.inl rfl) (pe_op op_mod (pe_callTy call_int1 (by rfl) T.b_int (by decide +kernel) (pa_cons (pe_op op_add (pe_op op_mul (pv 4) pe_int) pe_int) pa_nil)) pe_int))
      (pss_cons (ps_set (i := 4) sc__law_draws.nd rfl (Or.inl rfl) (pe_op op_mod (pe_callTy call_int1 (by rfl) T.b_int (by decide +kernel) (pa_cons (pe_op op_add (pe_op op_mul (pv 4) pe_int) pe_int) pa_nil)) pe_int))
      (pss_one (ps_expr (pe_bm PySem.F.plainAttrs_list PySem.F.slot_list_append PySem.F.type_list_append mt_append (pv 2) (pa_cons (pe_op op_mod (pe_callTy call_int1 (by rfl) T.b_int (by decide +kernel) (pa_cons (pe_op op_fdivW (pv 4) pe_int) pa_nil)) (pv 6)) pa_nil)))))))))
      (pss_one (ps_ret (pv 2)))))))), ?_⟩
    obtain ⟨KK, EE, hK0, hE, hw⟩ := cW_gen hw
    have S0 := Sep.startG sG
    unfold F__law_draws at hw
    refine ⟨(by show 0 ≤ sizeLine; decide), fun p1 n2 => ?_⟩
    generalize g3 : upd H p1 _ = H4
    obtain ⟨e5, h6⟩ := gen_new n2 g3
    have h7 : H4 p1 = some (.lst ((([] : (List Int)) : (List Int)).map V.int)) := h6
    have fr8 := S0.free n2
    have S9 := S0.new n2 e5 h7 fr8
    refine ⟨_, rfl, .inl ⟨_, rfl, ?_⟩⟩
    refine ⟨_, rfl, ?_⟩
    have hw := cW_bnd hw
    refine ⟨_, rfl, .inl ⟨_, rfl, ?_⟩⟩
    refine ⟨_, _, rfl, rfl, (show (0 : Int) < 2147483647 by decide), ?_⟩
    have hw := cW_bnd hw
    refine vv_or (ta := (tLt (tVar 0) (tC (V.int 0)))) (tb := (tGe (tVar 0) (tOp (rI CPow fun i j => V.int (i ^ j.toNat)) (tC (V.int 10)) (tC (V.int 18))))) (a := decide (cell' < 0)) (b := decide (((10 : Int) ^ Int.toNat 18) ≤ cell')) ?ha12 ?hb13 _ ?_
    case ha12 => exact (vv_cmp (val_var rfl) val_c (fun Q q => ⟨_, _, rfl, rfl, q⟩))
    case hb13 => exact (vv_cmp (val_var rfl) (val_op val_c val_c (fun Q q => ⟨_, _, rfl, rfl, ⟨by decide, by decide, by decide⟩, q⟩)) (fun Q q => ⟨_, _, rfl, rfl, q⟩))
    have hw := cW_bnd hw
    obtain ⟨K16, hK17, hw⟩ := cW_push hw
    refine ⟨_, rfl, _, rfl, ⟨_, (SqL.of (S9.bM _ _ q_limits))⟩, for_list (K := K) (a := a_limits) (xs := (limits' : List Int).map V.int) (fun i σ H' => ∃ (found_18 : (List Int)) (rest_19 : Int) (state_20 : Int) (u21 : Option V) (G' : Hp), σ = [some (V.int (cell')), some (V.ref a_limits), some (V.ref p1), some (V.int rest_19), some (V.int state_20), some (V.bl ((decide (cell' < 0) || decide (((10 : Int) ^ Int.toNat 18) ≤ cell')))), u21] ∧ Same G G' ∧ Sep [] H G G' H' [p1] ∧ H' p1 = some (.lst ((found_18 : (List Int)).map V.int)) ∧ cW (forS (List.drop i (limits')) (found_18, rest_19, state_20) (fun s x => F__law_draws_b1 ((decide (cell' < 0) || decide (((10 : Int) ^ Int.toNat 18) ≤ cell'))) (s.1) (s.2.1) (s.2.2) x)) K16 EE) ?_ ?_ ?_ ?_⟩
    · exact ⟨(([] : (List Int))), ((if cell' < 0 then -cell' else cell')), (((if cell' < 0 then -cell' else cell') % 2147483647)), _, _, rfl, (Same.refl _), S9, h7, hw⟩
    · intro i σ H22 _ hw
      obtain ⟨found_18, rest_19, state_20, u21, G25, rfl, eG26, S23, h24, hw⟩ := hw
      exact (SqL.of (S23.bM _ _ q_limits))
    · intro i x σ H27 hj hw
      obtain ⟨found_18, rest_19, state_20, u21, G30, rfl, eG31, S28, h29, hw⟩ := hw
      obtain ⟨x32, hx, rfl⟩ := map_get hj
      have hw := cW_forS hx hw
      have hw : cW (F__law_draws_b1 ((decide (cell' < 0) || decide (((10 : Int) ^ Int.toNat 18) ≤ cell'))) (found_18) (rest_19) (state_20) (x32)) _ EE := hw
      unfold F__law_draws_b1 at hw
      obtain ⟨K36, hK37, hw⟩ := cW_name hw
      refine ⟨_, rfl, _, rfl, ?_⟩
      refine iteB (fun c39 => ?_) (fun c39 => ?_)
      · have hw := cW_pos c39 hw
        refine ⟨_, rfl, _, _, rfl, rfl, _, rfl, ?_⟩
        refine iteD (fun c40 => ?_) (fun c40 => ?_)
        · have hw := cW_pos c40 hw
          refine ⟨_, rfl, (.inl ⟨rfl, _, SqL.of h29⟩), _, rfl, .inl ⟨_, rfl, ?_⟩⟩
          obtain ⟨g41, hw⟩ := cW_grd hw
          obtain ⟨g42, hw⟩ := cW_grd hw
          refine ⟨_, rfl, _, _, rfl, rfl, g41, _, _, _, rfl, rfl, h29, (app_lenM g42), ?_⟩
          generalize g43 : upd H27 p1 _ = H44
          obtain ⟨x45, h46⟩ := gen_mut g43
          have h47 : H44 p1 = some (.lst (((found_18) ++ [(rest_19 % x32)] : (List Int)).map V.int)) := snoc_map h46
          have S48 := S28.mut1 x45 (.head _) h47
          have hw := cW_bnd hw
          obtain ⟨g50, hw⟩ := cW_grd hw
          refine ⟨_, rfl, _, rfl, _, _, rfl, rfl, (divW_small g50.1 g50.2), ?_⟩
          have hw := cW_bnd hw
          have hw := cW_ok hw
          have hw := hK37 _ hw
          exact ⟨((found_18) ++ [(rest_19 % x32)]), ((rest_19 / x32)), (state_20), _, _, rfl, eG31, S48, h47, hw⟩
        · have hw := cW_neg c40 hw
          refine ⟨_, rfl, _, _, rfl, rfl, (.inr ⟨by decide, by decide⟩), _, _, rfl, rfl, .inl ⟨_, rfl, ?_⟩⟩
          refine ⟨_, _, rfl, rfl, (show (0 : Int) < 2147483647 by decide), ?_⟩
          have hw := cW_bnd hw
          refine ⟨_, rfl, _, _, rfl, rfl, (.inr ⟨by decide, by decide⟩), _, _, rfl, rfl, .inl ⟨_, rfl, ?_⟩⟩
          refine ⟨_, _, rfl, rfl, (show (0 : Int) < 2147483647 by decide), ?_⟩
          have hw := cW_bnd hw
          refine ⟨_, rfl, (.inl ⟨rfl, _, SqL.of h29⟩), _, rfl, _, _, rfl, rfl, (divW_lit (by decide) (by decide)), .inl ⟨_, rfl, ?_⟩⟩
          obtain ⟨g54, hw⟩ := cW_grd hw
          obtain ⟨g55, hw⟩ := cW_grd hw
          refine ⟨_, rfl, _, _, rfl, rfl, g54, _, _, _, rfl, rfl, h29, (app_lenM g55), ?_⟩
          generalize g56 : upd H27 p1 _ = H57
          obtain ⟨x58, h59⟩ := gen_mut g56
          have h60 : H57 p1 = some (.lst (((found_18) ++ [((((((((state_20 * 48271) + 11) % 2147483647) * 69621) + 7) % 2147483647) / 13) % x32)] : (List Int)).map V.int)) := snoc_map h59
          have S61 := S28.mut1 x58 (.head _) h60
          have hw := cW_bnd hw
          have hw := cW_ok hw
          have hw := hK37 _ hw
          exact ⟨((found_18) ++ [((((((((state_20 * 48271) + 11) % 2147483647) * 69621) + 7) % 2147483647) / 13) % x32)]), (rest_19), (((((((state_20 * 48271) + 11) % 2147483647) * 69621) + 7) % 2147483647)), _, _, rfl, eG31, S61, h60, hw⟩
      · have hw := cW_negB c39 hw
        refine iteF ?_
        refine ⟨_, rfl, _, _, rfl, rfl, (.inr ⟨by decide, by decide⟩), _, _, rfl, rfl, .inl ⟨_, rfl, ?_⟩⟩
        refine ⟨_, _, rfl, rfl, (show (0 : Int) < 2147483647 by decide), ?_⟩
        have hw := cW_bnd hw
        refine ⟨_, rfl, _, _, rfl, rfl, (.inr ⟨by decide, by decide⟩), _, _, rfl, rfl, .inl ⟨_, rfl, ?_⟩⟩
        refine ⟨_, _, rfl, rfl, (show (0 : Int) < 2147483647 by decide), ?_⟩
        have hw := cW_bnd hw
        refine ⟨_, rfl, (.inl ⟨rfl, _, SqL.of h29⟩), _, rfl, _, _, rfl, rfl, (divW_lit (by decide) (by decide)), .inl ⟨_, rfl, ?_⟩⟩
        obtain ⟨g65, hw⟩ := cW_grd hw
        obtain ⟨g66, hw⟩ := cW_grd hw
        refine ⟨_, rfl, _, _, rfl, rfl, g65, _, _, _, rfl, rfl, h29, (app_lenM g66), ?_⟩
        generalize g67 : upd H27 p1 _ = H68
        obtain ⟨x69, h70⟩ := gen_mut g67
        have h71 : H68 p1 = some (.lst (((found_18) ++ [((((((((state_20 * 48271) + 11) % 2147483647) * 69621) + 7) % 2147483647) / 13) % x32)] : (List Int)).map V.int)) := snoc_map h70
        have S72 := S28.mut1 x69 (.head _) h71
        have hw := cW_bnd hw
        have hw := cW_ok hw
        have hw := hK37 _ hw
        exact ⟨((found_18) ++ [((((((((state_20 * 48271) + 11) % 2147483647) * 69621) + 7) % 2147483647) / 13) % x32)]), (rest_19), (((((((state_20 * 48271) + 11) % 2147483647) * 69621) + 7) % 2147483647)), _, _, rfl, eG31, S72, h71, hw⟩
    · intro σ H74 hw
      obtain ⟨found_18, rest_19, state_20, u21, G77, rfl, eG78, S75, h76, hw⟩ := hw
      have hw := hK17 _ (cW_forS0 (by rw [List.length_map]) hw)
      have hw : cW (F__law_draws_r1  (found_18) (rest_19) (state_20)) _ EE := hw
      unfold F__law_draws_r1 at hw
      refine ⟨_, rfl, ?_⟩
      have hw := cW_ok hw
      exact hK0 _ hw _ _ fr8 S75.b0 h76

abbrev N__require : List Str := ["holds", "text"]
theorem sc__require : FnScope N__require ["holds", "text"] (defScope s__require) := ⟨rfl, rfl, rfl, by decide +kernel, rfl, by decide +kernel, by decide +kernel⟩
theorem ok__require (D : DefX K mg "_require" s__require ["holds", "text"] pats__require) (T : Txt w K mg AD)  : CalX P w K mg base 1 "_require" (sp__require K AD) pats__require := by
  refine D.ok sc__require (fun vs H Q E h => ?_) (fun f cdv A_ outer s H vs Q E hr h => ?_)
  · obtain ⟨G, holds', text', rfl, _⟩ := h
    rfl
  · obtain ⟨G, holds', text', rfl, sG, hw⟩ := h
    refine ⟨_, (pss_one (ps_if (pt_not (pt_val (pv 0))) (pss_one (ps_raise rfl (takes_of rfl rfl rfl rfl) (SkE.pmk_own1 PySem.F.excBase_ValueError T.xx_BadHeader T.xg_BadHeader T.xk_BadHeader (raises_own T.xb_BadHeader T.xt_BadHeader) rfl (pv 1)))) pss_nil)), ?_⟩
    obtain ⟨KK, EE, hK0, hE, hw⟩ := cW_gen hw
    have S0 := Sep.startG sG
    unfold F__require at hw
    refine ⟨_, rfl, _, rfl, ?_⟩
    refine iteBN (fun c82 => ?_) (fun c82 => ?_)
    · have hw := cW_negB c82 hw
      refine ⟨_, rfl, ?_⟩
      exact hE 3 (cW_er hw)
    · have hw := cW_pos c82 hw
      have hw := cW_ok hw
      exact hK0 _ hw

abbrev N_Settings___init__ : List Str := ["self", "fmt", "slots", "rows", "deblock", "offset", "layers"]
theorem sc_Settings___init__ : FnScope N_Settings___init__ ["self", "fmt", "slots", "rows", "deblock", "offset", "layers"] (defScope s_Settings___init__) := ⟨rfl, rfl, rfl, by decide +kernel, rfl, by decide +kernel, by decide +kernel⟩
theorem ok_Settings___init__ (D : InitX K mg AD.c_Settings "Settings" "Settings.__init__" s_Settings___init__ ["self", "fmt", "slots", "rows", "deblock", "offset", "layers"] pats_Settings___init__) (T : Txt w K mg AD) (c__require : CalX P w K mg base 1 "_require" (sp__require K AD) pats__require) : MakX P w K mg base 2 "Settings" AD.c_Settings (sp_Settings___init__ K AD) pats_Settings___init__ := by
  refine D.ok sc_Settings___init__ (fun vs H Q E h => ?_) (fun f cdv A_ outer s H vs Q E hr h => ?_)
  · obtain ⟨G, p_self, dx_self, p_fmt, dx_fmt, fmt', slots', rows', deblock', offset', layers', rfl, _⟩ := h
    rfl
  · obtain ⟨G, p_self, dx_self, p_fmt, dx_fmt, fmt', slots', rows', deblock', offset', layers', rfl, sG, gM, h_self, h_p_fmt, hw⟩ := h
    refine ⟨_, (pss_cons (ps_expr (vx_callX c__require pat__require_0 (.head _) hr (by decide) (takes_of rfl rfl rfl rfl) rfl (pa_cons (pe_chain op_le op_le pe_int (pv 2) pe_int) (pa_cons pe_str pa_nil)) pk_nil))
      (pss_cons (ps_expr (vx_callX c__require pat__require_0 (.head _) hr (by decide) (takes_of rfl rfl rfl rfl) rfl (pa_cons (pe_chain op_le op_le pe_int (pv 3) pe_int) (pa_cons pe_str pa_nil)) pk_nil))
      (pss_cons (ps_expr (vx_callX c__require pat__require_0 (.head _) hr (by decide) (takes_of rfl rfl rfl rfl) rfl (pa_cons (pe_chain op_le op_le pe_int (pv 6) pe_int) (pa_cons pe_str pa_nil)) pk_nil))
      (pss_cons (ps_fld (pv 0) (pv 1) rfl)
      (pss_cons (ps_fld (pv 0) (pv 2) rfl)
      (pss_cons (ps_fld (pv 0) (pv 3) rfl)
      (pss_cons (ps_fld (pv 0) (pv 4) rfl)
      (pss_cons (ps_fld (pv 0) (pv 5) rfl)
      (pss_one (ps_fld (pv 0) (pv 6) rfl)))))))))), ?_⟩
    obtain ⟨KK, EE, hK0, hE, hw⟩ := cW_gen hw
    have S0 := Sep.startM (M := [p_self]) sG (all_cons (some_ne h_self) all_nil) gM
    unfold F_Settings___init__ at hw
    refine vv_chain (ta := (tC (V.int 1))) (tb := (tVar 2)) (tc := (tC (V.int 4))) (r := (rI0 fun i j => V.bl (decide (i ≤ j)))) (r' := (rI0 fun i j => V.bl (decide (i ≤ j)))) (x := V.int (1)) (y := V.int (slots')) (z := V.int (4)) (a := decide (1 ≤ slots')) (b := decide (slots' ≤ 4)) ?hx83 ?hy84 ?hz85 (fun Q q => ⟨_, _, rfl, rfl, q⟩) (fun Q q => ⟨_, _, rfl, rfl, q⟩) _ ?_
    case hx83 => exact val_c
    case hy84 => exact (val_var rfl)
    case hz85 => exact val_c
    refine ⟨rfl, rfl, G, _, _, rfl, S0.sG, cW_call hw (fun v86 hw => ?_) (fun e he => hE e he _ (sameX_of S0.base))⟩
    refine vv_chain (ta := (tC (V.int 1))) (tb := (tVar 3)) (tc := (tC (V.int 32))) (r := (rI0 fun i j => V.bl (decide (i ≤ j)))) (r' := (rI0 fun i j => V.bl (decide (i ≤ j)))) (x := V.int (1)) (y := V.int (rows')) (z := V.int (32)) (a := decide (1 ≤ rows')) (b := decide (rows' ≤ 32)) ?hx87 ?hy88 ?hz89 (fun Q q => ⟨_, _, rfl, rfl, q⟩) (fun Q q => ⟨_, _, rfl, rfl, q⟩) _ ?_
    case hx87 => exact val_c
    case hy88 => exact (val_var rfl)
    case hz89 => exact val_c
    refine ⟨rfl, rfl, G, _, _, rfl, S0.sG, cW_call hw (fun v90 hw => ?_) (fun e he => hE e he _ (sameX_of S0.base))⟩
    refine vv_chain (ta := (tC (V.int 1))) (tb := (tVar 6)) (tc := (tC (V.int 4))) (r := (rI0 fun i j => V.bl (decide (i ≤ j)))) (r' := (rI0 fun i j => V.bl (decide (i ≤ j)))) (x := V.int (1)) (y := V.int (layers')) (z := V.int (4)) (a := decide (1 ≤ layers')) (b := decide (layers' ≤ 4)) ?hx91 ?hy92 ?hz93 (fun Q q => ⟨_, _, rfl, rfl, q⟩) (fun Q q => ⟨_, _, rfl, rfl, q⟩) _ ?_
    case hx91 => exact val_c
    case hy92 => exact (val_var rfl)
    case hz93 => exact val_c
    refine ⟨rfl, rfl, G, _, _, rfl, S0.sG, cW_call hw (fun v94 hw => ?_) (fun e he => hE e he _ (sameX_of S0.base))⟩
    refine ⟨_, rfl, _, rfl, _, _, _, _, rfl, h_self, T.cl_Settings, T.n_Settings_fmt, (by show 0 < 1000; decide), ?_⟩
    generalize g95 : upd H p_self _ = H96
    obtain ⟨x97, h98⟩ := gen_mut g95
    have h99 : H96 p_self = some (.ins AD.c_Settings dx_self [("fmt", V.ref p_fmt)]) := h98
    have S100 := S0.mut1 x97 (.head _) h99
    refine ⟨_, rfl, _, rfl, _, _, _, _, rfl, h99, T.cl_Settings, T.n_Settings_slots, (by show 1 < 1000; decide), ?_⟩
    generalize g101 : upd H96 p_self _ = H102
    obtain ⟨x103, h104⟩ := gen_mut g101
    have h105 : H102 p_self = some (.ins AD.c_Settings dx_self [("fmt", V.ref p_fmt), ("slots", V.int (slots'))]) := h104
    have S106 := S100.mut1 x103 (.head _) h105
    refine ⟨_, rfl, _, rfl, _, _, _, _, rfl, h105, T.cl_Settings, T.n_Settings_rows, (by show 2 < 1000; decide), ?_⟩
    generalize g107 : upd H102 p_self _ = H108
    obtain ⟨x109, h110⟩ := gen_mut g107
    have h111 : H108 p_self = some (.ins AD.c_Settings dx_self [("fmt", V.ref p_fmt), ("slots", V.int (slots')), ("rows", V.int (rows'))]) := h110
    have S112 := S106.mut1 x109 (.head _) h111
    refine ⟨_, rfl, _, rfl, _, _, _, _, rfl, h111, T.cl_Settings, T.n_Settings_deblock, (by show 3 < 1000; decide), ?_⟩
    generalize g113 : upd H108 p_self _ = H114
    obtain ⟨x115, h116⟩ := gen_mut g113
    have h117 : H114 p_self = some (.ins AD.c_Settings dx_self [("fmt", V.ref p_fmt), ("slots", V.int (slots')), ("rows", V.int (rows')), ("deblock", V.bl (deblock'))]) := h116
    have S118 := S112.mut1 x115 (.head _) h117
    refine ⟨_, rfl, _, rfl, _, _, _, _, rfl, h117, T.cl_Settings, T.n_Settings_offset, (by show 4 < 1000; decide), ?_⟩
    generalize g119 : upd H114 p_self _ = H120
    obtain ⟨x121, h122⟩ := gen_mut g119
    have h123 : H120 p_self = some (.ins AD.c_Settings dx_self [("fmt", V.ref p_fmt), ("slots", V.int (slots')), ("rows", V.int (rows')), ("deblock", V.bl (deblock')), ("offset", V.bl (offset'))]) := h122
    have S124 := S118.mut1 x121 (.head _) h123
    refine ⟨_, rfl, _, rfl, _, _, _, _, rfl, h123, T.cl_Settings, T.n_Settings_layers, (by show 5 < 1000; decide), ?_⟩
    generalize g125 : upd H120 p_self _ = H126
    obtain ⟨x127, h128⟩ := gen_mut g125
    have h129 : H126 p_self = some (.ins AD.c_Settings dx_self [("fmt", V.ref p_fmt), ("slots", V.int (slots')), ("rows", V.int (rows')), ("deblock", V.bl (deblock')), ("offset", V.bl (offset')), ("layers", V.int (layers'))]) := h128
    have S130 := S124.mut1 x127 (.head _) h129
    have hw := cW_ok hw
    exact hK0 _ hw _ (sameX_of S130.base) h129

abbrev N__check_contexts : List Str := ["base", "count"]
theorem sc__check_contexts : FnScope N__check_contexts ["base", "count"] (defScope s__check_contexts) := ⟨rfl, rfl, rfl, by decide +kernel, rfl, by decide +kernel, by decide +kernel⟩
theorem ok__check_contexts (D : DefX K mg "_check_contexts" s__check_contexts ["base", "count"] pats__check_contexts) (T : Txt w K mg AD)  : CalX P w K mg base 1 "_check_contexts" (sp__check_contexts K AD) pats__check_contexts := by
  refine D.ok sc__check_contexts (fun vs H Q E h => ?_) (fun f cdv A_ outer s H vs Q E hr h => ?_)
  · obtain ⟨G, base', count', rfl, _⟩ := h
    rfl
  · obtain ⟨G, base', count', rfl, sG, hw⟩ := h
    refine ⟨_, (pss_one (ps_if (PW.pt (pw_and (pt_cmp (pc_gt (pv 1) pe_int)) (pw_and1 (pt_not (pt_chain op_le op_le pe_int (pv 0) (pe_op op_sub (C8.pe_gc rfl T.g_CONTEXTS_symbols) (pv 1))))))) (pss_one (ps_raise rfl (takes_of rfl rfl rfl rfl) (pmk_own PySem.F.excBase_ValueError T.xx_OutOfRange T.xg_OutOfRange T.xk_OutOfRange (raises_own T.xb_OutOfRange T.xt_OutOfRange) rfl))) pss_nil)), ?_⟩
    obtain ⟨KK, EE, hK0, hE, hw⟩ := cW_gen hw
    have S0 := Sep.startG sG
    unfold F__check_contexts at hw
    refine ⟨_, rfl, _, _, rfl, rfl, _, rfl, ?_⟩
    refine iteD (fun c131 => ?_) (fun c131 => ?_)
    · have hw := cW_pos c131 hw
      refine ⟨_, rfl, _, _, rfl, rfl, _, rfl, ?_⟩
      refine iteD (fun c132 => ?_) (fun c132 => ?_)
      · have hw := cW_pos c132 hw
        refine ⟨_, rfl, _, _, rfl, rfl, _, _, rfl, rfl, _, rfl, ?_⟩
        refine iteN (fun c133 => ?_) (fun c133 => ?_)
        · have hw := cW_neg c133 hw
          exact hE 2 (cW_er hw)
        · have hw := cW_pos c133 hw
          have hw := cW_ok hw
          exact hK0 _ hw
      · have hw := cW_neg c132 hw
        refine ⟨_, rfl, ?_⟩
        refine iteT ?_
        exact hE 2 (cW_er hw)
    · have hw := cW_neg c131 hw
      refine iteF ?_
      have hw := cW_ok hw
      exact hK0 _ hw

abbrev N__check_unary : List Str := ["base", "most"]
theorem sc__check_unary : FnScope N__check_unary ["base", "most"] (defScope s__check_unary) := ⟨rfl, rfl, rfl, by decide +kernel, rfl, by decide +kernel, by decide +kernel⟩
theorem ok__check_unary (D : DefX K mg "_check_unary" s__check_unary ["base", "most"] pats__check_unary) (T : Txt w K mg AD) (c__check_contexts : CalX P w K mg base 1 "_check_contexts" (sp__check_contexts K AD) pats__check_contexts) : CalX P w K mg base 2 "_check_unary" (sp__check_unary K AD) pats__check_unary := by
  refine D.ok sc__check_unary (fun vs H Q E h => ?_) (fun f cdv A_ outer s H vs Q E hr h => ?_)
  · obtain ⟨G, base', most', rfl, _⟩ := h
    rfl
  · obtain ⟨G, base', most', rfl, sG, hw⟩ := h
    refine ⟨_, (pss_cons (ps_if (pt_not (pt_chain op_le op_le pe_int (pv 1) (C8.pe_gc rfl T.g_GREATEST_UNARY))) (pss_one (ps_raise rfl (takes_of rfl rfl rfl rfl) (pmk_own PySem.F.excBase_ValueError T.xx_OutOfRange T.xg_OutOfRange T.xk_OutOfRange (raises_own T.xb_OutOfRange T.xt_OutOfRange) rfl))) pss_nil)
      (pss_one (ps_expr (vx_callX c__check_contexts pat__check_contexts_0 (.head _) hr (by decide) (takes_of rfl rfl rfl rfl) rfl (pa_cons (pv 0) (pa_cons (pe_callB (call_min2 rfl) (by rfl) T.b_min (by decide +kernel) (pa_cons (pv 1) (pa_cons (C8.pe_gc rfl T.g_SHARED) pa_nil))) pa_nil)) pk_nil)))), ?_⟩
    obtain ⟨KK, EE, hK0, hE, hw⟩ := cW_gen hw
    have S0 := Sep.startG sG
    unfold F__check_unary at hw
    refine ⟨_, rfl, _, _, rfl, rfl, _, rfl, ?_⟩
    refine iteD (fun c134 => ?_) (fun c134 => ?_)
    · have hw := cW_pos c134 hw
      refine ⟨_, _, rfl, rfl, _, rfl, ?_⟩
      refine iteN (fun c135 => ?_) (fun c135 => ?_)
      · have hw := cW_neg c135 hw
        exact hE 2 (cW_er hw)
      · have hw := cW_pos c135 hw
        refine ⟨_, rfl, _, rfl, _, _, rfl, rfl, rfl, G, _, _, rfl, S0.sG, cW_call hw (fun v136 hw => ?_) (fun e he => hE e he)⟩
        have hw := cW_ok hw
        exact hK0 _ hw
    · have hw := cW_neg c134 hw
      refine ⟨_, rfl, ?_⟩
      refine iteT ?_
      exact hE 2 (cW_er hw)

abbrev N__check_context : List Str := ["context"]
theorem sc__check_context : FnScope N__check_context ["context"] (defScope s__check_context) := ⟨rfl, rfl, rfl, by decide +kernel, rfl, by decide +kernel, by decide +kernel⟩
theorem ok__check_context (D : DefX K mg "_check_context" s__check_context ["context"] pats__check_context) (T : Txt w K mg AD)  : CalX P w K mg base 1 "_check_context" (sp__check_context K AD) pats__check_context := by
  refine D.ok sc__check_context (fun vs H Q E h => ?_) (fun f cdv A_ outer s H vs Q E hr h => ?_)
  · obtain ⟨G, context', rfl, _⟩ := h
    rfl
  · obtain ⟨G, context', rfl, sG, hw⟩ := h
    refine ⟨_, (pss_one (ps_if (pt_not (pt_chain op_le op_lt pe_int (pv 0) (C8.pe_gc rfl T.g_CONTEXTS_coder))) (pss_one (ps_raise rfl (takes_of rfl rfl rfl rfl) (pmk_own PySem.F.excBase_ValueError T.xx_OutOfRange T.xg_OutOfRange T.xk_OutOfRange (raises_own T.xb_OutOfRange T.xt_OutOfRange) rfl))) pss_nil)), ?_⟩
    obtain ⟨KK, EE, hK0, hE, hw⟩ := cW_gen hw
    have S0 := Sep.startG sG
    unfold F__check_context at hw
    refine ⟨_, rfl, _, _, rfl, rfl, _, rfl, ?_⟩
    refine iteD (fun c137 => ?_) (fun c137 => ?_)
    · have hw := cW_pos c137 hw
      refine ⟨_, _, rfl, rfl, _, rfl, ?_⟩
      refine iteN (fun c138 => ?_) (fun c138 => ?_)
      · have hw := cW_neg c138 hw
        exact hE 2 (cW_er hw)
      · have hw := cW_pos c138 hw
        have hw := cW_ok hw
        exact hK0 _ hw
    · have hw := cW_neg c137 hw
      refine ⟨_, rfl, ?_⟩
      refine iteT ?_
      exact hE 2 (cW_er hw)

abbrev N__adapted : List Str := ["chance", "decision"]
theorem sc__adapted : FnScope N__adapted ["chance", "decision"] (defScope s__adapted) := ⟨rfl, rfl, rfl, by decide +kernel, rfl, by decide +kernel, by decide +kernel⟩
theorem ok__adapted (D : DefX K mg "_adapted" s__adapted ["chance", "decision"] pats__adapted) (T : Txt w K mg AD)  : CalX P w K mg base 1 "_adapted" (sp__adapted K AD) pats__adapted := by
  refine D.ok sc__adapted (fun vs H Q E h => ?_) (fun f cdv A_ outer s H vs Q E hr h => ?_)
  · obtain ⟨G, chance', decision', rfl, _⟩ := h
    rfl
  · obtain ⟨G, chance', decision', rfl, sG, hw⟩ := h
    refine ⟨_, (pss_cons (ps_if (pt_cmp (pc_eqI (pv 1) pe_int)) (pss_one (ps_ret (pe_op op_add (pv 0) (pe_op op_shr (pe_op op_sub (C8.pe_gc rfl T.g_SCALE) (pv 0)) (C8.pe_gc rfl T.g_RATE))))) pss_nil)
      (pss_one (ps_ret (pe_op op_sub (pv 0) (pe_op op_shr (pv 0) (C8.pe_gc rfl T.g_RATE)))))), ?_⟩
    obtain ⟨KK, EE, hK0, hE, hw⟩ := cW_gen hw
    have S0 := Sep.startG sG
    unfold F__adapted at hw
    refine ⟨_, rfl, _, _, rfl, rfl, _, rfl, ?_⟩
    refine iteD (fun c139 => ?_) (fun c139 => ?_)
    · have hw := cW_pos c139 hw
      refine ⟨_, rfl, _, rfl, _, _, rfl, rfl, _, _, rfl, rfl, (show (0 : Int) ≤ 5 by decide), _, _, rfl, rfl, ?_⟩
      have hw := cW_ok hw
      exact hK0 _ hw
    · have hw := cW_neg c139 hw
      refine ⟨_, rfl, _, rfl, _, _, rfl, rfl, (show (0 : Int) ≤ 5 by decide), _, _, rfl, rfl, ?_⟩
      have hw := cW_ok hw
      exact hK0 _ hw

abbrev N_Decoder__shift : List Str := ["self", "octet"]
theorem sc_Decoder__shift : FnScope N_Decoder__shift ["self"] (defScope s_Decoder__shift) := ⟨rfl, rfl, rfl, by decide +kernel, rfl, by decide +kernel, by decide +kernel⟩
theorem ok_Decoder__shift (D : MethX K AD.c_Decoder "Decoder._shift" "_shift" s_Decoder__shift ["self"] pats_Decoder__shift) (T : Txt w K mg AD)  : MetX P w K mg base 1 AD.c_Decoder "_shift" (sp_Decoder__shift K AD) pats_Decoder__shift := by
  refine D.ok T.cl_Decoder sc_Decoder__shift (fun vs H Q E h => ?_) (fun f cdv A_ outer s H vs Q E hr h => ?_)
  · obtain ⟨G, p_self, l_self_probs, l_self_octs, dx_self, self', rfl, _⟩ := h
    rfl
  · obtain ⟨G, p_self, l_self_probs, l_self_octs, dx_self, self', rfl, sG, gM, h_p_self, h_l_self_probs, h_l_self_octs, ne_self_0, hw⟩ := h
    refine ⟨_, (pss_cons (ps_set (i := 1) sc_Decoder__shift.nd rfl (Or.inl rfl) pe_int)
      (C8.pss_cut (ps_if (pt_cmp (pc_lt (fldK (K := K) (pv 0)) (pe_callB (call_lenLiK (K := K)) (by rfl) T.b_len (by decide +kernel) (pa_cons (fldK (K := K) (pv 0)) pa_nil)))) (pss_cons (ps_set (i := 1) sc_Decoder__shift.nd rfl (Or.inl rfl) (pe_ix (ix_listK (K := K)) (fldK (K := K) (pv 0)) (fldK (K := K) (pv 0)) (fun _ _ => rfl)))
      (pss_one (ps_fldaug (pv 0) pe_int (pip iop_add)))) pss_nil)
      (pss_one (ps_fld (pv 0) (pe_op op_or (pe_op op_shlW (fldK (K := K) (pv 0)) pe_int) (pv 1)) rfl)))), ?_⟩
    obtain ⟨KK, EE, hK0, hE, hw⟩ := cW_gen hw
    have S0 := Sep.startM (M := [p_self, l_self_probs, l_self_octs]) sG (all_cons (some_ne h_p_self) (all_cons (some_ne h_l_self_probs) (all_cons (some_ne h_l_self_octs) all_nil))) gM
    unfold F_Decoder__shift at hw
    refine ⟨fun σ H' => ∃ (self_142 : St_Decoder) (octet_143 : Int) (G' : Hp), σ = [some (V.ref p_self), some (V.int octet_143)] ∧ Same G G' ∧ Sep [p_self, l_self_probs, l_self_octs] H G G' H' [p_self, l_self_probs, l_self_octs] ∧ H' p_self = some (.ins AD.c_Decoder dx_self [("_probabilities", V.ref l_self_probs), ("_octets", V.ref l_self_octs), ("_place", V.int (self_142.place)), ("_span", V.int (self_142.span)), ("_value", V.int (self_142.value))]) ∧ H' l_self_probs = some (.lst ((self_142.probs : (List Int)).map V.int)) ∧ H' l_self_octs = some (.lst ((self_142.octs : (List Int)).map V.int)) ∧ cW (F_Decoder__shift_k1  self_142 octet_143) KK EE, ?_, ?_⟩
    · obtain ⟨K144, hK145, hw⟩ := cW_push hw
      refine ⟨_, rfl, _, _, _, _, _, rfl, h_p_self, T.cl_Decoder, T.n_Decoder__place, rfl, _, rfl, _, _, _, _, _, rfl, h_p_self, T.cl_Decoder, T.n_Decoder__octets, rfl, _, _, rfl, (SqL.of h_l_self_octs), _, _, rfl, rfl, _, rfl, ?_⟩
      refine iteD (fun c146 => ?_) (fun c146 => ?_)
      · have hw := cW_pos c146 hw
        obtain ⟨g147, hw⟩ := cW_grd hw
        refine ⟨_, rfl, _, _, _, _, _, rfl, h_p_self, T.cl_Decoder, T.n_Decoder__octets, rfl, _, rfl, _, _, _, _, _, rfl, h_p_self, T.cl_Decoder, T.n_Decoder__place, rfl, _, _, _, _, rfl, rfl, (SqL.of h_l_self_octs), (atI_map g147), ?_⟩
        have hw := cW_bnd hw
        have hw := cW_bnd hw
        refine ⟨_, rfl, _, _, _, _, _, rfl, h_p_self, T.cl_Decoder, T.n_Decoder__place, rfl, _, _, rfl, rfl, _, _, h_p_self, (by show 5 < 1000; decide), ?_⟩
        generalize g150 : upd H p_self _ = H151
        obtain ⟨x152, h153⟩ := gen_mut g150
        have h154 : H151 p_self = some (.ins AD.c_Decoder dx_self [("_probabilities", V.ref l_self_probs), ("_octets", V.ref l_self_octs), ("_place", V.int ((self'.place + 1))), ("_span", V.int (self'.span)), ("_value", V.int (self'.value))]) := h153
        have S155 := S0.mut1 x152 (.head _) h154
        have hw := cW_ok hw
        have hw := hK145 _ hw
        have h156 := (x152 _ _ h_l_self_probs (ne_of h_l_self_probs h_p_self (fun z => nomatch z)))
        have h157 := (x152 _ _ h_l_self_octs (ne_of h_l_self_octs h_p_self (fun z => nomatch z)))
        exact ⟨((⟨self'.probs, self'.octs, (self'.place + 1), self'.span, self'.value⟩ : St_Decoder)), ((itD (self'.octs) (self'.place))), _, rfl, (Same.refl _), S155, h154, h156, h157, hw⟩
      · have hw := cW_neg c146 hw
        have hw := cW_ok hw
        have hw := hK145 _ hw
        exact ⟨(self'), (0), _, rfl, (Same.refl _), S0, h_p_self, h_l_self_probs, h_l_self_octs, hw⟩
    · intro σ H158 hw
      obtain ⟨self_142, octet_143, G163, rfl, eG164, S159, h160, h161, h162, hw⟩ := hw
      unfold F_Decoder__shift_k1 at hw
      obtain ⟨g165, hw⟩ := cW_grd hw
      have hw := cW_bnd hw
      refine ⟨_, rfl, _, _, _, _, _, rfl, h160, T.cl_Decoder, T.n_Decoder__value, rfl, _, _, rfl, rfl, (shl_side g165.1 g165.2.1 g165.2.2.1 g165.2.2.2), _, rfl, _, _, rfl, rfl, _, rfl, _, _, _, _, rfl, h160, T.cl_Decoder, T.n_Decoder__value, (by show 5 < 1000; decide), ?_⟩
      generalize g167 : upd H158 p_self _ = H168
      obtain ⟨x169, h170⟩ := gen_mut g167
      have h171 : H168 p_self = some (.ins AD.c_Decoder dx_self [("_probabilities", V.ref l_self_probs), ("_octets", V.ref l_self_octs), ("_place", V.int (self_142.place)), ("_span", V.int (self_142.span)), ("_value", V.int ((PySem.Builtin.bitOr ((self_142.value * 2 ^ Int.toNat (8))) (octet_143))))]) := h170
      have S172 := S159.mut1 x169 (.head _) h171
      have h173 := (x169 _ _ h161 (ne_of h161 h160 (fun z => nomatch z)))
      have h174 := (x169 _ _ h162 (ne_of h162 h160 (fun z => nomatch z)))
      have hw := cW_ok hw
      exact hK0 _ hw _ S172.base h171 h173 h174

abbrev N_Decoder__decide : List Str := ["self", "chance", "part", "decision"]
theorem sc_Decoder__decide : FnScope N_Decoder__decide ["self", "chance"] (defScope s_Decoder__decide) := ⟨rfl, rfl, rfl, by decide +kernel, rfl, by decide +kernel, by decide +kernel⟩
theorem ok_Decoder__decide (D : MethX K AD.c_Decoder "Decoder._decide" "_decide" s_Decoder__decide ["self", "chance"] pats_Decoder__decide) (T : Txt w K mg AD) (c_Decoder__shift : MetX P w K mg base 1 AD.c_Decoder "_shift" (sp_Decoder__shift K AD) pats_Decoder__shift) : MetX P w K mg base 2 AD.c_Decoder "_decide" (sp_Decoder__decide K AD) pats_Decoder__decide := by
  refine D.ok T.cl_Decoder sc_Decoder__decide (fun vs H Q E h => ?_) (fun f cdv A_ outer s H vs Q E hr h => ?_)
  · obtain ⟨G, p_self, l_self_probs, l_self_octs, dx_self, self', chance', rfl, _⟩ := h
    rfl
  · obtain ⟨G, p_self, l_self_probs, l_self_octs, dx_self, self', chance', rfl, sG, gM, h_p_self, h_l_self_probs, h_l_self_octs, ne_self_0, hw⟩ := h
    refine ⟨_, (pss_cons (ps_set (i := 2) sc_Decoder__decide.nd rfl (Or.inl rfl) (pe_op op_mul (pe_op op_shr (fldK (K := K) (pv 0)) (C8.pe_gc rfl T.g_SCALE_BITS)) (pv 1)))
      (pss_cons (ps_set (i := 3) sc_Decoder__decide.nd rfl (Or.inl rfl) (pe_ifExp (pt_cmp (pc_lt (fldK (K := K) (pv 0)) (pv 2))) pe_int pe_int))
      (C8.pss_cut (ps_if (pt_cmp (pc_eqI (pv 3) pe_int)) (pss_one (ps_fld (pv 0) (pv 2) rfl)) (pss_cons (ps_fldaug (pv 0) (pv 2) (pip iop_sub))
      (pss_one (ps_fldaug (pv 0) (pv 2) (pip iop_sub)))))
      (pss_cons (ps_while (passes_of rfl) (pt_cmp (pc_lt (fldK (K := K) (pv 0)) (C8.pe_gc rfl T.g_LEAST_SPAN))) (pss_cons (ps_expr (vx_methX0 c_Decoder__shift pat_Decoder__shift_0 (.head _) hr (by decide) (takes_of rfl rfl rfl rfl) (pv 0)))
      (pss_one (ps_fldaug (pv 0) pe_int (pip iop_shlW)))))
      (pss_one (ps_ret (pv 3))))))), ?_⟩
    obtain ⟨KK, EE, hK0, hE, hw⟩ := cW_gen hw
    have S0 := Sep.startM (M := [p_self, l_self_probs, l_self_octs]) sG (all_cons (some_ne h_p_self) (all_cons (some_ne h_l_self_probs) (all_cons (some_ne h_l_self_octs) all_nil))) gM
    unfold F_Decoder__decide at hw
    obtain ⟨g175, hw⟩ := cW_grd hw
    refine ⟨_, rfl, _, _, _, _, _, rfl, h_p_self, T.cl_Decoder, T.n_Decoder__span, rfl, _, _, rfl, rfl, (show (0 : Int) ≤ 12 by decide), _, rfl, _, _, rfl, rfl, g175, ?_⟩
    have hw := cW_bnd hw
    refine vv_if (vt_cmp (vv_cmp (val_fld (val_var rfl) h_p_self T.cl_Decoder T.n_Decoder__value rfl) (val_var rfl) (fun Q q => ⟨_, _, rfl, rfl, q⟩))) val_c val_c _ ?_
    have hw := cW_bnd hw
    refine ⟨fun σ H' => ∃ (self_183 : St_Decoder) (G' : Hp), σ = [some (V.ref p_self), some (V.int (chance')), some (V.int (((self'.span / 4096) * chance'))), some (V.int ((if self'.value < ((self'.span / 4096) * chance') then 0 else 1)))] ∧ Same G G' ∧ Sep [p_self, l_self_probs, l_self_octs] H G G' H' [p_self, l_self_probs, l_self_octs] ∧ H' p_self = some (.ins AD.c_Decoder dx_self [("_probabilities", V.ref l_self_probs), ("_octets", V.ref l_self_octs), ("_place", V.int (self_183.place)), ("_span", V.int (self_183.span)), ("_value", V.int (self_183.value))]) ∧ H' l_self_probs = some (.lst ((self_183.probs : (List Int)).map V.int)) ∧ H' l_self_octs = some (.lst ((self_183.octs : (List Int)).map V.int)) ∧ cW (F_Decoder__decide_k1 ((if self'.value < ((self'.span / 4096) * chance') then 0 else 1)) self_183) KK EE, ?_, ?_⟩
    · obtain ⟨K184, hK185, hw⟩ := cW_push hw
      refine ⟨_, rfl, _, _, rfl, rfl, _, rfl, ?_⟩
      refine iteD (fun c186 => ?_) (fun c186 => ?_)
      · have hw := cW_pos c186 hw
        refine ⟨_, rfl, _, rfl, _, _, _, _, rfl, h_p_self, T.cl_Decoder, T.n_Decoder__span, (by show 5 < 1000; decide), ?_⟩
        generalize g187 : upd H p_self _ = H188
        obtain ⟨x189, h190⟩ := gen_mut g187
        have h191 : H188 p_self = some (.ins AD.c_Decoder dx_self [("_probabilities", V.ref l_self_probs), ("_octets", V.ref l_self_octs), ("_place", V.int (self'.place)), ("_span", V.int (((self'.span / 4096) * chance'))), ("_value", V.int (self'.value))]) := h190
        have S192 := S0.mut1 x189 (.head _) h191
        have hw := cW_ok hw
        have hw := hK185 _ hw
        have h193 := (x189 _ _ h_l_self_probs (ne_of h_l_self_probs h_p_self (fun z => nomatch z)))
        have h194 := (x189 _ _ h_l_self_octs (ne_of h_l_self_octs h_p_self (fun z => nomatch z)))
        exact ⟨((⟨self'.probs, self'.octs, self'.place, ((self'.span / 4096) * chance'), self'.value⟩ : St_Decoder)), _, rfl, (Same.refl _), S192, h191, h193, h194, hw⟩
      · have hw := cW_neg c186 hw
        have hw := cW_bnd hw
        refine ⟨_, rfl, _, _, _, _, _, rfl, h_p_self, T.cl_Decoder, T.n_Decoder__value, rfl, _, rfl, _, _, rfl, rfl, _, _, h_p_self, (by show 5 < 1000; decide), ?_⟩
        generalize g196 : upd H p_self _ = H197
        obtain ⟨x198, h199⟩ := gen_mut g196
        have h200 : H197 p_self = some (.ins AD.c_Decoder dx_self [("_probabilities", V.ref l_self_probs), ("_octets", V.ref l_self_octs), ("_place", V.int (self'.place)), ("_span", V.int (self'.span)), ("_value", V.int ((self'.value - ((self'.span / 4096) * chance'))))]) := h199
        have S201 := S0.mut1 x198 (.head _) h200
        have hw := cW_bnd hw
        refine ⟨_, rfl, _, _, _, _, _, rfl, h200, T.cl_Decoder, T.n_Decoder__span, rfl, _, rfl, _, _, rfl, rfl, _, _, h200, (by show 5 < 1000; decide), ?_⟩
        generalize g203 : upd H197 p_self _ = H204
        obtain ⟨x205, h206⟩ := gen_mut g203
        have h207 : H204 p_self = some (.ins AD.c_Decoder dx_self [("_probabilities", V.ref l_self_probs), ("_octets", V.ref l_self_octs), ("_place", V.int (self'.place)), ("_span", V.int ((self'.span - ((self'.span / 4096) * chance')))), ("_value", V.int ((self'.value - ((self'.span / 4096) * chance'))))]) := h206
        have S208 := S201.mut1 x205 (.head _) h207
        have hw := cW_ok hw
        have hw := hK185 _ hw
        have h209 := (x205 _ _ (x198 _ _ h_l_self_probs (ne_of h_l_self_probs h_p_self (fun z => nomatch z))) (ne_of h_l_self_probs h_p_self (fun z => nomatch z)))
        have h210 := (x205 _ _ (x198 _ _ h_l_self_octs (ne_of h_l_self_octs h_p_self (fun z => nomatch z))) (ne_of h_l_self_octs h_p_self (fun z => nomatch z)))
        exact ⟨((⟨self'.probs, self'.octs, self'.place, (self'.span - ((self'.span / 4096) * chance')), (self'.value - ((self'.span / 4096) * chance'))⟩ : St_Decoder)), _, rfl, (Same.refl _), S208, h207, h209, h210, hw⟩
    · intro σ H211 hw
      obtain ⟨self_183, G216, rfl, eG217, S212, h213, h214, h215, hw⟩ := hw
      unfold F_Decoder__decide_k1 at hw
      obtain ⟨K219, hK220, hw⟩ := cW_push hw
      refine ⟨fun m σ H' => ∃ (self_221 : St_Decoder) (G' : Hp), σ = [some (V.ref p_self), some (V.int (chance')), some (V.int (((self'.span / 4096) * chance'))), some (V.int ((if self'.value < ((self'.span / 4096) * chance') then 0 else 1)))] ∧ Same G216 G' ∧ Sep [p_self, l_self_probs, l_self_octs] H G G' H' [p_self, l_self_probs, l_self_octs] ∧ H' p_self = some (.ins AD.c_Decoder dx_self [("_probabilities", V.ref l_self_probs), ("_octets", V.ref l_self_octs), ("_place", V.int (self_221.place)), ("_span", V.int (self_221.span)), ("_value", V.int (self_221.value))]) ∧ H' l_self_probs = some (.lst ((self_221.probs : (List Int)).map V.int)) ∧ H' l_self_octs = some (.lst ((self_221.octs : (List Int)).map V.int)) ∧ cW (whileR m self_221 (fun s => F_Decoder__decide_b2  s)) K219 EE, ?_, ?_⟩
      · exact ⟨_, ⟨(self_183), _, rfl, (Same.refl _), S212, h213, h214, h215, hw⟩⟩
      · intro m σ H222 hw
        obtain ⟨self_221, G227, rfl, eG228, S223, h224, h225, h226, hw⟩ := hw
        obtain ⟨m229, rfl, hw2⟩ := cW_whileR hw
        have hw := hw2
        have hw : cW (F_Decoder__decide_b2  (self_221)) _ EE := hw
        unfold F_Decoder__decide_b2 at hw
        obtain ⟨K231, hK232, hw⟩ := cW_name hw
        refine ⟨_, rfl, _, _, _, _, _, rfl, h224, T.cl_Decoder, T.n_Decoder__span, rfl, _, _, rfl, rfl, _, rfl, ?_⟩
        refine iteD (fun c233 => ?_) (fun c233 => ?_)
        · have hw := cW_pos c233 hw
          refine ⟨(fun σ H' => ∃ m, (∃ (self_221 : St_Decoder) (G' : Hp), σ = [some (V.ref p_self), some (V.int (chance')), some (V.int (((self'.span / 4096) * chance'))), some (V.int ((if self'.value < ((self'.span / 4096) * chance') then 0 else 1)))] ∧ Same G216 G' ∧ Sep [p_self, l_self_probs, l_self_octs] H G G' H' [p_self, l_self_probs, l_self_octs] ∧ H' p_self = some (.ins AD.c_Decoder dx_self [("_probabilities", V.ref l_self_probs), ("_octets", V.ref l_self_octs), ("_place", V.int (self_221.place)), ("_span", V.int (self_221.span)), ("_value", V.int (self_221.value))]) ∧ H' l_self_probs = some (.lst ((self_221.probs : (List Int)).map V.int)) ∧ H' l_self_octs = some (.lst ((self_221.octs : (List Int)).map V.int)) ∧ cW (whileR m self_221 (fun s => F_Decoder__decide_b2  s)) K219 EE) ∧ m < m229 + 1), (fun _ _ ⟨m', a, b⟩ => ⟨m', b, a⟩), ?_⟩
          refine ⟨_, rfl, _, _, _, rfl, h224, rfl, rfl, rfl, G227, _, _, _, _, self_221, rfl, S223.sG, (S223.gno (all_cons (.head _) (all_cons (.tail _ (.head _)) (all_cons (.tail _ (.tail _ (.head _))) all_nil)))), h224, h225, h226, ne_self_0, cW_callN hw (fun v234 hw H235 x236 h238 h239 h240  => ?_) trivial⟩
          have S237 := S223.mut x236 (all_cons (.head _) (all_cons (.tail _ (.head _)) (all_cons (.tail _ (.tail _ (.head _))) all_nil))) (all_cons (some_ne h238) (all_cons (some_ne h239) (all_cons (some_ne h240) all_nil)))
          obtain ⟨g245, hw⟩ := cW_grd hw
          have hw := cW_bnd hw
          refine ⟨_, rfl, _, _, _, _, _, rfl, h238, T.cl_Decoder, T.n_Decoder__span, rfl, _, _, rfl, rfl, (shl_side g245.1 g245.2.1 g245.2.2.1 g245.2.2.2), _, _, h238, (by show 5 < 1000; decide), ?_⟩
          generalize g247 : upd H235 p_self _ = H248
          obtain ⟨x249, h250⟩ := gen_mut g247
          have h251 : H248 p_self = some (.ins AD.c_Decoder dx_self [("_probabilities", V.ref l_self_probs), ("_octets", V.ref l_self_octs), ("_place", V.int (v234.place)), ("_span", V.int ((v234.span * 2 ^ Int.toNat (8)))), ("_value", V.int (v234.value))]) := h250
          have S252 := S237.mut1 x249 (.head _) h251
          have hw := cW_ok hw
          have hw := hK232 _ hw
          have h253 := (x249 _ _ h239 (ne_of h239 h238 (fun z => nomatch z)))
          have h254 := (x249 _ _ h240 (ne_of h240 h238 (fun z => nomatch z)))
          exact ⟨m229, ⟨((⟨v234.probs, v234.octs, v234.place, (v234.span * 2 ^ Int.toNat (8)), v234.value⟩ : St_Decoder)), _, rfl, eG228, S252, h251, h253, h254, hw⟩, Nat.lt_succ_self _⟩
        · have hw := cW_neg c233 hw
          have hw := cW_ok hw
          have hw := hK232 _ hw
          have hw := cW_aftgo (hK220 (.go _) hw)
          have hw : cW (F_Decoder__decide_r2 ((if self'.value < ((self'.span / 4096) * chance') then 0 else 1)) (self_221)) _ EE := hw
          unfold F_Decoder__decide_r2 at hw
          refine ⟨_, rfl, ?_⟩
          have hw := cW_ok hw
          exact hK0 _ hw _ S223.base h224 h225 h226

abbrev N_Decoder_read : List Str := ["self", "context", "chance", "decision"]
theorem sc_Decoder_read : FnScope N_Decoder_read ["self", "context"] (defScope s_Decoder_read) := ⟨rfl, rfl, rfl, by decide +kernel, rfl, by decide +kernel, by decide +kernel⟩
theorem ok_Decoder_read (D : MethX K AD.c_Decoder "Decoder.read" "read" s_Decoder_read ["self", "context"] pats_Decoder_read) (T : Txt w K mg AD) (c__check_context : CalX P w K mg base 1 "_check_context" (sp__check_context K AD) pats__check_context) (c_Decoder__decide : MetX P w K mg base 2 AD.c_Decoder "_decide" (sp_Decoder__decide K AD) pats_Decoder__decide) (c__adapted : CalX P w K mg base 1 "_adapted" (sp__adapted K AD) pats__adapted) : MetX P w K mg base 3 AD.c_Decoder "read" (sp_Decoder_read K AD) pats_Decoder_read := by
  refine D.ok T.cl_Decoder sc_Decoder_read (fun vs H Q E h => ?_) (fun f cdv A_ outer s H vs Q E hr h => ?_)
  · obtain ⟨G, p_self, l_self_probs, l_self_octs, dx_self, self', context', rfl, _⟩ := h
    rfl
  · obtain ⟨G, p_self, l_self_probs, l_self_octs, dx_self, self', context', rfl, sG, gM, h_p_self, h_l_self_probs, h_l_self_octs, ne_self_0, hw⟩ := h
    refine ⟨_, (pss_cons (ps_expr (vx_callX c__check_context pat__check_context_0 (.head _) hr (by decide) (takes_of rfl rfl rfl rfl) rfl (pa_cons (pv 1) pa_nil) pk_nil))
      (pss_cons (ps_set (i := 2) sc_Decoder_read.nd rfl (Or.inl rfl) (pe_ix (ix_listK (K := K)) (fldK (K := K) (pv 0)) (pv 1) (fun _ _ => rfl)))
      (pss_cons (ps_set (i := 3) sc_Decoder_read.nd rfl (Or.inl rfl) (vx_methX c_Decoder__decide pat_Decoder__decide_0 (.head _) hr (by decide) (takes_of rfl rfl rfl rfl) (pv 0) (pa_cons (pv 2) pa_nil) pk_nil))
      (pss_cons (ps_asg (vx_callX c__adapted pat__adapted_0 (.head _) hr (by decide) (takes_of rfl rfl rfl rfl) rfl (pa_cons (pv 2) (pa_cons (pv 3) pa_nil)) pk_nil) (pg_sub (fldK (K := K) (pv 0)) (pv 1) set_list))
      (pss_one (ps_ret (pv 3))))))), ?_⟩
    obtain ⟨KK, EE, hK0, hE, hw⟩ := cW_gen hw
    have S0 := Sep.startM (M := [p_self, l_self_probs, l_self_octs]) sG (all_cons (some_ne h_p_self) (all_cons (some_ne h_l_self_probs) (all_cons (some_ne h_l_self_octs) all_nil))) gM
    unfold F_Decoder_read at hw
    refine ⟨_, rfl, rfl, rfl, G, _, rfl, S0.sG, cW_call hw (fun v256 hw => ?_) (fun e he => hE e he _ (Same.refl _))⟩
    obtain ⟨g257, hw⟩ := cW_grd hw
    refine ⟨_, rfl, _, _, _, _, _, rfl, h_p_self, T.cl_Decoder, T.n_Decoder__probabilities, rfl, _, rfl, _, _, _, _, rfl, rfl, (SqL.of h_l_self_probs), (atI_map g257), ?_⟩
    have hw := cW_bnd hw
    refine ⟨_, rfl, _, _, _, rfl, h_p_self, rfl, _, rfl, rfl, rfl, G, _, _, _, _, self', _, rfl, S0.sG, (S0.gno (all_cons (.head _) (all_cons (.tail _ (.head _)) (all_cons (.tail _ (.tail _ (.head _))) all_nil)))), h_p_self, h_l_self_probs, h_l_self_octs, ne_self_0, cW_call hw (fun v259 hw H260 x261 h263 h264 h265  => ?_) (fun e he H2 e2 => hE e he H2 (Same.trans (Same.refl _) e2))⟩
    have S262 := S0.mut x261 (all_cons (.head _) (all_cons (.tail _ (.head _)) (all_cons (.tail _ (.tail _ (.head _))) all_nil))) (all_cons (some_ne h263) (all_cons (some_ne h264) (all_cons (some_ne h265) all_nil)))
    refine ⟨_, rfl, _, rfl, rfl, rfl, G, _, _, rfl, S262.sG, cW_callN hw (fun v270 hw => ?_) trivial⟩
    obtain ⟨g271, hw⟩ := cW_grd hw
    refine ⟨_, rfl, _, _, _, _, _, rfl, h263, T.cl_Decoder, T.n_Decoder__probabilities, rfl, _, rfl, _, _, _, _, rfl, rfl, h264, (ixN_map g271), ?_⟩
    generalize g272 : upd H260 l_self_probs _ = H273
    obtain ⟨x274, h275⟩ := gen_mut g272
    have h276 : H273 l_self_probs = some (.lst ((setL (v259.2.probs) (context') (v270) : (List Int)).map V.int)) := set_map h275
    have S277 := S262.mut1 x274 (.tail _ (.head _)) h276
    have hw := cW_bnd hw
    refine ⟨_, rfl, ?_⟩
    have h279 := (x274 _ _ h263 (ne_of h263 h264 (fun z => nomatch z)))
    have h280 := (x274 _ _ h265 (ne_self_0).symm)
    have hw := cW_ok hw
    exact hK0 _ hw _ S277.base h279 h276 h280

abbrev N_SymbolReader_unary : List Str := ["self", "base", "most", "value"]
theorem sc_SymbolReader_unary : FnScope N_SymbolReader_unary ["self", "base", "most"] (defScope s_SymbolReader_unary) := ⟨rfl, rfl, rfl, by decide +kernel, rfl, by decide +kernel, by decide +kernel⟩
theorem ok_SymbolReader_unary (D : MethX K AD.c_SymbolReader "SymbolReader.unary" "unary" s_SymbolReader_unary ["self", "base", "most"] pats_SymbolReader_unary) (T : Txt w K mg AD) (c__check_unary : CalX P w K mg base 2 "_check_unary" (sp__check_unary K AD) pats__check_unary) (c_Decoder_read : MetX P w K mg base 3 AD.c_Decoder "read" (sp_Decoder_read K AD) pats_Decoder_read) : MetX P w K mg base 4 AD.c_SymbolReader "unary" (sp_SymbolReader_unary K AD) pats_SymbolReader_unary := by
  refine D.ok T.cl_SymbolReader sc_SymbolReader_unary (fun vs H Q E h => ?_) (fun f cdv A_ outer s H vs Q E hr h => ?_)
  · obtain ⟨G, p_self, p_self_dec, l_self_dec_probs, l_self_dec_octs, dx_self, dx_self_dec, self', base', most', rfl, _⟩ := h
    rfl
  · obtain ⟨G, p_self, p_self_dec, l_self_dec_probs, l_self_dec_octs, dx_self, dx_self_dec, self', base', most', rfl, sG, gM, h_p_self, h_p_self_dec, h_l_self_dec_probs, h_l_self_dec_octs, ne_self_0, ne_self_1, hw⟩ := h
    refine ⟨_, (pss_cons (ps_expr (vx_callX c__check_unary pat__check_unary_0 (.head _) hr (by decide) (takes_of rfl rfl rfl rfl) rfl (pa_cons (pv 1) (pa_cons (pv 2) pa_nil)) pk_nil))
      (pss_cons (ps_set (i := 3) sc_SymbolReader_unary.nd rfl (Or.inl rfl) pe_int)
      (pss_cons (ps_while (passes_of rfl) (PW.pt (pw_and (pt_cmp (pc_lt (pv 3) (pv 2))) (pw_and1 (pt_cmp (pc_eqI (vx_methX c_Decoder_read pat_Decoder_read_0 (.head _) hr (by decide) (takes_of rfl rfl rfl rfl) (fldK (K := K) (pv 0)) (pa_cons (pe_op op_add (pv 1) (pe_callB (call_min2 rfl) (by rfl) T.b_min (by decide +kernel) (pa_cons (pv 3) (pa_cons (pe_op op_sub (C8.pe_gc rfl T.g_SHARED) pe_int) pa_nil)))) pa_nil) pk_nil) pe_int))))) (pss_one (ps_aug (i := 3) sc_SymbolReader_unary.nd rfl (Or.inl rfl) pe_int (pip iop_add))))
      (pss_one (ps_ret (pv 3)))))), ?_⟩
    obtain ⟨KK, EE, hK0, hE, hw⟩ := cW_gen hw
    have S0 := Sep.startM (M := [p_self, p_self_dec, l_self_dec_probs, l_self_dec_octs]) sG (all_cons (some_ne h_p_self) (all_cons (some_ne h_p_self_dec) (all_cons (some_ne h_l_self_dec_probs) (all_cons (some_ne h_l_self_dec_octs) all_nil)))) gM
    unfold F_SymbolReader_unary at hw
    refine ⟨_, rfl, _, rfl, rfl, rfl, G, _, _, rfl, S0.sG, cW_call hw (fun v281 hw => ?_) (fun e he => hE e he _ (Same.refl _))⟩
    obtain ⟨K284, hK285, hw⟩ := cW_push hw
    refine ⟨fun m σ H' => ∃ (self_286 : St_SymbolReader) (value_287 : Int) (G' : Hp), σ = [some (V.ref p_self), some (V.int (base')), some (V.int (most')), some (V.int value_287)] ∧ Same G G' ∧ Sep [p_self, p_self_dec, l_self_dec_probs, l_self_dec_octs] H G G' H' [p_self, p_self_dec, l_self_dec_probs, l_self_dec_octs] ∧ H' p_self = some (.ins AD.c_SymbolReader dx_self [("_decoder", V.ref p_self_dec)]) ∧ H' p_self_dec = some (.ins AD.c_Decoder dx_self_dec [("_probabilities", V.ref l_self_dec_probs), ("_octets", V.ref l_self_dec_octs), ("_place", V.int (self_286.dec.place)), ("_span", V.int (self_286.dec.span)), ("_value", V.int (self_286.dec.value))]) ∧ H' l_self_dec_probs = some (.lst ((self_286.dec.probs : (List Int)).map V.int)) ∧ H' l_self_dec_octs = some (.lst ((self_286.dec.octs : (List Int)).map V.int)) ∧ cW (whileR m (self_286, value_287) (fun s => F_SymbolReader_unary_b1 (base') (most') (s.1) (s.2))) K284 EE, ?_, ?_⟩
    · exact ⟨_, ⟨(self'), (0), _, rfl, (Same.refl _), S0, h_p_self, h_p_self_dec, h_l_self_dec_probs, h_l_self_dec_octs, hw⟩⟩
    · intro m σ H288 hw
      obtain ⟨self_286, value_287, G294, rfl, eG295, S289, h290, h291, h292, h293, hw⟩ := hw
      obtain ⟨m296, rfl, hw2⟩ := cW_whileR hw
      have hw := hw2
      have hw : cW (F_SymbolReader_unary_b1 (base') (most') (self_286) (value_287)) _ EE := hw
      unfold F_SymbolReader_unary_b1 at hw
      obtain ⟨K299, hK300, hw⟩ := cW_name hw
      refine ⟨_, rfl, _, rfl, _, _, rfl, rfl, _, rfl, ?_⟩
      refine iteD (fun c301 => ?_) (fun c301 => ?_)
      · have hw := cW_pos c301 hw
        refine ⟨_, rfl, _, _, _, _, _, rfl, h290, T.cl_SymbolReader, T.n_SymbolReader__decoder, rfl, _, _, _, rfl, h291, rfl, _, rfl, _, rfl, _, _, rfl, rfl, _, _, rfl, _, _, rfl, rfl, rfl, rfl, G294, _, _, _, _, self_286.dec, _, rfl, S289.sG, (S289.gno (all_cons (.tail _ (.head _)) (all_cons (.tail _ (.tail _ (.head _))) (all_cons (.tail _ (.tail _ (.tail _ (.head _)))) all_nil)))), h291, h292, h293, ne_self_0, cW_callN hw (fun v302 hw H303 x304 h306 h307 h308  => ?_) trivial⟩
        have S305 := S289.mut x304 (all_cons (.tail _ (.head _)) (all_cons (.tail _ (.tail _ (.head _))) (all_cons (.tail _ (.tail _ (.tail _ (.head _)))) all_nil))) (all_cons (some_ne h306) (all_cons (some_ne h307) (all_cons (some_ne h308) all_nil)))
        refine ⟨_, _, rfl, rfl, _, rfl, ?_⟩
        refine iteD (fun c313 => ?_) (fun c313 => ?_)
        · have hw := cW_pos c313 hw
          refine ⟨(fun σ H' => ∃ m, (∃ (self_286 : St_SymbolReader) (value_287 : Int) (G' : Hp), σ = [some (V.ref p_self), some (V.int (base')), some (V.int (most')), some (V.int value_287)] ∧ Same G G' ∧ Sep [p_self, p_self_dec, l_self_dec_probs, l_self_dec_octs] H G G' H' [p_self, p_self_dec, l_self_dec_probs, l_self_dec_octs] ∧ H' p_self = some (.ins AD.c_SymbolReader dx_self [("_decoder", V.ref p_self_dec)]) ∧ H' p_self_dec = some (.ins AD.c_Decoder dx_self_dec [("_probabilities", V.ref l_self_dec_probs), ("_octets", V.ref l_self_dec_octs), ("_place", V.int (self_286.dec.place)), ("_span", V.int (self_286.dec.span)), ("_value", V.int (self_286.dec.value))]) ∧ H' l_self_dec_probs = some (.lst ((self_286.dec.probs : (List Int)).map V.int)) ∧ H' l_self_dec_octs = some (.lst ((self_286.dec.octs : (List Int)).map V.int)) ∧ cW (whileR m (self_286, value_287) (fun s => F_SymbolReader_unary_b1 (base') (most') (s.1) (s.2))) K284 EE) ∧ m < m296 + 1), (fun _ _ ⟨m', a, b⟩ => ⟨m', b, a⟩), ?_⟩
          refine ⟨_, rfl, _, _, rfl, rfl, ?_⟩
          have hw := cW_bnd hw
          have hw := cW_ok hw
          have hw := hK300 _ hw
          have h315 := (x304 _ _ h290 (ni3 ne_self_1 (ne_of h290 h292 (fun z => nomatch z)) (ne_of h290 h293 (fun z => nomatch z))))
          exact ⟨m296, ⟨((⟨v302.2⟩ : St_SymbolReader)), ((value_287 + 1)), _, rfl, eG295, S305, h315, h306, h307, h308, hw⟩, Nat.lt_succ_self _⟩
        · have hw := cW_neg c313 hw
          have hw := cW_ok hw
          have hw := hK300 _ hw
          have hw := cW_aftgo (hK285 (.go _) hw)
          have hw : cW (F_SymbolReader_unary_r1  ((⟨v302.2⟩ : St_SymbolReader)) (value_287)) _ EE := hw
          unfold F_SymbolReader_unary_r1 at hw
          refine ⟨_, rfl, ?_⟩
          have h318 := (x304 _ _ h290 (ni3 ne_self_1 (ne_of h290 h292 (fun z => nomatch z)) (ne_of h290 h293 (fun z => nomatch z))))
          have hw := cW_ok hw
          exact hK0 _ hw _ S305.base h318 h306 h307 h308
      · have hw := cW_neg c301 hw
        refine iteF ?_
        have hw := cW_ok hw
        have hw := hK300 _ hw
        have hw := cW_aftgo (hK285 (.go _) hw)
        have hw : cW (F_SymbolReader_unary_r1  (self_286) (value_287)) _ EE := hw
        unfold F_SymbolReader_unary_r1 at hw
        refine ⟨_, rfl, ?_⟩
        have hw := cW_ok hw
        exact hK0 _ hw _ S289.base h290 h291 h292 h293

abbrev N__digit_context : List Str := ["base", "digits"]
theorem sc__digit_context : FnScope N__digit_context ["base", "digits"] (defScope s__digit_context) := ⟨rfl, rfl, rfl, by decide +kernel, rfl, by decide +kernel, by decide +kernel⟩
theorem ok__digit_context (D : DefX K mg "_digit_context" s__digit_context ["base", "digits"] pats__digit_context) (T : Txt w K mg AD)  : CalX P w K mg base 1 "_digit_context" (sp__digit_context K AD) pats__digit_context := by
  refine D.ok sc__digit_context (fun vs H Q E h => ?_) (fun f cdv A_ outer s H vs Q E hr h => ?_)
  · obtain ⟨G, base', digits', rfl, _⟩ := h
    rfl
  · obtain ⟨G, base', digits', rfl, sG, hw⟩ := h
    refine ⟨_, (pss_one (ps_ret (pe_op op_add (pe_op op_add (pv 0) (C8.pe_gc rfl T.g_SHARED)) (pe_callB (call_min2 rfl) (by rfl) T.b_min (by decide +kernel) (pa_cons (pe_op op_sub (pv 1) pe_int) (pa_cons (pe_op op_sub (C8.pe_gc rfl T.g_SHARED) pe_int) pa_nil)))))), ?_⟩
    obtain ⟨KK, EE, hK0, hE, hw⟩ := cW_gen hw
    have S0 := Sep.startG sG
    unfold F__digit_context at hw
    refine ⟨_, rfl, _, _, rfl, rfl, _, rfl, _, _, rfl, rfl, _, _, rfl, rfl, _, _, rfl, _, _, rfl, rfl, ?_⟩
    have hw := cW_ok hw
    exact hK0 _ hw

abbrev N_Decoder_read_even : List Str := ["self"]
theorem sc_Decoder_read_even : FnScope N_Decoder_read_even ["self"] (defScope s_Decoder_read_even) := ⟨rfl, rfl, rfl, by decide +kernel, rfl, by decide +kernel, by decide +kernel⟩
theorem ok_Decoder_read_even (D : MethX K AD.c_Decoder "Decoder.read_even" "read_even" s_Decoder_read_even ["self"] pats_Decoder_read_even) (T : Txt w K mg AD) (c_Decoder__decide : MetX P w K mg base 2 AD.c_Decoder "_decide" (sp_Decoder__decide K AD) pats_Decoder__decide) : MetX P w K mg base 3 AD.c_Decoder "read_even" (sp_Decoder_read_even K AD) pats_Decoder_read_even := by
  refine D.ok T.cl_Decoder sc_Decoder_read_even (fun vs H Q E h => ?_) (fun f cdv A_ outer s H vs Q E hr h => ?_)
  · obtain ⟨G, p_self, l_self_probs, l_self_octs, dx_self, self', rfl, _⟩ := h
    rfl
  · obtain ⟨G, p_self, l_self_probs, l_self_octs, dx_self, self', rfl, sG, gM, h_p_self, h_l_self_probs, h_l_self_octs, ne_self_0, hw⟩ := h
    refine ⟨_, (pss_one (ps_ret (vx_methX c_Decoder__decide pat_Decoder__decide_0 (.head _) hr (by decide) (takes_of rfl rfl rfl rfl) (pv 0) (pa_cons (C8.pe_gc rfl T.g_EVEN) pa_nil) pk_nil))), ?_⟩
    obtain ⟨KK, EE, hK0, hE, hw⟩ := cW_gen hw
    have S0 := Sep.startM (M := [p_self, l_self_probs, l_self_octs]) sG (all_cons (some_ne h_p_self) (all_cons (some_ne h_l_self_probs) (all_cons (some_ne h_l_self_octs) all_nil))) gM
    unfold F_Decoder_read_even at hw
    refine ⟨_, rfl, _, _, _, rfl, h_p_self, rfl, rfl, rfl, G, _, _, _, _, self', _, rfl, S0.sG, (S0.gno (all_cons (.head _) (all_cons (.tail _ (.head _)) (all_cons (.tail _ (.tail _ (.head _))) all_nil)))), h_p_self, h_l_self_probs, h_l_self_octs, ne_self_0, cW_call hw (fun v321 hw H322 x323 h325 h326 h327  => ?_) (fun e he H2 e2 => hE e he H2 (Same.trans (Same.refl _) e2))⟩
    have S324 := S0.mut x323 (all_cons (.head _) (all_cons (.tail _ (.head _)) (all_cons (.tail _ (.tail _ (.head _))) all_nil))) (all_cons (some_ne h325) (all_cons (some_ne h326) (all_cons (some_ne h327) all_nil)))
    have hw := cW_ok hw
    exact hK0 _ hw _ S324.base h325 h326 h327

abbrev N_SymbolReader_number : List Str := ["self", "base", "digits", "grown", "_"]
theorem sc_SymbolReader_number : FnScope N_SymbolReader_number ["self", "base"] (defScope s_SymbolReader_number) := ⟨rfl, rfl, rfl, by decide +kernel, rfl, by decide +kernel, by decide +kernel⟩
theorem ok_SymbolReader_number (D : MethX K AD.c_SymbolReader "SymbolReader.number" "number" s_SymbolReader_number ["self", "base"] pats_SymbolReader_number) (T : Txt w K mg AD) (c__check_contexts : CalX P w K mg base 1 "_check_contexts" (sp__check_contexts K AD) pats__check_contexts) (c_SymbolReader_unary : MetX P w K mg base 4 AD.c_SymbolReader "unary" (sp_SymbolReader_unary K AD) pats_SymbolReader_unary) (c_Decoder_read : MetX P w K mg base 3 AD.c_Decoder "read" (sp_Decoder_read K AD) pats_Decoder_read) (c__digit_context : CalX P w K mg base 1 "_digit_context" (sp__digit_context K AD) pats__digit_context) (c_Decoder_read_even : MetX P w K mg base 3 AD.c_Decoder "read_even" (sp_Decoder_read_even K AD) pats_Decoder_read_even) : MetX P w K mg base 5 AD.c_SymbolReader "number" (sp_SymbolReader_number K AD) pats_SymbolReader_number := by
  refine D.ok T.cl_SymbolReader sc_SymbolReader_number (fun vs H Q E h => ?_) (fun f cdv A_ outer s H vs Q E hr h => ?_)
  · obtain ⟨G, p_self, p_self_dec, l_self_dec_probs, l_self_dec_octs, dx_self, dx_self_dec, self', base', rfl, _⟩ := h
    rfl
  · obtain ⟨G, p_self, p_self_dec, l_self_dec_probs, l_self_dec_octs, dx_self, dx_self_dec, self', base', rfl, sG, gM, h_p_self, h_p_self_dec, h_l_self_dec_probs, h_l_self_dec_octs, ne_self_0, ne_self_1, hw⟩ := h
    refine ⟨_, (pss_cons (ps_expr (vx_callX c__check_contexts pat__check_contexts_0 (.head _) hr (by decide) (takes_of rfl rfl rfl rfl) rfl (pa_cons (pv 1) (pa_cons (pe_op op_mul pe_int (C8.pe_gc rfl T.g_SHARED)) pa_nil)) pk_nil))
      (pss_cons (ps_set (i := 2) sc_SymbolReader_number.nd rfl (Or.inl rfl) (vx_methX c_SymbolReader_unary pat_SymbolReader_unary_0 (.head _) hr (by decide) (takes_of rfl rfl rfl rfl) (pv 0) (pa_cons (pv 1) pa_nil) (pk_cons (C8.pe_gc rfl T.g_MOST_DIGITS) pk_nil)))
      (pss_cons (ps_set (i := 3) sc_SymbolReader_number.nd rfl (Or.inl rfl) pe_int)
      (C8.pss_cut (ps_if (pt_cmp (pc_gt (pv 2) pe_int)) (pss_one (ps_set (i := 3) sc_SymbolReader_number.nd rfl (Or.inl rfl) (pe_op op_add pe_int (vx_methX c_Decoder_read pat_Decoder_read_0 (.head _) hr (by decide) (takes_of rfl rfl rfl rfl) (fldK (K := K) (pv 0)) (pa_cons (vx_callX c__digit_context pat__digit_context_0 (.head _) hr (by decide) (takes_of rfl rfl rfl rfl) rfl (pa_cons (pv 1) (pa_cons (pv 2) pa_nil)) pk_nil) pa_nil) pk_nil)))) pss_nil)
      (pss_cons (ps_for (passes_of rfl) rfl (pi_range1 rfl T.b_range (pa_cons (pe_op op_sub (pv 2) pe_int) pa_nil)) (pg_name (i := 4) sc_SymbolReader_number.nd rfl (Or.inl rfl)) (pss_one (ps_set (i := 3) sc_SymbolReader_number.nd rfl (Or.inl rfl) (pe_op op_add (pe_op op_mul pe_int (pv 3)) (vx_methX0 c_Decoder_read_even pat_Decoder_read_even_0 (.head _) hr (by decide) (takes_of rfl rfl rfl rfl) (fldK (K := K) (pv 0)))))))
      (pss_one (ps_ret (pe_callB (call_min2 rfl) (by rfl) T.b_min (by decide +kernel) (pa_cons (pe_op op_sub (pv 3) pe_int) (pa_cons (C8.pe_gc rfl T.g_GREATEST_NUMBER_symbols) pa_nil)))))))))), ?_⟩
    obtain ⟨KK, EE, hK0, hE, hw⟩ := cW_gen hw
    have S0 := Sep.startM (M := [p_self, p_self_dec, l_self_dec_probs, l_self_dec_octs]) sG (all_cons (some_ne h_p_self) (all_cons (some_ne h_p_self_dec) (all_cons (some_ne h_l_self_dec_probs) (all_cons (some_ne h_l_self_dec_octs) all_nil)))) gM
    unfold F_SymbolReader_number at hw
    refine ⟨_, rfl, _, _, rfl, rfl, (.inl ⟨by decide, by decide⟩), rfl, rfl, G, _, _, rfl, S0.sG, cW_call hw (fun v332 hw => ?_) (fun e he => hE e he _ (Same.refl _))⟩
    refine ⟨_, rfl, _, _, _, rfl, h_p_self, rfl, _, rfl, rfl, rfl, G, _, _, _, _, _, _, self', _, _, rfl, S0.sG, (S0.gno (all_cons (.head _) (all_cons (.tail _ (.head _)) (all_cons (.tail _ (.tail _ (.head _))) (all_cons (.tail _ (.tail _ (.tail _ (.head _)))) all_nil))))), h_p_self, h_p_self_dec, h_l_self_dec_probs, h_l_self_dec_octs, ne_self_0, ne_self_1, cW_call hw (fun v333 hw H334 x335 h337 h338 h339 h340  => ?_) (fun e he H2 e2 => hE e he H2 (Same.trans (Same.refl _) e2))⟩
    have S336 := S0.mut x335 (all_cons (.head _) (all_cons (.tail _ (.head _)) (all_cons (.tail _ (.tail _ (.head _))) (all_cons (.tail _ (.tail _ (.tail _ (.head _)))) all_nil)))) (all_cons (some_ne h337) (all_cons (some_ne h338) (all_cons (some_ne h339) (all_cons (some_ne h340) all_nil))))
    refine ⟨fun σ H' => ∃ (self_348 : St_SymbolReader) (grown_349 : Int) (G' : Hp), σ = [some (V.ref p_self), some (V.int (base')), some (V.int (v333.1)), some (V.int grown_349), none] ∧ Same G G' ∧ Sep [p_self, p_self_dec, l_self_dec_probs, l_self_dec_octs] H G G' H' [p_self, p_self_dec, l_self_dec_probs, l_self_dec_octs] ∧ H' p_self = some (.ins AD.c_SymbolReader dx_self [("_decoder", V.ref p_self_dec)]) ∧ H' p_self_dec = some (.ins AD.c_Decoder dx_self_dec [("_probabilities", V.ref l_self_dec_probs), ("_octets", V.ref l_self_dec_octs), ("_place", V.int (self_348.dec.place)), ("_span", V.int (self_348.dec.span)), ("_value", V.int (self_348.dec.value))]) ∧ H' l_self_dec_probs = some (.lst ((self_348.dec.probs : (List Int)).map V.int)) ∧ H' l_self_dec_octs = some (.lst ((self_348.dec.octs : (List Int)).map V.int)) ∧ cW (F_SymbolReader_number_k1 (v333.1) self_348 grown_349) KK EE, ?_, ?_⟩
    · obtain ⟨K350, hK351, hw⟩ := cW_push hw
      refine ⟨_, rfl, _, _, rfl, rfl, _, rfl, ?_⟩
      refine iteD (fun c352 => ?_) (fun c352 => ?_)
      · have hw := cW_pos c352 hw
        refine ⟨_, rfl, _, _, _, _, _, rfl, h337, T.cl_SymbolReader, T.n_SymbolReader__decoder, rfl, _, _, _, rfl, h338, rfl, _, rfl, _, rfl, rfl, rfl, G, _, _, rfl, S336.sG, cW_callN hw (fun v353 hw => ?_) trivial⟩
        refine ⟨rfl, rfl, G, _, _, _, _, v333.2.dec, _, rfl, S336.sG, (S336.gno (all_cons (.tail _ (.head _)) (all_cons (.tail _ (.tail _ (.head _))) (all_cons (.tail _ (.tail _ (.tail _ (.head _)))) all_nil)))), h338, h339, h340, ne_self_0, cW_callN hw (fun v354 hw H355 x356 h358 h359 h360  => ?_) trivial⟩
        have S357 := S336.mut x356 (all_cons (.tail _ (.head _)) (all_cons (.tail _ (.tail _ (.head _))) (all_cons (.tail _ (.tail _ (.tail _ (.head _)))) all_nil))) (all_cons (some_ne h358) (all_cons (some_ne h359) (all_cons (some_ne h360) all_nil)))
        refine ⟨_, _, rfl, rfl, ?_⟩
        have hw := cW_bnd hw
        have hw := cW_ok hw
        have hw := hK351 _ hw
        have h366 := (x356 _ _ h337 (ni3 ne_self_1 (ne_of h337 h339 (fun z => nomatch z)) (ne_of h337 h340 (fun z => nomatch z))))
        exact ⟨((⟨v354.2⟩ : St_SymbolReader)), ((2 + v354.1)), _, rfl, (Same.refl _), S357, h366, h358, h359, h360, hw⟩
      · have hw := cW_neg c352 hw
        have hw := cW_ok hw
        have hw := hK351 _ hw
        exact ⟨(v333.2), (1), _, rfl, (Same.refl _), S336, h337, h338, h339, h340, hw⟩
    · intro σ H367 hw
      obtain ⟨self_348, grown_349, G373, rfl, eG374, S368, h369, h370, h371, h372, hw⟩ := hw
      unfold F_SymbolReader_number_k1 at hw
      obtain ⟨g375, hw⟩ := cW_grd hw
      obtain ⟨K376, hK377, hw⟩ := cW_push hw
      refine ⟨_, rfl, _, _, rfl, rfl, _, rfl, g375.1, g375.2, for_range (lo := 0) (n := Int.toNat ((v333.1 - 1))) (fun i σ H' => ∃ (self_378 : St_SymbolReader) (grown_379 : Int) (u380 : Option V) (G' : Hp), σ = [some (V.ref p_self), some (V.int (base')), some (V.int (v333.1)), some (V.int grown_379), u380] ∧ Same G373 G' ∧ Sep [p_self, p_self_dec, l_self_dec_probs, l_self_dec_octs] H G G' H' [p_self, p_self_dec, l_self_dec_probs, l_self_dec_octs] ∧ H' p_self = some (.ins AD.c_SymbolReader dx_self [("_decoder", V.ref p_self_dec)]) ∧ H' p_self_dec = some (.ins AD.c_Decoder dx_self_dec [("_probabilities", V.ref l_self_dec_probs), ("_octets", V.ref l_self_dec_octs), ("_place", V.int (self_378.dec.place)), ("_span", V.int (self_378.dec.span)), ("_value", V.int (self_378.dec.value))]) ∧ H' l_self_dec_probs = some (.lst ((self_378.dec.probs : (List Int)).map V.int)) ∧ H' l_self_dec_octs = some (.lst ((self_378.dec.octs : (List Int)).map V.int)) ∧ cW (forS (List.drop i (rng (0) (Int.toNat ((v333.1 - 1))))) (self_378, grown_379) (fun s x => F_SymbolReader_number_b2  (s.1) (s.2) x)) K376 EE) ?_ ?_ ?_⟩
      · exact ⟨(self_348), (grown_349), _, _, rfl, (Same.refl _), S368, h369, h370, h371, h372, hw⟩
      · intro i σ H381 hi hw
        obtain ⟨self_378, grown_379, u380, G387, rfl, eG388, S382, h383, h384, h385, h386, hw⟩ := hw
        have hw := cW_forS (rng_get hi) hw
        generalize (0 + (i : Int)) = x389 at hw ⊢
        have hw : cW (F_SymbolReader_number_b2  (self_378) (grown_379) (x389)) _ EE := hw
        unfold F_SymbolReader_number_b2 at hw
        obtain ⟨K392, hK393, hw⟩ := cW_name hw
        refine ⟨_, rfl, _, _, rfl, rfl, (.inl ⟨by decide, by decide⟩), _, rfl, _, _, _, _, _, rfl, h383, T.cl_SymbolReader, T.n_SymbolReader__decoder, rfl, _, _, _, rfl, h384, rfl, rfl, rfl, G387, _, _, _, _, self_378.dec, rfl, S382.sG, (S382.gno (all_cons (.tail _ (.head _)) (all_cons (.tail _ (.tail _ (.head _))) (all_cons (.tail _ (.tail _ (.tail _ (.head _)))) all_nil)))), h384, h385, h386, ne_self_0, cW_callN hw (fun v395 hw H396 x397 h399 h400 h401  => ?_) trivial⟩
        have S398 := S382.mut x397 (all_cons (.tail _ (.head _)) (all_cons (.tail _ (.tail _ (.head _))) (all_cons (.tail _ (.tail _ (.tail _ (.head _)))) all_nil))) (all_cons (some_ne h399) (all_cons (some_ne h400) (all_cons (some_ne h401) all_nil)))
        refine ⟨_, _, rfl, rfl, ?_⟩
        have hw := cW_bnd hw
        have hw := cW_ok hw
        have hw := hK393 _ hw
        have h407 := (x397 _ _ h383 (ni3 ne_self_1 (ne_of h383 h385 (fun z => nomatch z)) (ne_of h383 h386 (fun z => nomatch z))))
        exact ⟨((⟨v395.2⟩ : St_SymbolReader)), (((2 * grown_379) + v395.1)), _, _, rfl, eG388, S398, h407, h399, h400, h401, hw⟩
      · intro σ H408 hw
        obtain ⟨self_378, grown_379, u380, G414, rfl, eG415, S409, h410, h411, h412, h413, hw⟩ := hw
        have hw := hK377 _ (cW_forS0 (rng_len _ _).symm hw)
        have hw : cW (F_SymbolReader_number_r2  (self_378) (grown_379)) _ EE := hw
        unfold F_SymbolReader_number_r2 at hw
        refine ⟨_, rfl, _, _, rfl, rfl, _, _, rfl, ?_⟩
        have hw := cW_ok hw
        exact hK0 _ hw _ S409.base h410 h411 h412 h413

abbrev N__check_numbers : List Str := ["settings", "header"]
theorem sc__check_numbers : FnScope N__check_numbers ["settings", "header"] (defScope s__check_numbers) := ⟨rfl, rfl, rfl, by decide +kernel, rfl, by decide +kernel, by decide +kernel⟩
theorem ok__check_numbers (D : DefX K mg "_check_numbers" s__check_numbers ["settings", "header"] pats__check_numbers) (T : Txt w K mg AD) (c__require : CalX P w K mg base 1 "_require" (sp__require K AD) pats__require) : CalX P w K mg base 2 "_check_numbers" (sp__check_numbers K AD) pats__check_numbers := by
  refine D.ok sc__check_numbers (fun vs H Q E h => ?_) (fun f cdv A_ outer s H vs Q E hr h => ?_)
  · obtain ⟨G, p_settings, p_settings_fmt, dx_settings, dx_settings_fmt, settings', p_header, l_header_store, l_header_refs, dx_header, header', rfl, _⟩ := h
    rfl
  · obtain ⟨G, p_settings, p_settings_fmt, dx_settings, dx_settings_fmt, settings', p_header, l_header_store, l_header_refs, dx_header, header', rfl, sG, h_p_settings, h_p_settings_fmt, h_p_header, h_l_header_store, h_l_header_refs, hw⟩ := h
    refine ⟨_, (C8.pss_cut (ps_expr (vx_callX c__require pat__require_0 (.head _) hr (by decide) (takes_of rfl rfl rfl rfl) rfl (pa_cons (pe_chain op_le op_le pe_int (fldK (K := K) (pv 1)) (C8.pe_gc rfl T.g_GREATEST_NUMBER_headers)) (pa_cons pe_str pa_nil)) pk_nil))
      (C8.pss_cut (ps_expr (vx_callX c__require pat__require_0 (.head _) hr (by decide) (takes_of rfl rfl rfl rfl) rfl (pa_cons (pe_cmpR (op_inS (K := K)) (fldK (K := K) (pv 1)) (C8.pe_gc (v := V.ref AD.t_KINDS) rfl T.g_KINDS) (by with_unfolding_all rfl)) (pa_cons pe_str pa_nil)) pk_nil))
      (C8.pss_cut (ps_expr (vx_callX c__require pat__require_0 (.head _) hr (by decide) (takes_of rfl rfl rfl rfl) rfl (pa_cons (pe_chain op_le op_le pe_int (fldK (K := K) (pv 1)) (C8.pe_gc rfl T.g_GREATEST_LEVEL)) (pa_cons pe_str pa_nil)) pk_nil))
      (C8.pss_cut (ps_expr (vx_callX c__require pat__require_0 (.head _) hr (by decide) (takes_of rfl rfl rfl rfl) rfl (pa_cons (pe_chain op_le op_le pe_int (fldK (K := K) (pv 1)) pe_int) (pa_cons pe_str pa_nil)) pk_nil))
      (C8.pss_cut (ps_expr (vx_callX c__require pat__require_0 (.head _) hr (by decide) (takes_of rfl rfl rfl rfl) rfl (pa_cons (pe_or (pe_cmp (pc_eqI (fldK (K := K) (pv 1)) (C8.pe_gc rfl T.g_EVEN_WEIGHT))) (pe_one (pe_cmpR op_eq (fldK (K := K) (pv 1)) pe_str (nomark _)))) (pa_cons pe_str pa_nil)) pk_nil))
      (C8.pss_cut (ps_expr (vx_callX c__require pat__require_0 (.head _) hr (by decide) (takes_of rfl rfl rfl rfl) rfl (pa_cons (pe_chain op_le op_lt pe_int (fldK (K := K) (pv 1)) (fldK (K := K) (pv 0))) (pa_cons pe_str pa_nil)) pk_nil))
      (C8.pss_cut (ps_expr (vx_callX c__require pat__require_0 (.head _) hr (by decide) (takes_of rfl rfl rfl rfl) rfl (pa_cons (pe_chain op_le op_le (pe_un un_neg pe_int) (fldK (K := K) (pv 1)) pe_int) (pa_cons pe_str pa_nil)) pk_nil))
      (pss_one (ps_expr (vx_callX c__require pat__require_0 (.head _) hr (by decide) (takes_of rfl rfl rfl rfl) rfl (pa_cons (pe_or (pe_cmp (pc_eqI (fldK (K := K) (pv 1)) pe_int)) (pe_one (fldK (K := K) (pv 0)))) (pa_cons pe_str pa_nil)) pk_nil)))))))))), ?_⟩
    obtain ⟨KK, EE, hK0, hE, hw⟩ := cW_gen hw
    have S0 := Sep.startG sG
    unfold F__check_numbers at hw
    refine ⟨fun σ H' => ∃ (G' : Hp), σ = [some (V.ref p_settings), some (V.ref p_header)] ∧ Same G G' ∧ Sep [] H G G' H' [] ∧ cW (F__check_numbers_k1 (settings') (header') ) KK EE, ?_, ?_⟩
    · obtain ⟨K420, hK421, hw⟩ := cW_push hw
      refine ⟨_, rfl, _, _, _, _, _, rfl, (S0.bM _ _ h_p_header), T.cl_PictureHeader, T.n_PictureHeader_number, rfl, _, _, rfl, rfl, _, rfl, ?_⟩
      refine iteD (fun c422 => ?_) (fun c422 => ?_)
      · have hw := cW_pos c422 hw
        refine ⟨_, _, rfl, rfl, rfl, rfl, G, _, _, rfl, S0.sG, cW_call hw (fun v423 hw => ?_) (fun e he => hE e he _ S0.b0)⟩
        have hw := cW_ok hw
        have hw := hK421 _ hw
        exact ⟨_, rfl, (Same.refl _), S0, hw⟩
      · have hw := cW_neg c422 hw
        refine ⟨rfl, rfl, G, _, _, rfl, S0.sG, cW_call hw (fun v424 hw => ?_) (fun e he => hE e he _ S0.b0)⟩
        have hw := cW_ok hw
        have hw := hK421 _ hw
        exact ⟨_, rfl, (Same.refl _), S0, hw⟩
    · intro σ H425 hw
      obtain ⟨G427, rfl, eG428, S426, hw⟩ := hw
      unfold F__check_numbers_k1 at hw
      refine ⟨fun σ H' => ∃ (G' : Hp), σ = [some (V.ref p_settings), some (V.ref p_header)] ∧ Same G427 G' ∧ Sep [] H G G' H' [] ∧ cW (F__check_numbers_k2 (settings') (header') ) KK EE, ?_, ?_⟩
      · obtain ⟨K431, hK432, hw⟩ := cW_push hw
        refine ⟨_, rfl, _, _, _, _, _, rfl, (S426.bM _ _ h_p_header), T.cl_PictureHeader, T.n_PictureHeader_kind, rfl, _, _, ([("I" : Str), ("P" : Str), ("B" : Str)] : List Str), rfl, rfl, (.inr (T.ts_KINDS _)), rfl, rfl, G427, _, _, rfl, S426.sG, cW_call hw (fun v433 hw => ?_) (fun e he => hE e he _ S426.b0)⟩
        have hw := cW_ok hw
        have hw := hK432 _ hw
        exact ⟨_, rfl, (Same.refl _), S426, hw⟩
      · intro σ H434 hw
        obtain ⟨G436, rfl, eG437, S435, hw⟩ := hw
        unfold F__check_numbers_k2 at hw
        refine ⟨fun σ H' => ∃ (G' : Hp), σ = [some (V.ref p_settings), some (V.ref p_header)] ∧ Same G436 G' ∧ Sep [] H G G' H' [] ∧ cW (F__check_numbers_k3 (settings') (header') ) KK EE, ?_, ?_⟩
        · obtain ⟨K440, hK441, hw⟩ := cW_push hw
          refine ⟨_, rfl, _, _, _, _, _, rfl, (S435.bM _ _ h_p_header), T.cl_PictureHeader, T.n_PictureHeader_level, rfl, _, _, rfl, rfl, _, rfl, ?_⟩
          refine iteD (fun c442 => ?_) (fun c442 => ?_)
          · have hw := cW_pos c442 hw
            refine ⟨_, _, rfl, rfl, rfl, rfl, G436, _, _, rfl, S435.sG, cW_call hw (fun v443 hw => ?_) (fun e he => hE e he _ S435.b0)⟩
            have hw := cW_ok hw
            have hw := hK441 _ hw
            exact ⟨_, rfl, (Same.refl _), S435, hw⟩
          · have hw := cW_neg c442 hw
            refine ⟨rfl, rfl, G436, _, _, rfl, S435.sG, cW_call hw (fun v444 hw => ?_) (fun e he => hE e he _ S435.b0)⟩
            have hw := cW_ok hw
            have hw := hK441 _ hw
            exact ⟨_, rfl, (Same.refl _), S435, hw⟩
        · intro σ H445 hw
          obtain ⟨G447, rfl, eG448, S446, hw⟩ := hw
          unfold F__check_numbers_k3 at hw
          refine ⟨fun σ H' => ∃ (G' : Hp), σ = [some (V.ref p_settings), some (V.ref p_header)] ∧ Same G447 G' ∧ Sep [] H G G' H' [] ∧ cW (F__check_numbers_k4 (settings') (header') ) KK EE, ?_, ?_⟩
          · obtain ⟨K451, hK452, hw⟩ := cW_push hw
            refine ⟨_, rfl, _, _, _, _, _, rfl, (S446.bM _ _ h_p_header), T.cl_PictureHeader, T.n_PictureHeader_weight, rfl, _, _, rfl, rfl, _, rfl, ?_⟩
            refine iteD (fun c453 => ?_) (fun c453 => ?_)
            · have hw := cW_pos c453 hw
              refine ⟨_, _, rfl, rfl, rfl, rfl, G447, _, _, rfl, S446.sG, cW_call hw (fun v454 hw => ?_) (fun e he => hE e he _ S446.b0)⟩
              have hw := cW_ok hw
              have hw := hK452 _ hw
              exact ⟨_, rfl, (Same.refl _), S446, hw⟩
            · have hw := cW_neg c453 hw
              refine ⟨rfl, rfl, G447, _, _, rfl, S446.sG, cW_call hw (fun v455 hw => ?_) (fun e he => hE e he _ S446.b0)⟩
              have hw := cW_ok hw
              have hw := hK452 _ hw
              exact ⟨_, rfl, (Same.refl _), S446, hw⟩
          · intro σ H456 hw
            obtain ⟨G458, rfl, eG459, S457, hw⟩ := hw
            unfold F__check_numbers_k4 at hw
            refine ⟨fun σ H' => ∃ (G' : Hp), σ = [some (V.ref p_settings), some (V.ref p_header)] ∧ Same G458 G' ∧ Sep [] H G G' H' [] ∧ cW (F__check_numbers_k5 (settings') (header') ) KK EE, ?_, ?_⟩
            · obtain ⟨K462, hK463, hw⟩ := cW_push hw
              refine ⟨_, rfl, _, _, _, _, _, rfl, (S457.bM _ _ h_p_header), T.cl_PictureHeader, T.n_PictureHeader_weight, rfl, _, _, rfl, rfl, _, rfl, ?_⟩
              refine iteB (fun c464 => ?_) (fun c464 => ?_)
              · have hw := cW_pos c464 hw
                refine ⟨rfl, rfl, G458, _, _, rfl, S457.sG, cW_call hw (fun v465 hw => ?_) (fun e he => hE e he _ S457.b0)⟩
                have hw := cW_ok hw
                have hw := hK463 _ hw
                exact ⟨_, rfl, (Same.refl _), S457, hw⟩
              · have hw := cW_negB c464 hw
                refine ⟨_, rfl, _, _, _, _, _, rfl, (S457.bM _ _ h_p_header), T.cl_PictureHeader, T.n_PictureHeader_kind, rfl, rfl, rfl, rfl, G458, _, _, rfl, S457.sG, cW_call hw (fun v466 hw => ?_) (fun e he => hE e he _ S457.b0)⟩
                have hw := cW_ok hw
                have hw := hK463 _ hw
                exact ⟨_, rfl, (Same.refl _), S457, hw⟩
            · intro σ H467 hw
              obtain ⟨G469, rfl, eG470, S468, hw⟩ := hw
              unfold F__check_numbers_k5 at hw
              refine ⟨fun σ H' => ∃ (G' : Hp), σ = [some (V.ref p_settings), some (V.ref p_header)] ∧ Same G469 G' ∧ Sep [] H G G' H' [] ∧ cW (F__check_numbers_k6 (settings') (header') ) KK EE, ?_, ?_⟩
              · obtain ⟨K473, hK474, hw⟩ := cW_push hw
                refine ⟨_, rfl, _, _, _, _, _, rfl, (S468.bM _ _ h_p_header), T.cl_PictureHeader, T.n_PictureHeader_layer, rfl, _, _, rfl, rfl, _, rfl, ?_⟩
                refine iteD (fun c475 => ?_) (fun c475 => ?_)
                · have hw := cW_pos c475 hw
                  refine ⟨_, rfl, _, _, _, _, _, rfl, (S468.bM _ _ h_p_settings), T.cl_Settings, T.n_Settings_layers, rfl, _, _, rfl, rfl, rfl, rfl, G469, _, _, rfl, S468.sG, cW_call hw (fun v476 hw => ?_) (fun e he => hE e he _ S468.b0)⟩
                  have hw := cW_ok hw
                  have hw := hK474 _ hw
                  exact ⟨_, rfl, (Same.refl _), S468, hw⟩
                · have hw := cW_neg c475 hw
                  refine ⟨rfl, rfl, G469, _, _, rfl, S468.sG, cW_call hw (fun v477 hw => ?_) (fun e he => hE e he _ S468.b0)⟩
                  have hw := cW_ok hw
                  have hw := hK474 _ hw
                  exact ⟨_, rfl, (Same.refl _), S468, hw⟩
              · intro σ H478 hw
                obtain ⟨G480, rfl, eG481, S479, hw⟩ := hw
                unfold F__check_numbers_k6 at hw
                refine ⟨fun σ H' => ∃ (G' : Hp), σ = [some (V.ref p_settings), some (V.ref p_header)] ∧ Same G480 G' ∧ Sep [] H G G' H' [] ∧ cW (F__check_numbers_k7 (settings') (header') ) KK EE, ?_, ?_⟩
                · obtain ⟨K484, hK485, hw⟩ := cW_push hw
                  refine ⟨_, rfl, _, rfl, _, _, _, _, _, rfl, (S479.bM _ _ h_p_header), T.cl_PictureHeader, T.n_PictureHeader_edge, rfl, _, _, rfl, rfl, _, rfl, ?_⟩
                  refine iteD (fun c486 => ?_) (fun c486 => ?_)
                  · have hw := cW_pos c486 hw
                    refine ⟨_, _, rfl, rfl, rfl, rfl, G480, _, _, rfl, S479.sG, cW_call hw (fun v487 hw => ?_) (fun e he => hE e he _ S479.b0)⟩
                    have hw := cW_ok hw
                    have hw := hK485 _ hw
                    exact ⟨_, rfl, (Same.refl _), S479, hw⟩
                  · have hw := cW_neg c486 hw
                    refine ⟨rfl, rfl, G480, _, _, rfl, S479.sG, cW_call hw (fun v488 hw => ?_) (fun e he => hE e he _ S479.b0)⟩
                    have hw := cW_ok hw
                    have hw := hK485 _ hw
                    exact ⟨_, rfl, (Same.refl _), S479, hw⟩
                · intro σ H489 hw
                  obtain ⟨G491, rfl, eG492, S490, hw⟩ := hw
                  unfold F__check_numbers_k7 at hw
                  refine ⟨_, rfl, _, _, _, _, _, rfl, (S490.bM _ _ h_p_header), T.cl_PictureHeader, T.n_PictureHeader_edge, rfl, _, _, rfl, rfl, _, rfl, ?_⟩
                  refine iteB (fun c493 => ?_) (fun c493 => ?_)
                  · have hw := cW_pos c493 hw
                    refine ⟨rfl, rfl, G491, _, _, rfl, S490.sG, cW_call hw (fun v494 hw => ?_) (fun e he => hE e he _ S490.b0)⟩
                    have hw := cW_ok hw
                    exact hK0 _ hw _ S490.b0
                  · have hw := cW_negB c493 hw
                    refine ⟨_, rfl, _, _, _, _, _, rfl, (S490.bM _ _ h_p_settings), T.cl_Settings, T.n_Settings_deblock, rfl, rfl, rfl, G491, _, _, rfl, S490.sG, cW_call hw (fun v495 hw => ?_) (fun e he => hE e he _ S490.b0)⟩
                    have hw := cW_ok hw
                    exact hK0 _ hw _ S490.b0

abbrev N__check_slots : List Str := ["settings", "header", "slot", "ascending", "counts"]
theorem sc__check_slots : FnScope N__check_slots ["settings", "header"] (defScope s__check_slots) := ⟨rfl, rfl, rfl, by decide +kernel, rfl, by decide +kernel, by decide +kernel⟩
theorem ok__check_slots (D : DefX K mg "_check_slots" s__check_slots ["settings", "header"] pats__check_slots) (T : Txt w K mg AD) (c__require : CalX P w K mg base 1 "_require" (sp__require K AD) pats__require) : CalX P w K mg base 2 "_check_slots" (sp__check_slots K AD) pats__check_slots := by
  refine D.ok sc__check_slots (fun vs H Q E h => ?_) (fun f cdv A_ outer s H vs Q E hr h => ?_)
  · obtain ⟨G, p_settings, p_settings_fmt, dx_settings, dx_settings_fmt, settings', p_header, l_header_store, l_header_refs, dx_header, header', rfl, _⟩ := h
    rfl
  · obtain ⟨G, p_settings, p_settings_fmt, dx_settings, dx_settings_fmt, settings', p_header, l_header_store, l_header_refs, dx_header, header', rfl, sG, h_p_settings, h_p_settings_fmt, h_p_header, h_l_header_store, h_l_header_refs, hw⟩ := h
    refine ⟨_, (pss_cons (ps_for (passes_of rfl) rfl (pi_listK (K := K) (pe_op op_cat (fldK (K := K) (pv 1)) (fldK (K := K) (pv 1)))) (pg_name (i := 2) sc__check_slots.nd rfl (Or.inl rfl)) (pss_one (ps_expr (vx_callX c__require pat__require_0 (.head _) hr (by decide) (takes_of rfl rfl rfl rfl) rfl (pa_cons (pe_chain op_le op_lt pe_int (pv 2) (fldK (K := K) (pv 0))) (pa_cons pe_str pa_nil)) pk_nil))))
      (pss_cons (ps_set (i := 3) sc__check_slots.nd rfl (Or.inl rfl) (pe_callB (cr_sortSet (w := w) rfl) (by rfl) T.b_sorted (by decide +kernel) (pa_cons (pe_callTy (cr_setI (K := K) (w := w) rfl) (by rfl) T.b_set (by decide +kernel) (pa_cons (fldK (K := K) (pv 1)) pa_nil)) pa_nil)))
      (pss_cons (ps_expr (vx_callX c__require pat__require_0 (.head _) hr (by decide) (takes_of rfl rfl rfl rfl) rfl (pa_cons (pe_cmpR (op_eqT (encOk_L encOk_int) hr.units) (fldK (K := K) (pv 1)) (pv 3) (nomark _)) (pa_cons pe_str pa_nil)) pk_nil))
      (pss_cons (ps_set (i := 4) sc__check_slots.nd rfl (Or.inl rfl) (pe_ix (ix_DA (w := w) (K := K)) (C8.pe_gc (v := V.ref AD.t_REF_COUNTS) rfl T.g_REF_COUNTS) (fldK (K := K) (pv 1)) (fun _ _ => rfl)))
      (pss_one (ps_expr (vx_callX c__require pat__require_0 (.head _) hr (by decide) (takes_of rfl rfl rfl rfl) rfl (pa_cons (pe_cmpR (op_inI (K := K)) (pe_callB (call_lenLiK (K := K)) (by rfl) T.b_len (by decide +kernel) (pa_cons (fldK (K := K) (pv 1)) pa_nil)) (pv 4) (by with_unfolding_all rfl)) (pa_cons pe_str pa_nil)) pk_nil))))))), ?_⟩
    obtain ⟨KK, EE, hK0, hE, hw⟩ := cW_gen hw
    have S0 := Sep.startG sG
    unfold F__check_slots at hw
    obtain ⟨g496, hw⟩ := cW_grd hw
    refine ⟨_, rfl, _, _, _, _, _, rfl, (S0.bM _ _ h_p_header), T.cl_PictureHeader, T.n_PictureHeader_store, rfl, _, rfl, _, _, _, _, _, rfl, (S0.bM _ _ h_p_header), T.cl_PictureHeader, T.n_PictureHeader_refs, rfl, _, _, _, _, rfl, rfl, (S0.bM _ _ h_l_header_store), (S0.bM _ _ h_l_header_refs), (cat_lenM g496), fun p497 n498 => ?_⟩
    generalize g499 : upd H p497 _ = H500
    obtain ⟨e501, h502⟩ := gen_new n498 g499
    have h503 : H500 p497 = some (.lst (((header'.store) ++ (header'.refs) : (List Int)).map V.int)) := cat_map h502
    have fr504 := S0.free n498
    have S505 := S0.new n498 e501 h503 fr504
    obtain ⟨K508, hK509, hw⟩ := cW_push hw
    refine ⟨_, rfl, ⟨_, (SqL.of h503)⟩, for_list (K := K) (a := p497) (xs := ((header'.store) ++ (header'.refs) : (List Int)).map V.int) (fun i σ H' => ∃ (u510 : Option V) (G' : Hp), σ = [some (V.ref p_settings), some (V.ref p_header), u510, none, none] ∧ Same G G' ∧ Sep [] H G G' H' [p497] ∧ H' p497 = some (.lst (((header'.store) ++ (header'.refs) : (List Int)).map V.int)) ∧ cW (forS (List.drop i ((header'.store) ++ (header'.refs))) () (fun s x => F__check_slots_b1 (settings')  x)) K508 EE) ?_ ?_ ?_ ?_⟩
    · exact ⟨_, _, rfl, (Same.refl _), S505, h503, hw⟩
    · intro i σ H511 _ hw
      obtain ⟨u510, G514, rfl, eG515, S512, h513, hw⟩ := hw
      exact (SqL.of h513)
    · intro i x σ H516 hj hw
      obtain ⟨u510, G519, rfl, eG520, S517, h518, hw⟩ := hw
      obtain ⟨x521, hx, rfl⟩ := map_get hj
      have hw := cW_forS hx hw
      have hw : cW (F__check_slots_b1 (settings')  (x521)) _ EE := hw
      unfold F__check_slots_b1 at hw
      obtain ⟨K522, hK523, hw⟩ := cW_name hw
      refine vv_chain (ta := (tC (V.int 0))) (tb := (tVar 2)) (tc := (tFld K (tVar 0) "slots")) (r := (rI0 fun i j => V.bl (decide (i ≤ j)))) (r' := (rI0 fun i j => V.bl (decide (i < j)))) (x := V.int (0)) (y := V.int (x521)) (z := V.int (settings'.slots)) (a := decide (0 ≤ x521)) (b := decide (x521 < settings'.slots)) ?hx525 ?hy526 ?hz527 (fun Q q => ⟨_, _, rfl, rfl, q⟩) (fun Q q => ⟨_, _, rfl, rfl, q⟩) _ ?_
      case hx525 => exact val_c
      case hy526 => exact (val_var rfl)
      case hz527 => exact (val_fld (val_var rfl) (S517.bM _ _ h_p_settings) T.cl_Settings T.n_Settings_slots rfl)
      refine ⟨rfl, rfl, G519, _, _, rfl, S517.sG, cW_call hw (fun v528 hw => ?_) (fun e he => hE e he _ S517.b0)⟩
      have hw := cW_ok hw
      have hw := hK523 _ hw
      exact ⟨_, _, rfl, eG520, S517, h518, hw⟩
    · intro σ H529 hw
      obtain ⟨u510, G532, rfl, eG533, S530, h531, hw⟩ := hw
      have hw := hK509 _ (cW_forS0 (by rw [List.length_map]) hw)
      have hw : cW (F__check_slots_r1 (header') ) _ EE := hw
      unfold F__check_slots_r1 at hw
      obtain ⟨g534, hw⟩ := cW_grd hw
      refine ⟨_, rfl, _, _, _, _, _, rfl, (S530.bM _ _ h_p_header), T.cl_PictureHeader, T.n_PictureHeader_store, rfl, _, _, rfl, (SqL.of (S530.bM _ _ h_l_header_store)), g534, fun p535 n536 n537 n538 => ⟨_, _, n536, rfl, upd_same, Nat.le_trans n537 g534, ?_⟩⟩
      refine fun ns539 p540 pw541 mm542 n543 => ?_
      generalize g544 : upd (upd H529 p535 _) p540 _ = H545
      obtain ⟨e546, h547, n548⟩ := gen_new2 n538 n543 g544
      obtain rfl := sortSet_of pw541 mm542
      have h549 : H545 p540 = some (.lst (((sortSet (header'.store)) : (List Int)).map V.int)) := h547
      have fr550 := S530.free n548
      have S551 := S530.new n548 e546 h549 fr550
      refine ⟨_, rfl, _, _, _, _, _, rfl, (S551.bM _ _ h_p_header), T.cl_PictureHeader, T.n_PictureHeader_store, rfl, _, rfl, _, _, (rp_mk_ints (S551.bM _ _ h_l_header_store)), (rp_mk_ints h549), rfl, rfl, G532, _, _, rfl, S551.sG, cW_call hw (fun v552 hw => ?_) (fun e he => hE e he _ S551.b0)⟩
      obtain ⟨g553, hw⟩ := cW_grd hw
      refine ⟨_, rfl, _, _, _, _, _, rfl, (S551.bM _ _ h_p_header), T.cl_PictureHeader, T.n_PictureHeader_kind, rfl, _, _, ([("I", AD.t_REF_COUNTS_0), ("P", AD.t_REF_COUNTS_1), ("B", AD.t_REF_COUNTS_2)] : List (Str × Addr)), _, rfl, rfl, T.kd_REF_COUNTS, (lookG_at (T.th_REF_COUNTS _ g553)), _, rfl, _, _, _, _, _, rfl, (S551.bM _ _ h_p_header), T.cl_PictureHeader, T.n_PictureHeader_refs, rfl, _, _, rfl, (SqL.of (S551.bM _ _ h_l_header_refs)), _, rfl, _, _, ((dictG ([("I", [0]), ("P", [1, 2]), ("B", [2])] : List (Str × List Int)) (header'.kind)) : List Int), rfl, rfl, (.inr ((T.tt_REF_COUNTS _ g553) _)), rfl, rfl, G532, _, _, rfl, S551.sG, cW_call hw (fun v554 hw => ?_) (fun e he => hE e he _ S551.b0)⟩
      have hw := cW_ok hw
      exact hK0 _ hw _ S551.b0

abbrev N_PictureHeader___init__ : List Str := ["self", "settings", "number", "kind", "level", "store", "refs", "weight", "layer", "shown", "edge"]
theorem sc_PictureHeader___init__ : FnScope N_PictureHeader___init__ ["self", "settings", "number", "kind", "level", "store", "refs", "weight", "layer", "shown", "edge"] (defScope s_PictureHeader___init__) := ⟨rfl, rfl, rfl, by decide +kernel, rfl, by decide +kernel, by decide +kernel⟩
theorem ok_PictureHeader___init__ (D : InitX K mg AD.c_PictureHeader "PictureHeader" "PictureHeader.__init__" s_PictureHeader___init__ ["self", "settings", "number", "kind", "level", "store", "refs", "weight", "layer", "shown", "edge"] (pats_PictureHeader___init__ AD)) (T : Txt w K mg AD) (c__check_numbers : CalX P w K mg base 2 "_check_numbers" (sp__check_numbers K AD) pats__check_numbers) (c__check_slots : CalX P w K mg base 2 "_check_slots" (sp__check_slots K AD) pats__check_slots) : MakX P w K mg base 3 "PictureHeader" AD.c_PictureHeader (sp_PictureHeader___init__ K AD) (pats_PictureHeader___init__ AD) := by
  refine D.ok sc_PictureHeader___init__ (fun vs H Q E h => ?_) (fun f cdv A_ outer s H vs Q E hr h => ?_)
  · obtain ⟨G, p_self, dx_self, p_settings, p_settings_fmt, dx_settings, dx_settings_fmt, settings', number', kind', level', v_store, store', v_refs, refs', weight', layer', shown', edge', rfl, _⟩ := h
    rfl
  · obtain ⟨G, p_self, dx_self, p_settings, p_settings_fmt, dx_settings, dx_settings_fmt, settings', number', kind', level', v_store, store', v_refs, refs', weight', layer', shown', edge', rfl, sG, gM, h_self, h_p_settings, h_p_settings_fmt, r_store, r_refs, hw⟩ := h
    refine ⟨_, (pss_cons (ps_fld (pv 0) (pv 2) rfl)
      (pss_cons (ps_fld (pv 0) (pv 3) rfl)
      (pss_cons (ps_fld (pv 0) (pv 4) rfl)
      (pss_cons (ps_fld (pv 0) (pe_callTy (call_listSI (K := K)) (by rfl) T.b_list (by decide +kernel) (pa_cons (pv 5) pa_nil)) rfl)
      (pss_cons (ps_fld (pv 0) (pe_callTy (call_listSI (K := K)) (by rfl) T.b_list (by decide +kernel) (pa_cons (pv 6) pa_nil)) rfl)
      (pss_cons (ps_fld (pv 0) (pv 7) rfl)
      (pss_cons (ps_fld (pv 0) (pv 8) rfl)
      (pss_cons (ps_fld (pv 0) (pv 9) rfl)
      (pss_cons (ps_fld (pv 0) (pv 10) rfl)
      (pss_cons (ps_expr (vx_callX c__check_numbers pat__check_numbers_0 (.head _) hr (by decide) (takes_of rfl rfl rfl rfl) rfl (pa_cons (pv 1) (pa_cons (pv 0) pa_nil)) pk_nil))
      (pss_one (ps_expr (vx_callX c__check_slots pat__check_slots_0 (.head _) hr (by decide) (takes_of rfl rfl rfl rfl) rfl (pa_cons (pv 1) (pa_cons (pv 0) pa_nil)) pk_nil))))))))))))), ?_⟩
    obtain ⟨KK, EE, hK0, hE, hw⟩ := cW_gen hw
    have S0 := Sep.startM (M := [p_self]) sG (all_cons (some_ne h_self) all_nil) gM
    unfold F_PictureHeader___init__ at hw
    refine ⟨_, rfl, _, rfl, _, _, _, _, rfl, h_self, T.cl_PictureHeader, T.n_PictureHeader_number, (by show 0 < 1000; decide), ?_⟩
    generalize g555 : upd H p_self _ = H556
    obtain ⟨x557, h558⟩ := gen_mut g555
    have h559 : H556 p_self = some (.ins AD.c_PictureHeader dx_self [("number", V.int (number'))]) := h558
    have S560 := S0.mut1 x557 (.head _) h559
    refine ⟨_, rfl, _, rfl, _, _, _, _, rfl, h559, T.cl_PictureHeader, T.n_PictureHeader_kind, (by show 1 < 1000; decide), ?_⟩
    generalize g561 : upd H556 p_self _ = H562
    obtain ⟨x563, h564⟩ := gen_mut g561
    have h565 : H562 p_self = some (.ins AD.c_PictureHeader dx_self [("number", V.int (number')), ("kind", V.str (kind'))]) := h564
    have S566 := S560.mut1 x563 (.head _) h565
    refine ⟨_, rfl, _, rfl, _, _, _, _, rfl, h565, T.cl_PictureHeader, T.n_PictureHeader_level, (by show 2 < 1000; decide), ?_⟩
    generalize g567 : upd H562 p_self _ = H568
    obtain ⟨x569, h570⟩ := gen_mut g567
    have h571 : H568 p_self = some (.ins AD.c_PictureHeader dx_self [("number", V.int (number')), ("kind", V.str (kind')), ("level", V.int (level'))]) := h570
    have S572 := S566.mut1 x569 (.head _) h571
    refine ⟨_, rfl, _, _, rfl, (SeqI.mono S572.bM r_store), fun p573 n574 => ?_⟩
    generalize g575 : upd H568 p573 _ = H576
    obtain ⟨e577, h578⟩ := gen_new n574 g575
    have h579 : H576 p573 = some (.lst ((store' : (List Int)).map V.int)) := h578
    have fr580 := S572.free n574
    have S581 := S572.new n574 e577 h579 fr580
    have h582 := (e577 _ _ h571)
    refine ⟨_, rfl, _, _, _, _, rfl, h582, T.cl_PictureHeader, T.n_PictureHeader_store, (by show 3 < 1000; decide), ?_⟩
    generalize g583 : upd H576 p_self _ = H584
    obtain ⟨x585, h586⟩ := gen_mut g583
    have h587 : H584 p_self = some (.ins AD.c_PictureHeader dx_self [("number", V.int (number')), ("kind", V.str (kind')), ("level", V.int (level')), ("store", V.ref p573)]) := h586
    have S588 := S581.mut1 x585 (.tail _ (.head _)) h587
    refine ⟨_, rfl, _, _, rfl, (SeqI.mono S588.bM r_refs), fun p589 n590 => ?_⟩
    generalize g591 : upd H584 p589 _ = H592
    obtain ⟨e593, h594⟩ := gen_new n590 g591
    have h595 : H592 p589 = some (.lst ((refs' : (List Int)).map V.int)) := h594
    have fr596 := S588.free n590
    have S597 := S588.new n590 e593 h595 fr596
    have h598 := (e593 _ _ h587)
    refine ⟨_, rfl, _, _, _, _, rfl, h598, T.cl_PictureHeader, T.n_PictureHeader_refs, (by show 4 < 1000; decide), ?_⟩
    generalize g599 : upd H592 p_self _ = H600
    obtain ⟨x601, h602⟩ := gen_mut g599
    have h603 : H600 p_self = some (.ins AD.c_PictureHeader dx_self [("number", V.int (number')), ("kind", V.str (kind')), ("level", V.int (level')), ("store", V.ref p573), ("refs", V.ref p589)]) := h602
    have S604 := S597.mut1 x601 (.tail _ (.tail _ (.head _))) h603
    refine ⟨_, rfl, _, rfl, _, _, _, _, rfl, h603, T.cl_PictureHeader, T.n_PictureHeader_weight, (by show 5 < 1000; decide), ?_⟩
    generalize g605 : upd H600 p_self _ = H606
    obtain ⟨x607, h608⟩ := gen_mut g605
    have h609 : H606 p_self = some (.ins AD.c_PictureHeader dx_self [("number", V.int (number')), ("kind", V.str (kind')), ("level", V.int (level')), ("store", V.ref p573), ("refs", V.ref p589), ("weight", V.int (weight'))]) := h608
    have S610 := S604.mut1 x607 (.tail _ (.tail _ (.head _))) h609
    refine ⟨_, rfl, _, rfl, _, _, _, _, rfl, h609, T.cl_PictureHeader, T.n_PictureHeader_layer, (by show 6 < 1000; decide), ?_⟩
    generalize g611 : upd H606 p_self _ = H612
    obtain ⟨x613, h614⟩ := gen_mut g611
    have h615 : H612 p_self = some (.ins AD.c_PictureHeader dx_self [("number", V.int (number')), ("kind", V.str (kind')), ("level", V.int (level')), ("store", V.ref p573), ("refs", V.ref p589), ("weight", V.int (weight')), ("layer", V.int (layer'))]) := h614
    have S616 := S610.mut1 x613 (.tail _ (.tail _ (.head _))) h615
    refine ⟨_, rfl, _, rfl, _, _, _, _, rfl, h615, T.cl_PictureHeader, T.n_PictureHeader_shown, (by show 7 < 1000; decide), ?_⟩
    generalize g617 : upd H612 p_self _ = H618
    obtain ⟨x619, h620⟩ := gen_mut g617
    have h621 : H618 p_self = some (.ins AD.c_PictureHeader dx_self [("number", V.int (number')), ("kind", V.str (kind')), ("level", V.int (level')), ("store", V.ref p573), ("refs", V.ref p589), ("weight", V.int (weight')), ("layer", V.int (layer')), ("shown", V.bl (shown'))]) := h620
    have S622 := S616.mut1 x619 (.tail _ (.tail _ (.head _))) h621
    refine ⟨_, rfl, _, rfl, _, _, _, _, rfl, h621, T.cl_PictureHeader, T.n_PictureHeader_edge, (by show 8 < 1000; decide), ?_⟩
    generalize g623 : upd H618 p_self _ = H624
    obtain ⟨x625, h626⟩ := gen_mut g623
    have h627 : H624 p_self = some (.ins AD.c_PictureHeader dx_self [("number", V.int (number')), ("kind", V.str (kind')), ("level", V.int (level')), ("store", V.ref p573), ("refs", V.ref p589), ("weight", V.int (weight')), ("layer", V.int (layer')), ("shown", V.bl (shown')), ("edge", V.int (edge'))]) := h626
    have S628 := S622.mut1 x625 (.tail _ (.tail _ (.head _))) h627
    have h629 := (x625 _ _ (x619 _ _ (x613 _ _ (x607 _ _ (x601 _ _ (e593 _ _ (x585 _ _ h579 (ne_of_none h571 n574).symm)) (ne_of_none h571 n574).symm) (ne_of_none h571 n574).symm) (ne_of_none h571 n574).symm) (ne_of_none h571 n574).symm) (ne_of_none h571 n574).symm)
    have h630 := (x625 _ _ (x619 _ _ (x613 _ _ (x607 _ _ (x601 _ _ h595 (ne_of_none h587 n590).symm) (ne_of_none h587 n590).symm) (ne_of_none h587 n590).symm) (ne_of_none h587 n590).symm) (ne_of_none h587 n590).symm)
    refine ⟨_, rfl, _, rfl, rfl, rfl, G, _, _, _, _, settings', _, _, _, _, (⟨number', kind', level', store', refs', weight', layer', shown', edge'⟩ : St_PictureHeader), rfl, S628.sG, (hide_nil (S628.bM _ _ h_p_settings)), (hide_nil (S628.bM _ _ h_p_settings_fmt)), (hide_nil h627), (hide_nil h629), (hide_nil h630), cW_call hw (fun v631 hw H632 e633 => ?_) (fun e he H2 e2 => hE e he H2 (fun b o h n => e2 _ _ ((sameX_of S628.base) b o h n)))⟩
    have S634 := S628.same e633
    have h635 := (e633 _ _ h627)
    have h636 := (e633 _ _ h629)
    have h637 := (e633 _ _ h630)
    refine ⟨_, rfl, _, rfl, rfl, rfl, G, _, _, _, _, settings', _, _, _, _, (⟨number', kind', level', store', refs', weight', layer', shown', edge'⟩ : St_PictureHeader), rfl, S634.sG, (hide_nil (S634.bM _ _ h_p_settings)), (hide_nil (S634.bM _ _ h_p_settings_fmt)), (hide_nil h635), (hide_nil h636), (hide_nil h637), cW_call hw (fun v638 hw H639 e640 => ?_) (fun e he H2 e2 => hE e he H2 (fun b o h n => e2 _ _ ((sameX_of S634.base) b o h n)))⟩
    have S641 := S634.same e640
    have h642 := (e640 _ _ h635)
    have h643 := (e640 _ _ h636)
    have h644 := (e640 _ _ h637)
    have hw := cW_ok hw
    exact hK0 _ hw _ _ _ (sameX_of S641.base) fr580 fr596 (ne_of_none (x585 _ _ h579 (ne_of_none h571 n574).symm) n590) h642 h643 h644

abbrev N_MotionGrid___init__ : List Str := ["self", "columns", "rows", "_"]
theorem sc_MotionGrid___init__ : FnScope N_MotionGrid___init__ ["self", "columns", "rows"] (defScope s_MotionGrid___init__) := ⟨rfl, rfl, rfl, by decide +kernel, rfl, by decide +kernel, by decide +kernel⟩
theorem ok_MotionGrid___init__ (D : InitX K mg AD.c_MotionGrid "MotionGrid" "MotionGrid.__init__" s_MotionGrid___init__ ["self", "columns", "rows"] pats_MotionGrid___init__) (T : Txt w K mg AD)  : MakX P w K mg base 1 "MotionGrid" AD.c_MotionGrid (sp_MotionGrid___init__ K AD) pats_MotionGrid___init__ := by
  refine D.ok sc_MotionGrid___init__ (fun vs H Q E h => ?_) (fun f cdv A_ outer s H vs Q E hr h => ?_)
  · obtain ⟨G, p_self, dx_self, columns', rows', rfl, _⟩ := h
    rfl
  · obtain ⟨G, p_self, dx_self, columns', rows', rfl, sG, gM, h_self, hw⟩ := h
    refine ⟨_, (pss_cons (ps_fld (pv 0) (pe_op op_mul pe_int (pv 1)) rfl)
      (pss_cons (ps_fld (pv 0) (pe_op op_mul pe_int (pv 2)) rfl)
      (pss_one (ps_fld (pv 0) (pe_lc (own := [("_", 3)]) (g := gName 3) (by rfl) sc_MotionGrid___init__.nd (pi_range1 rfl T.b_range (pa_cons (fldK (K := K) (pv 0)) pa_nil)) (blkOk_by (own := [("_", 3)]) (N := N_MotionGrid___init__) (sc := defScope s_MotionGrid___init__) (by decide +kernel)) (fun _ _ _ _ _ => (pg_name (i := 3) sc_MotionGrid___init__.nd rfl (Or.inl rfl))) (fun _ _ _ _ _ => pts_nil) (fun _ _ _ _ _ => (pe_op op_rep (pe_lst (pa_cons pe_non pa_nil)) (fldK (K := K) (pv 0))))) rfl)))), ?_⟩
    obtain ⟨KK, EE, hK0, hE, hw⟩ := cW_gen hw
    have S0 := Sep.startM (M := [p_self]) sG (all_cons (some_ne h_self) all_nil) gM
    unfold F_MotionGrid___init__ at hw
    have hw := cW_bnd hw
    refine ⟨_, rfl, _, _, rfl, rfl, (.inl ⟨by decide, by decide⟩), _, rfl, _, _, _, _, rfl, h_self, T.cl_MotionGrid, T.n_MotionGrid__width, (by show 0 < 1000; decide), ?_⟩
    generalize g646 : upd H p_self _ = H647
    obtain ⟨x648, h649⟩ := gen_mut g646
    have h650 : H647 p_self = some (.ins AD.c_MotionGrid dx_self [("_width", V.int ((2 * columns')))]) := h649
    have S651 := S0.mut1 x648 (.head _) h650
    have hw := cW_bnd hw
    refine ⟨_, rfl, _, _, rfl, rfl, (.inl ⟨by decide, by decide⟩), _, rfl, _, _, _, _, rfl, h650, T.cl_MotionGrid, T.n_MotionGrid__height, (by show 1 < 1000; decide), ?_⟩
    generalize g653 : upd H647 p_self _ = H654
    obtain ⟨x655, h656⟩ := gen_mut g653
    have h657 : H654 p_self = some (.ins AD.c_MotionGrid dx_self [("_width", V.int ((2 * columns'))), ("_height", V.int ((2 * rows')))]) := h656
    have S658 := S651.mut1 x655 (.head _) h657
    obtain ⟨g659, hw⟩ := cW_grd hw
    obtain ⟨K663, hK664, hw⟩ := cW_push hw
    refine ⟨_, rfl, _, _, _, _, _, rfl, h657, T.cl_MotionGrid, T.n_MotionGrid__height, rfl, _, rfl, g659.1, g659.2, fun D665 n666 => lc_range (lo := 0) (n := Int.toNat ((2 * rows'))) (fun i H' => ∃ (G' : Hp) (acc668 : (List (List PyData))) (vs669 : List V) (L667 : List Addr), Same G G' ∧ Sep [p_self] H G G' H' (D665 :: (L667 ++ (p_self :: []))) ∧ H' p_self = some (.ins AD.c_MotionGrid dx_self [("_width", V.int ((2 * columns'))), ("_height", V.int ((2 * rows')))]) ∧ H' D665 = some (.lst vs669) ∧ OwAll G' H' L667 vs669 ((acc668 : (List (List PyData))).map (oL (oF encD))) ∧ (∀ b ∈ L667, H654 b = none) ∧ (∀ b ∈ L667, b ≠ D665) ∧ Same H654 H' ∧ cW (mapA (List.drop i (rng (0) (Int.toNat ((2 * rows'))))) acc668 (fun x => noEr (F_MotionGrid___init___c1 ((2 * columns')) ((2 * rows')) x))) K663 EE) ?_ ?_ ?_⟩
    · generalize g670 : upd H654 D665 _ = H671
      obtain ⟨e672, h673⟩ := gen_new n666 g670
      have fr674 := S658.free n666
      have S675 := S658.new n666 e672 h673 fr674
      have h676 := (e672 _ _ h657)
      exact ⟨_, [], [], [], Same.refl _, (S675.sub (all_cons (.head _) (all_app (L := []) all_nil (all_cons (.tail _ (.head _)) all_nil)))), h676, h673, OwAll.nil, all_nil, all_nil, e672, hw⟩
    · intro i H677 hi hw
      obtain ⟨G680, acc682, vs683, L685, eG681, S678, h689, h679, d684, nb686, nd687, eo688, hw⟩ := hw
      obtain ⟨z690, hw⟩ := cW_mapA (rng_get hi) hw
      generalize (0 + (i : Int)) = x691 at hw ⊢
      have hw := cW_noEr hw
      have hw : cW (F_MotionGrid___init___c1 ((2 * columns')) ((2 * rows')) (x691)) _ (fun _ => False) := hw
      unfold F_MotionGrid___init___c1 at hw
      refine ⟨rfl, ?_⟩
      refine tyes_go ?_
      have r693 : Rp G680 (V.non) (encD (encN (()))) := .non
      refine ⟨(by show 1 ≤ sizeLine; decide), fun p694 n695 => ?_⟩
      generalize g696 : upd H677 p694 _ = H697
      obtain ⟨e698, h699⟩ := gen_new n695 g696
      have h700 : H697 p694 = some (.lst ([(V.non)])) := h699
      have fr701 := S678.free n695
      have S702 := S678.new n695 e698 h700 fr701
      have d703 : RpAll G680 ([(V.non)]) (([(encN (()))] : (List PyData)).map encD) := (RpAll.cons r693 RpAll.nil)
      have h704 := (e698 _ _ h689)
      obtain ⟨g705, hw⟩ := cW_grd hw
      refine ⟨_, rfl, _, _, _, _, _, rfl, h704, T.cl_MotionGrid, T.n_MotionGrid__width, rfl, _, _, _, rfl, rfl, h700, g705.1, g705.2.1, (rep_len d703 g705.2.2), fun p706 n707 => ?_⟩
      generalize g708 : upd H697 p706 _ = H709
      obtain ⟨e710, h711⟩ := gen_new n707 g708
      have h712 : H709 p706 = some (.lst ((List.replicate (Int.toNat ((2 * columns'))) ([(V.non)])).flatten)) := h711
      have fr713 := S702.free n707
      have S714 := S702.new n707 e710 h712 fr713
      have d715 : RpAll G680 ((List.replicate (Int.toNat ((2 * columns'))) ([(V.non)])).flatten) ((repL ([(encN (()))]) ((2 * columns')) : (List PyData)).map encD) := rep_all ((2 * columns')) d703
      have w716 : OwAll G680 H709 L685 (vs683) ((acc682 : (List (List PyData))).map (oL (oF encD))) := (OwAll.mono (Same.refl _) (keeps_same e710) (OwAll.mono (Same.refl _) (keeps_same e698) d684))
      have h717 := (e710 _ _ (e698 _ _ h679))
      refine ⟨_, h717, (app_len (OwAll.rpA w716 (encO_L encO_F) S714.sG) z690), ?_⟩
      generalize g718 : upd H709 D665 _ = H719
      obtain ⟨x720, h721⟩ := gen_mut g718
      have S722 := S714.mut1 x720 (.tail _ (.tail _ (.head _))) h721
      have hw := cW_ok hw
      have h723 := (x720 _ _ (e710 _ _ h704) (ne_of_none h657 n666))
      exact ⟨_, (acc682 ++ [repL ([(encN (()))]) ((2 * columns'))]), _, (L685 ++ (p706 :: ([] : List Addr))), eG681, (S722.sub (all_cons (.tail _ (.tail _ (.head _))) (all_app (all_app ((fun b hb => (.tail _ (.tail _ (.tail _ (List.mem_append_left _ hb))))) : ∀ b ∈ L685, b ∈ (p706 :: (p694 :: (D665 :: (L685 ++ (p_self :: [])))))) (all_cons (.head _) all_nil)) (all_cons (.tail _ (.tail _ (.tail _ (List.mem_append_right _ (.head _))))) all_nil)))), h723, h721, (OwAll.mono (Same.refl _) (keeps_mut x720 ((all_app nd687 (all_cons (ne_of_none (e698 _ _ h679) n707).symm all_nil)) : ∀ b ∈ (L685 ++ (p706 :: ([] : List Addr))), b ≠ D665)) (OwAll.snocM w716 (Ow.list h712 (OwAll.frzs d715) all_nil) ((fun b hb => (nm_cons ((there_ne (fun b_ hb_ => (S702.ow b_ (((fun b hb => (.tail _ (.tail _ (List.mem_append_left _ hb)))) : ∀ b ∈ L685, b ∈ (p694 :: (D665 :: (L685 ++ (p_self :: []))))) b_ hb_)).2.1) n707) b hb) nm_nil)) : ∀ b ∈ L685, b ∉ (p706 :: ([] : List Addr))))), ((all_app nb686 (all_cons (none_of_same (Same.trans eo688 e698) n707) all_nil)) : ∀ b ∈ (L685 ++ (p706 :: ([] : List Addr))), H654 b = none), ((all_app nd687 (all_cons (ne_of_none (e698 _ _ h679) n707).symm all_nil)) : ∀ b ∈ (L685 ++ (p706 :: ([] : List Addr))), b ≠ D665), (same_mut (Same.trans (Same.trans eo688 e698) e710) x720 n666), hw⟩
    intro H724 hw
    obtain ⟨G727, acc729, vs730, L732, eG728, S725, h736, h726, d731, nb733, nd734, eo735, hw⟩ := hw
    have hw := hK664 _ (cW_mapA0 (rng_len _ _).symm hw)
    have fr737 := S658.free n666
    refine ⟨_, rfl, _, _, _, _, rfl, h736, T.cl_MotionGrid, T.n_MotionGrid__lines, (by show 2 < 1000; decide), ?_⟩
    generalize g738 : upd H724 p_self _ = H739
    obtain ⟨x740, h741⟩ := gen_mut g738
    have h742 : H739 p_self = some (.ins AD.c_MotionGrid dx_self [("_width", V.int ((2 * columns'))), ("_height", V.int ((2 * rows'))), ("_lines", V.ref D665)]) := h741
    have S743 := S725.mut1 x740 (.tail _ (List.mem_append_right _ (.head _))) h742
    have h744 := (x740 _ _ h726 (ne_of_none h657 n666).symm)
    have w745 : OwAll G727 H739 L732 (vs730) ((acc729 : (List (List PyData))).map (oL (oF encD))) := (OwAll.mono (Same.refl _) (keeps_mut x740 ((new_ne2 nb733 (S658.ow _ (.head _)).2.1) : ∀ b ∈ L732, b ≠ p_self)) d731)
    have hw := cW_ok hw
    exact hK0 _ hw _ _ _ _ L732 (sameX_of S743.base) S743.g0 S743.sG S743.gn fr737 (S743.ow _ (.head _)).1 ((fun b hb => Sep.h0 S743 (((fun b hb => (.tail _ (List.mem_append_left _ hb))) : ∀ b ∈ L732, b ∈ (D665 :: (L732 ++ (p_self :: [])))) b hb) ((fun b hb => (nm_cons ((new_ne2 nb733 (S658.ow _ (.head _)).2.1) b hb) nm_nil)) b hb)) : ∀ b ∈ L732, H b = none) ((fun b hb => (S743.ow b (((fun b hb => (.tail _ (List.mem_append_left _ hb))) : ∀ b ∈ L732, b ∈ (D665 :: (L732 ++ (p_self :: [])))) b hb)).1) : ∀ b ∈ L732, G727 b = none) (nd734 : ∀ b ∈ L732, b ≠ D665) h742 h744 w745

abbrev N_SymbolReader___init__ : List Str := ["self", "decoder"]
theorem sc_SymbolReader___init__ : FnScope N_SymbolReader___init__ ["self", "decoder"] (defScope s_SymbolReader___init__) := ⟨rfl, rfl, rfl, by decide +kernel, rfl, by decide +kernel, by decide +kernel⟩
theorem ok_SymbolReader___init__ (D : InitX K mg AD.c_SymbolReader "SymbolReader" "SymbolReader.__init__" s_SymbolReader___init__ ["self", "decoder"] pats_SymbolReader___init__) (T : Txt w K mg AD)  : MakX P w K mg base 1 "SymbolReader" AD.c_SymbolReader (sp_SymbolReader___init__ K AD) pats_SymbolReader___init__ := by
  refine D.ok sc_SymbolReader___init__ (fun vs H Q E h => ?_) (fun f cdv A_ outer s H vs Q E hr h => ?_)
  · obtain ⟨G, p_self, dx_self, p_decoder, l_decoder_probs, l_decoder_octs, dx_decoder, decoder', rfl, _⟩ := h
    rfl
  · obtain ⟨G, p_self, dx_self, p_decoder, l_decoder_probs, l_decoder_octs, dx_decoder, decoder', rfl, sG, gM, h_self, h_p_decoder, h_l_decoder_probs, h_l_decoder_octs, hw⟩ := h
    refine ⟨_, (pss_one (ps_fld (pv 0) (pv 1) rfl)), ?_⟩
    obtain ⟨KK, EE, hK0, hE, hw⟩ := cW_gen hw
    have S0 := Sep.startM (M := [p_self]) sG (all_cons (some_ne h_self) all_nil) gM
    unfold F_SymbolReader___init__ at hw
    refine ⟨_, rfl, _, rfl, _, _, _, _, rfl, h_self, T.cl_SymbolReader, T.n_SymbolReader__decoder, (by show 0 < 1000; decide), ?_⟩
    generalize g746 : upd H p_self _ = H747
    obtain ⟨x748, h749⟩ := gen_mut g746
    have h750 : H747 p_self = some (.ins AD.c_SymbolReader dx_self [("_decoder", V.ref p_decoder)]) := h749
    have S751 := S0.mut1 x748 (.head _) h750
    have hw := cW_ok hw
    exact hK0 _ hw _ (sameX_of S751.base) h750

abbrev N__law_cell : List Str := ["script", "k"]
theorem sc__law_cell : FnScope N__law_cell ["script", "k"] (defScope s__law_cell) := ⟨rfl, rfl, rfl, by decide +kernel, rfl, by decide +kernel, by decide +kernel⟩
theorem ok__law_cell (D : DefX K mg "_law_cell" s__law_cell ["script", "k"] pats__law_cell) (T : Txt w K mg AD)  : CalX P w K mg base 1 "_law_cell" (sp__law_cell K AD) pats__law_cell := by
  refine D.ok sc__law_cell (fun vs H Q E h => ?_) (fun f cdv A_ outer s H vs Q E hr h => ?_)
  · obtain ⟨G, a_script, script', k', rfl, _⟩ := h
    rfl
  · obtain ⟨G, a_script, script', k', rfl, sG, q_script, hw⟩ := h
    refine ⟨_, (pss_cons (ps_if (pt_cmp (pc_lt (pv 1) (pe_callB (call_lenLiK (K := K)) (by rfl) T.b_len (by decide +kernel) (pa_cons (pv 0) pa_nil)))) (pss_one (ps_ret (pe_callTy call_int1 (by rfl) T.b_int (by decide +kernel) (pa_cons (pe_ix (ix_listK (K := K)) (pv 0) (pv 1) (fun _ _ => rfl)) pa_nil)))) pss_nil)
      (pss_one (ps_ret pe_int))), ?_⟩
    obtain ⟨KK, EE, hK0, hE, hw⟩ := cW_gen hw
    have S0 := Sep.startG sG
    unfold F__law_cell at hw
    refine ⟨_, rfl, _, rfl, _, _, rfl, (S0.b0.seq q_script), _, _, rfl, rfl, _, rfl, ?_⟩
    refine iteD (fun c752 => ?_) (fun c752 => ?_)
    · have hw := cW_pos c752 hw
      obtain ⟨g753, hw⟩ := cW_grd hw
      refine ⟨_, rfl, _, rfl, _, _, _, _, rfl, rfl, (S0.b0.seq q_script), (atI_map g753), .inl ⟨_, rfl, ?_⟩⟩
      have hw := cW_ok hw
      exact hK0 _ hw
    · have hw := cW_neg c752 hw
      have hw := cW_ok hw
      exact hK0 _ hw

abbrev N_Format___init__ : List Str := ["self", "width", "height", "depth", "chroma"]
theorem sc_Format___init__ : FnScope N_Format___init__ ["self", "width", "height", "depth", "chroma"] (defScope s_Format___init__) := ⟨rfl, rfl, rfl, by decide +kernel, rfl, by decide +kernel, by decide +kernel⟩
theorem ok_Format___init__ (D : InitX K mg AD.c_Format "Format" "Format.__init__" s_Format___init__ ["self", "width", "height", "depth", "chroma"] pats_Format___init__) (T : Txt w K mg AD)  : MakX P w K mg base 1 "Format" AD.c_Format (sp_Format___init__ K AD) pats_Format___init__ := by
  refine D.ok sc_Format___init__ (fun vs H Q E h => ?_) (fun f cdv A_ outer s H vs Q E hr h => ?_)
  · obtain ⟨G, p_self, dx_self, width', height', depth', chroma', rfl, _⟩ := h
    rfl
  · obtain ⟨G, p_self, dx_self, width', height', depth', chroma', rfl, sG, gM, h_self, hw⟩ := h
    refine ⟨_, (pss_cons (ps_if (pt_not (PW.pt (pw_and (pt_chain op_le op_le pe_int (pv 1) pe_int) (pw_and1 (pt_chain op_le op_le pe_int (pv 2) pe_int))))) (pss_one (ps_raise rfl (takes_of rfl rfl rfl rfl) (pmk_own PySem.F.excBase_ValueError T.xx_BadFormat T.xg_BadFormat T.xk_BadFormat (raises_own T.xb_BadFormat T.xt_BadFormat) rfl))) pss_nil)
      (pss_cons (ps_if (pt_not (pt_chain op_le op_le pe_int (pv 3) pe_int)) (pss_one (ps_raise rfl (takes_of rfl rfl rfl rfl) (pmk_own PySem.F.excBase_ValueError T.xx_BadFormat T.xg_BadFormat T.xk_BadFormat (raises_own T.xb_BadFormat T.xt_BadFormat) rfl))) pss_nil)
      (pss_cons (ps_if (pt_not (pt_chain op_le op_le pe_int (pv 4) pe_int)) (pss_one (ps_raise rfl (takes_of rfl rfl rfl rfl) (pmk_own PySem.F.excBase_ValueError T.xx_BadFormat T.xg_BadFormat T.xk_BadFormat (raises_own T.xb_BadFormat T.xt_BadFormat) rfl))) pss_nil)
      (pss_cons (ps_fld (pv 0) (pv 1) rfl)
      (pss_cons (ps_fld (pv 0) (pv 2) rfl)
      (pss_cons (ps_fld (pv 0) (pv 3) rfl)
      (pss_one (ps_fld (pv 0) (pv 4) rfl)))))))), ?_⟩
    obtain ⟨KK, EE, hK0, hE, hw⟩ := cW_gen hw
    have S0 := Sep.startM (M := [p_self]) sG (all_cons (some_ne h_self) all_nil) gM
    unfold F_Format___init__ at hw
    refine ⟨_, rfl, _, _, rfl, rfl, _, rfl, ?_⟩
    refine iteD (fun c754 => ?_) (fun c754 => ?_)
    · have hw := cW_pos c754 hw
      refine ⟨_, _, rfl, rfl, _, rfl, ?_⟩
      refine iteD (fun c755 => ?_) (fun c755 => ?_)
      · have hw := cW_pos c755 hw
        refine ⟨_, rfl, _, _, rfl, rfl, _, rfl, ?_⟩
        refine iteD (fun c756 => ?_) (fun c756 => ?_)
        · have hw := cW_pos c756 hw
          refine ⟨_, _, rfl, rfl, _, rfl, ?_⟩
          refine iteN (fun c757 => ?_) (fun c757 => ?_)
          · have hw := cW_neg c757 hw
            exact hE 1 (cW_er hw) _ (sameX_of S0.base)
          · have hw := cW_pos c757 hw
            refine ⟨_, rfl, _, _, rfl, rfl, _, rfl, ?_⟩
            refine iteD (fun c758 => ?_) (fun c758 => ?_)
            · have hw := cW_pos c758 hw
              refine ⟨_, _, rfl, rfl, _, rfl, ?_⟩
              refine iteN (fun c759 => ?_) (fun c759 => ?_)
              · have hw := cW_neg c759 hw
                exact hE 1 (cW_er hw) _ (sameX_of S0.base)
              · have hw := cW_pos c759 hw
                refine ⟨_, rfl, _, _, rfl, rfl, _, rfl, ?_⟩
                refine iteD (fun c760 => ?_) (fun c760 => ?_)
                · have hw := cW_pos c760 hw
                  refine ⟨_, _, rfl, rfl, _, rfl, ?_⟩
                  refine iteN (fun c761 => ?_) (fun c761 => ?_)
                  · have hw := cW_neg c761 hw
                    exact hE 1 (cW_er hw) _ (sameX_of S0.base)
                  · have hw := cW_pos c761 hw
                    refine ⟨_, rfl, _, rfl, _, _, _, _, rfl, h_self, T.cl_Format, T.n_Format_width, (by show 0 < 1000; decide), ?_⟩
                    generalize g762 : upd H p_self _ = H763
                    obtain ⟨x764, h765⟩ := gen_mut g762
                    have h766 : H763 p_self = some (.ins AD.c_Format dx_self [("width", V.int (width'))]) := h765
                    have S767 := S0.mut1 x764 (.head _) h766
                    refine ⟨_, rfl, _, rfl, _, _, _, _, rfl, h766, T.cl_Format, T.n_Format_height, (by show 1 < 1000; decide), ?_⟩
                    generalize g768 : upd H763 p_self _ = H769
                    obtain ⟨x770, h771⟩ := gen_mut g768
                    have h772 : H769 p_self = some (.ins AD.c_Format dx_self [("width", V.int (width')), ("height", V.int (height'))]) := h771
                    have S773 := S767.mut1 x770 (.head _) h772
                    refine ⟨_, rfl, _, rfl, _, _, _, _, rfl, h772, T.cl_Format, T.n_Format_depth, (by show 2 < 1000; decide), ?_⟩
                    generalize g774 : upd H769 p_self _ = H775
                    obtain ⟨x776, h777⟩ := gen_mut g774
                    have h778 : H775 p_self = some (.ins AD.c_Format dx_self [("width", V.int (width')), ("height", V.int (height')), ("depth", V.int (depth'))]) := h777
                    have S779 := S773.mut1 x776 (.head _) h778
                    refine ⟨_, rfl, _, rfl, _, _, _, _, rfl, h778, T.cl_Format, T.n_Format_chroma, (by show 3 < 1000; decide), ?_⟩
                    generalize g780 : upd H775 p_self _ = H781
                    obtain ⟨x782, h783⟩ := gen_mut g780
                    have h784 : H781 p_self = some (.ins AD.c_Format dx_self [("width", V.int (width')), ("height", V.int (height')), ("depth", V.int (depth')), ("chroma", V.int (chroma'))]) := h783
                    have S785 := S779.mut1 x782 (.head _) h784
                    have hw := cW_ok hw
                    exact hK0 _ hw _ (sameX_of S785.base) h784
                · have hw := cW_neg c760 hw
                  refine ⟨_, rfl, ?_⟩
                  refine iteT ?_
                  exact hE 1 (cW_er hw) _ (sameX_of S0.base)
            · have hw := cW_neg c758 hw
              refine ⟨_, rfl, ?_⟩
              refine iteT ?_
              exact hE 1 (cW_er hw) _ (sameX_of S0.base)
        · have hw := cW_neg c756 hw
          refine ⟨_, rfl, ?_⟩
          refine iteT ?_
          exact hE 1 (cW_er hw) _ (sameX_of S0.base)
      · have hw := cW_neg c755 hw
        refine iteT ?_
        exact hE 1 (cW_er hw) _ (sameX_of S0.base)
    · have hw := cW_neg c754 hw
      refine ⟨_, rfl, ?_⟩
      refine iteF ?_
      refine iteT ?_
      exact hE 1 (cW_er hw) _ (sameX_of S0.base)

abbrev N_Decoder___init__ : List Str := ["self", "octets", "_"]
theorem sc_Decoder___init__ : FnScope N_Decoder___init__ ["self", "octets"] (defScope s_Decoder___init__) := ⟨rfl, rfl, rfl, by decide +kernel, rfl, by decide +kernel, by decide +kernel⟩
theorem ok_Decoder___init__ (D : InitX K mg AD.c_Decoder "Decoder" "Decoder.__init__" s_Decoder___init__ ["self", "octets"] pats_Decoder___init__) (T : Txt w K mg AD) (c_Decoder__shift : MetX P w K mg base 1 AD.c_Decoder "_shift" (sp_Decoder__shift K AD) pats_Decoder__shift) : MakX P w K mg base 2 "Decoder" AD.c_Decoder (sp_Decoder___init__ K AD) pats_Decoder___init__ := by
  refine D.ok sc_Decoder___init__ (fun vs H Q E h => ?_) (fun f cdv A_ outer s H vs Q E hr h => ?_)
  · obtain ⟨G, p_self, dx_self, a_octets, octets', rfl, _⟩ := h
    rfl
  · obtain ⟨G, p_self, dx_self, a_octets, octets', rfl, sG, gM, h_self, q_octets, hw⟩ := h
    refine ⟨_, (pss_cons (ps_fld (pv 0) (pe_op op_rep (pe_lst (pa_cons (C8.pe_gc rfl T.g_EVEN) pa_nil)) (C8.pe_gc rfl T.g_CONTEXTS_coder)) rfl)
      (pss_cons (ps_fld (pv 0) (pe_callTy (call_listLK (K := K)) (by rfl) T.b_list (by decide +kernel) (pa_cons (pv 1) pa_nil)) rfl)
      (pss_cons (ps_fld (pv 0) pe_int rfl)
      (pss_cons (ps_fld (pv 0) (pe_op op_sub (C8.pe_gc rfl T.g_WORD) pe_int) rfl)
      (pss_cons (ps_fld (pv 0) pe_int rfl)
      (pss_cons (ps_for (passes_of rfl) rfl (pi_range1 rfl T.b_range (pa_cons pe_int pa_nil)) (pg_name (i := 2) sc_Decoder___init__.nd rfl (Or.inl rfl)) (pss_one (ps_expr (vx_methX0 c_Decoder__shift pat_Decoder__shift_0 (.head _) hr (by decide) (takes_of rfl rfl rfl rfl) (pv 0)))))
      (pss_one (ps_fld (pv 0) (pe_callB (call_min2 rfl) (by rfl) T.b_min (by decide +kernel) (pa_cons (fldK (K := K) (pv 0)) (pa_cons (pe_op op_sub (C8.pe_gc rfl T.g_WORD) pe_int) pa_nil))) rfl)))))))), ?_⟩
    obtain ⟨KK, EE, hK0, hE, hw⟩ := cW_gen hw
    have S0 := Sep.startM (M := [p_self]) sG (all_cons (some_ne h_self) all_nil) gM
    unfold F_Decoder___init__ at hw
    refine ⟨(by show 1 ≤ sizeLine; decide), fun p786 n787 => ?_⟩
    generalize g788 : upd H p786 _ = H789
    obtain ⟨e790, h791⟩ := gen_new n787 g788
    have h792 : H789 p786 = some (.lst (([2048] : (List Int)).map V.int)) := h791
    have fr793 := S0.free n787
    have S794 := S0.new n787 e790 h792 fr793
    obtain ⟨g795, hw⟩ := cW_grd hw
    refine ⟨_, _, _, rfl, rfl, h792, g795.1, g795.2.1, (rep_lenM g795.2.2), fun p796 n797 => ?_⟩
    generalize g798 : upd H789 p796 _ = H799
    obtain ⟨e800, h801⟩ := gen_new n797 g798
    have h802 : H799 p796 = some (.lst ((repL ([2048]) (256) : (List Int)).map V.int)) := rep_map h801
    have fr803 := S794.free n797
    have S804 := S794.new n797 e800 h802 fr803
    have h805 := (e800 _ _ (e790 _ _ h_self))
    refine ⟨_, rfl, _, _, _, _, rfl, h805, T.cl_Decoder, T.n_Decoder__probabilities, (by show 0 < 1000; decide), ?_⟩
    generalize g806 : upd H799 p_self _ = H807
    obtain ⟨x808, h809⟩ := gen_mut g806
    have h810 : H807 p_self = some (.ins AD.c_Decoder dx_self [("_probabilities", V.ref p796)]) := h809
    have S811 := S804.mut1 x808 (.tail _ (.tail _ (.head _))) h810
    refine ⟨_, rfl, _, _, rfl, (SqL.of (S811.bM _ _ q_octets)), fun p812 n813 => ?_⟩
    generalize g814 : upd H807 p812 _ = H815
    obtain ⟨e816, h817⟩ := gen_new n813 g814
    have h818 : H815 p812 = some (.lst ((octets' : (List Int)).map V.int)) := h817
    have fr819 := S811.free n813
    have S820 := S811.new n813 e816 h818 fr819
    have h821 := (e816 _ _ h810)
    refine ⟨_, rfl, _, _, _, _, rfl, h821, T.cl_Decoder, T.n_Decoder__octets, (by show 1 < 1000; decide), ?_⟩
    generalize g822 : upd H815 p_self _ = H823
    obtain ⟨x824, h825⟩ := gen_mut g822
    have h826 : H823 p_self = some (.ins AD.c_Decoder dx_self [("_probabilities", V.ref p796), ("_octets", V.ref p812)]) := h825
    have S827 := S820.mut1 x824 (.tail _ (.tail _ (.tail _ (.head _)))) h826
    refine ⟨_, rfl, _, _, _, _, rfl, h826, T.cl_Decoder, T.n_Decoder__place, (by show 2 < 1000; decide), ?_⟩
    generalize g828 : upd H823 p_self _ = H829
    obtain ⟨x830, h831⟩ := gen_mut g828
    have h832 : H829 p_self = some (.ins AD.c_Decoder dx_self [("_probabilities", V.ref p796), ("_octets", V.ref p812), ("_place", V.int (0))]) := h831
    have S833 := S827.mut1 x830 (.tail _ (.tail _ (.tail _ (.head _)))) h832
    have hw := cW_bnd hw
    refine ⟨_, _, rfl, rfl, _, rfl, _, _, _, _, rfl, h832, T.cl_Decoder, T.n_Decoder__span, (by show 3 < 1000; decide), ?_⟩
    generalize g835 : upd H829 p_self _ = H836
    obtain ⟨x837, h838⟩ := gen_mut g835
    have h839 : H836 p_self = some (.ins AD.c_Decoder dx_self [("_probabilities", V.ref p796), ("_octets", V.ref p812), ("_place", V.int (0)), ("_span", V.int ((4294967296 - 1)))]) := h838
    have S840 := S833.mut1 x837 (.tail _ (.tail _ (.tail _ (.head _)))) h839
    refine ⟨_, rfl, _, _, _, _, rfl, h839, T.cl_Decoder, T.n_Decoder__value, (by show 4 < 1000; decide), ?_⟩
    generalize g841 : upd H836 p_self _ = H842
    obtain ⟨x843, h844⟩ := gen_mut g841
    have h845 : H842 p_self = some (.ins AD.c_Decoder dx_self [("_probabilities", V.ref p796), ("_octets", V.ref p812), ("_place", V.int (0)), ("_span", V.int ((4294967296 - 1))), ("_value", V.int (0))]) := h844
    have S846 := S840.mut1 x843 (.tail _ (.tail _ (.tail _ (.head _)))) h845
    obtain ⟨K847, hK848, hw⟩ := cW_push hw
    refine ⟨_, rfl, (by decide), (by decide), for_range (lo := 0) (n := Int.toNat (4)) (fun i σ H' => ∃ (self_849 : St_Decoder) (u850 : Option V) (G' : Hp), σ = [some (V.ref p_self), some (V.ref a_octets), u850] ∧ Same G G' ∧ Sep [p_self] H G G' H' [p_self, p796, p812] ∧ H' p_self = some (.ins AD.c_Decoder dx_self [("_probabilities", V.ref p796), ("_octets", V.ref p812), ("_place", V.int (self_849.place)), ("_span", V.int (self_849.span)), ("_value", V.int (self_849.value))]) ∧ H' p796 = some (.lst ((self_849.probs : (List Int)).map V.int)) ∧ H' p812 = some (.lst ((self_849.octs : (List Int)).map V.int)) ∧ cW (forS (List.drop i (rng (0) (Int.toNat (4)))) self_849 (fun s x => F_Decoder___init___b1  s x)) K847 EE) ?_ ?_ ?_⟩
    · have h851 := (x843 _ _ (x837 _ _ (x830 _ _ (x824 _ _ (e816 _ _ (x808 _ _ h802 (ne_of_none (e790 _ _ h_self) n797).symm)) (ne_of_none (e790 _ _ h_self) n797).symm) (ne_of_none (e790 _ _ h_self) n797).symm) (ne_of_none (e790 _ _ h_self) n797).symm) (ne_of_none (e790 _ _ h_self) n797).symm)
      have h852 := (x843 _ _ (x837 _ _ (x830 _ _ (x824 _ _ h818 (ne_of_none h810 n813).symm) (ne_of_none h810 n813).symm) (ne_of_none h810 n813).symm) (ne_of_none h810 n813).symm)
      exact ⟨((⟨repL ([2048]) (256), octets', 0, (4294967296 - 1), 0⟩ : St_Decoder)), _, _, rfl, (Same.refl _), (S846.sub (all_cons (.tail _ (.tail _ (.tail _ (.head _)))) (all_cons (.tail _ (.head _)) (all_cons (.head _) all_nil)))), h845, h851, h852, hw⟩
    · intro i σ H853 hi hw
      obtain ⟨self_849, u850, G858, rfl, eG859, S854, h855, h856, h857, hw⟩ := hw
      have hw := cW_forS (rng_get hi) hw
      generalize (0 + (i : Int)) = x860 at hw ⊢
      have hw : cW (F_Decoder___init___b1  (self_849) (x860)) _ EE := hw
      unfold F_Decoder___init___b1 at hw
      obtain ⟨K862, hK863, hw⟩ := cW_name hw
      refine ⟨_, rfl, _, _, _, rfl, h855, rfl, rfl, rfl, G858, _, _, _, _, self_849, rfl, S854.sG, (S854.gno (all_cons (.head _) (all_cons (.tail _ (.head _)) (all_cons (.tail _ (.tail _ (.head _))) all_nil)))), h855, h856, h857, (ne_of_none (x808 _ _ h802 (ne_of_none (e790 _ _ h_self) n797).symm) n813), cW_call hw (fun v865 hw H866 x867 h869 h870 h871  => ?_) (fun e he H2 e2 => hE e he H2 (fun b o h n => e2 _ _ ((sameX_of S854.base) b o h n)))⟩
      have S868 := S854.mut x867 (all_cons (.head _) (all_cons (.tail _ (.head _)) (all_cons (.tail _ (.tail _ (.head _))) all_nil))) (all_cons (some_ne h869) (all_cons (some_ne h870) (all_cons (some_ne h871) all_nil)))
      have hw := cW_ok hw
      have hw := hK863 _ hw
      exact ⟨(v865), _, _, rfl, eG859, S868, h869, h870, h871, hw⟩
    · intro σ H876 hw
      obtain ⟨self_849, u850, G881, rfl, eG882, S877, h878, h879, h880, hw⟩ := hw
      have hw := hK848 _ (cW_forS0 (rng_len _ _).symm hw)
      have hw : cW (F_Decoder___init___r1  (self_849)) _ EE := hw
      unfold F_Decoder___init___r1 at hw
      have hw := cW_bnd hw
      refine ⟨_, rfl, _, _, _, _, _, rfl, h878, T.cl_Decoder, T.n_Decoder__value, rfl, _, _, rfl, rfl, _, _, rfl, _, rfl, _, _, _, _, rfl, h878, T.cl_Decoder, T.n_Decoder__value, (by show 5 < 1000; decide), ?_⟩
      generalize g885 : upd H876 p_self _ = H886
      obtain ⟨x887, h888⟩ := gen_mut g885
      have h889 : H886 p_self = some (.ins AD.c_Decoder dx_self [("_probabilities", V.ref p796), ("_octets", V.ref p812), ("_place", V.int (self_849.place)), ("_span", V.int (self_849.span)), ("_value", V.int ((if (4294967296 - 2) < self_849.value then (4294967296 - 2) else self_849.value)))]) := h888
      have S890 := S877.mut1 x887 (.head _) h889
      have h891 := (x887 _ _ h879 (ne_of_none (e790 _ _ h_self) n797).symm)
      have h892 := (x887 _ _ h880 (ne_of_none h810 n813).symm)
      have hw := cW_ok hw
      exact hK0 _ hw _ _ _ (sameX_of S890.base) fr803 fr819 (ne_of_none (x808 _ _ h802 (ne_of_none (e790 _ _ h_self) n797).symm) n813) h889 h891 h892

abbrev N__choice_digits : List Str := ["base", "count", "digits"]
theorem sc__choice_digits : FnScope N__choice_digits ["base", "count"] (defScope s__choice_digits) := ⟨rfl, rfl, rfl, by decide +kernel, rfl, by decide +kernel, by decide +kernel⟩
theorem ok__choice_digits (D : DefX K mg "_choice_digits" s__choice_digits ["base", "count"] pats__choice_digits) (T : Txt w K mg AD) (c__check_contexts : CalX P w K mg base 1 "_check_contexts" (sp__check_contexts K AD) pats__check_contexts) : CalX P w K mg base 2 "_choice_digits" (sp__choice_digits K AD) pats__choice_digits := by
  refine D.ok sc__choice_digits (fun vs H Q E h => ?_) (fun f cdv A_ outer s H vs Q E hr h => ?_)
  · obtain ⟨G, base', count', rfl, _⟩ := h
    rfl
  · obtain ⟨G, base', count', rfl, sG, hw⟩ := h
    refine ⟨_, (pss_cons (ps_if (pt_not (pt_chain op_le op_le pe_int (pv 1) (C8.pe_gc rfl T.g_MOST_CHOICES))) (pss_one (ps_raise rfl (takes_of rfl rfl rfl rfl) (pmk_own PySem.F.excBase_ValueError T.xx_OutOfRange T.xg_OutOfRange T.xk_OutOfRange (raises_own T.xb_OutOfRange T.xt_OutOfRange) rfl))) pss_nil)
      (pss_cons (ps_set (i := 2) sc__choice_digits.nd rfl (Or.inl rfl) (pe_bits (pe_op op_sub (pv 1) pe_int)))
      (pss_cons (ps_expr (vx_callX c__check_contexts pat__check_contexts_0 (.head _) hr (by decide) (takes_of rfl rfl rfl rfl) rfl (pa_cons (pv 0) (pa_cons (pe_op op_sub (pe_op op_shlW pe_int (pv 2)) pe_int) pa_nil)) pk_nil))
      (pss_one (ps_ret (pv 2)))))), ?_⟩
    obtain ⟨KK, EE, hK0, hE, hw⟩ := cW_gen hw
    have S0 := Sep.startG sG
    unfold F__choice_digits at hw
    refine ⟨_, rfl, _, _, rfl, rfl, _, rfl, ?_⟩
    refine iteD (fun c893 => ?_) (fun c893 => ?_)
    · have hw := cW_pos c893 hw
      refine ⟨_, _, rfl, rfl, _, rfl, ?_⟩
      refine iteN (fun c894 => ?_) (fun c894 => ?_)
      · have hw := cW_neg c894 hw
        exact hE 2 (cW_er hw) _ S0.b0
      · have hw := cW_pos c894 hw
        refine ⟨_, rfl, _, _, rfl, rfl, _, rfl, ?_⟩
        have hw := cW_bnd hw
        obtain ⟨g896, hw⟩ := cW_grd hw
        refine ⟨_, rfl, _, rfl, _, _, rfl, rfl, (shl_side g896.1 g896.2.1 g896.2.2.1 g896.2.2.2), _, _, rfl, rfl, rfl, rfl, G, _, _, rfl, S0.sG, cW_call hw (fun v897 hw => ?_) (fun e he => hE e he _ S0.b0)⟩
        refine ⟨_, rfl, ?_⟩
        have hw := cW_ok hw
        exact hK0 _ hw _ S0.b0
    · have hw := cW_neg c893 hw
      refine ⟨_, rfl, ?_⟩
      refine iteT ?_
      exact hE 2 (cW_er hw) _ S0.b0

abbrev N_SymbolReader_choice : List Str := ["self", "base", "count", "digits", "path", "_"]
theorem sc_SymbolReader_choice : FnScope N_SymbolReader_choice ["self", "base", "count"] (defScope s_SymbolReader_choice) := ⟨rfl, rfl, rfl, by decide +kernel, rfl, by decide +kernel, by decide +kernel⟩
theorem ok_SymbolReader_choice (D : MethX K AD.c_SymbolReader "SymbolReader.choice" "choice" s_SymbolReader_choice ["self", "base", "count"] pats_SymbolReader_choice) (T : Txt w K mg AD) (c__choice_digits : CalX P w K mg base 2 "_choice_digits" (sp__choice_digits K AD) pats__choice_digits) (c_Decoder_read : MetX P w K mg base 3 AD.c_Decoder "read" (sp_Decoder_read K AD) pats_Decoder_read) : MetX P w K mg base 4 AD.c_SymbolReader "choice" (sp_SymbolReader_choice K AD) pats_SymbolReader_choice := by
  refine D.ok T.cl_SymbolReader sc_SymbolReader_choice (fun vs H Q E h => ?_) (fun f cdv A_ outer s H vs Q E hr h => ?_)
  · obtain ⟨G, p_self, p_self_dec, l_self_dec_probs, l_self_dec_octs, dx_self, dx_self_dec, self', base', count', rfl, _⟩ := h
    rfl
  · obtain ⟨G, p_self, p_self_dec, l_self_dec_probs, l_self_dec_octs, dx_self, dx_self_dec, self', base', count', rfl, sG, gM, h_p_self, h_p_self_dec, h_l_self_dec_probs, h_l_self_dec_octs, ne_self_0, ne_self_1, hw⟩ := h
    refine ⟨_, (pss_cons (ps_set (i := 3) sc_SymbolReader_choice.nd rfl (Or.inl rfl) (vx_callX c__choice_digits pat__choice_digits_0 (.head _) hr (by decide) (takes_of rfl rfl rfl rfl) rfl (pa_cons (pv 1) (pa_cons (pv 2) pa_nil)) pk_nil))
      (pss_cons (ps_set (i := 4) sc_SymbolReader_choice.nd rfl (Or.inl rfl) pe_int)
      (pss_cons (ps_for (passes_of rfl) rfl (pi_range1 rfl T.b_range (pa_cons (pv 3) pa_nil)) (pg_name (i := 5) sc_SymbolReader_choice.nd rfl (Or.inl rfl)) (pss_one (ps_set (i := 4) sc_SymbolReader_choice.nd rfl (Or.inl rfl) (pe_op op_add (pe_op op_mul pe_int (pv 4)) (vx_methX c_Decoder_read pat_Decoder_read_0 (.head _) hr (by decide) (takes_of rfl rfl rfl rfl) (fldK (K := K) (pv 0)) (pa_cons (pe_op op_sub (pe_op op_add (pv 1) (pv 4)) pe_int) pa_nil) pk_nil)))))
      (pss_one (ps_ret (pe_callB (call_min2 rfl) (by rfl) T.b_min (by decide +kernel) (pa_cons (pe_op op_sub (pv 4) (pe_op op_shlW pe_int (pv 3))) (pa_cons (pe_op op_sub (pv 2) pe_int) pa_nil)))))))), ?_⟩
    obtain ⟨KK, EE, hK0, hE, hw⟩ := cW_gen hw
    have S0 := Sep.startM (M := [p_self, p_self_dec, l_self_dec_probs, l_self_dec_octs]) sG (all_cons (some_ne h_p_self) (all_cons (some_ne h_p_self_dec) (all_cons (some_ne h_l_self_dec_probs) (all_cons (some_ne h_l_self_dec_octs) all_nil)))) gM
    unfold F_SymbolReader_choice at hw
    refine ⟨_, rfl, _, rfl, rfl, rfl, G, _, _, rfl, S0.sG, cW_call hw (fun v898 hw H899 e900 => ?_) (fun e he H2 e2 => hE e he H2 (Same.trans (Same.refl _) e2))⟩
    have S901 := S0.same e900
    obtain ⟨g902, hw⟩ := cW_grd hw
    obtain ⟨K906, hK907, hw⟩ := cW_push hw
    refine ⟨_, rfl, _, rfl, g902.1, g902.2, for_range (lo := 0) (n := Int.toNat (v898)) (fun i σ H' => ∃ (self_908 : St_SymbolReader) (path_909 : Int) (u910 : Option V) (G' : Hp), σ = [some (V.ref p_self), some (V.int (base')), some (V.int (count')), some (V.int (v898)), some (V.int path_909), u910] ∧ Same G G' ∧ Sep [p_self, p_self_dec, l_self_dec_probs, l_self_dec_octs] H G G' H' [p_self, p_self_dec, l_self_dec_probs, l_self_dec_octs] ∧ H' p_self = some (.ins AD.c_SymbolReader dx_self [("_decoder", V.ref p_self_dec)]) ∧ H' p_self_dec = some (.ins AD.c_Decoder dx_self_dec [("_probabilities", V.ref l_self_dec_probs), ("_octets", V.ref l_self_dec_octs), ("_place", V.int (self_908.dec.place)), ("_span", V.int (self_908.dec.span)), ("_value", V.int (self_908.dec.value))]) ∧ H' l_self_dec_probs = some (.lst ((self_908.dec.probs : (List Int)).map V.int)) ∧ H' l_self_dec_octs = some (.lst ((self_908.dec.octs : (List Int)).map V.int)) ∧ cW (forS (List.drop i (rng (0) (Int.toNat (v898)))) (self_908, path_909) (fun s x => F_SymbolReader_choice_b1 (base') (s.1) (s.2) x)) K906 EE) ?_ ?_ ?_⟩
    · have h911 := (e900 _ _ h_p_self)
      have h912 := (e900 _ _ h_p_self_dec)
      have h913 := (e900 _ _ h_l_self_dec_probs)
      have h914 := (e900 _ _ h_l_self_dec_octs)
      exact ⟨(self'), (1), _, _, rfl, (Same.refl _), S901, h911, h912, h913, h914, hw⟩
    · intro i σ H915 hi hw
      obtain ⟨self_908, path_909, u910, G921, rfl, eG922, S916, h917, h918, h919, h920, hw⟩ := hw
      have hw := cW_forS (rng_get hi) hw
      generalize (0 + (i : Int)) = x923 at hw ⊢
      have hw : cW (F_SymbolReader_choice_b1 (base') (self_908) (path_909) (x923)) _ EE := hw
      unfold F_SymbolReader_choice_b1 at hw
      obtain ⟨K926, hK927, hw⟩ := cW_name hw
      refine ⟨_, rfl, _, _, rfl, rfl, (.inl ⟨by decide, by decide⟩), _, rfl, _, _, _, _, _, rfl, h917, T.cl_SymbolReader, T.n_SymbolReader__decoder, rfl, _, _, _, rfl, h918, rfl, _, rfl, _, rfl, _, _, rfl, rfl, _, _, rfl, rfl, rfl, rfl, G921, _, _, _, _, self_908.dec, _, rfl, S916.sG, (S916.gno (all_cons (.tail _ (.head _)) (all_cons (.tail _ (.tail _ (.head _))) (all_cons (.tail _ (.tail _ (.tail _ (.head _)))) all_nil)))), h918, h919, h920, ne_self_0, cW_callN hw (fun v929 hw H930 x931 h933 h934 h935  => ?_) trivial⟩
      have S932 := S916.mut x931 (all_cons (.tail _ (.head _)) (all_cons (.tail _ (.tail _ (.head _))) (all_cons (.tail _ (.tail _ (.tail _ (.head _)))) all_nil))) (all_cons (some_ne h933) (all_cons (some_ne h934) (all_cons (some_ne h935) all_nil)))
      refine ⟨_, _, rfl, rfl, ?_⟩
      have hw := cW_bnd hw
      have hw := cW_ok hw
      have hw := hK927 _ hw
      have h941 := (x931 _ _ h917 (ni3 ne_self_1 (ne_of h917 h919 (fun z => nomatch z)) (ne_of h917 h920 (fun z => nomatch z))))
      exact ⟨((⟨v929.2⟩ : St_SymbolReader)), (((2 * path_909) + v929.1)), _, _, rfl, eG922, S932, h941, h933, h934, h935, hw⟩
    · intro σ H942 hw
      obtain ⟨self_908, path_909, u910, G948, rfl, eG949, S943, h944, h945, h946, h947, hw⟩ := hw
      have hw := hK907 _ (cW_forS0 (rng_len _ _).symm hw)
      have hw : cW (F_SymbolReader_choice_r1 (count') (v898) (self_908) (path_909)) _ EE := hw
      unfold F_SymbolReader_choice_r1 at hw
      obtain ⟨g952, hw⟩ := cW_grd hw
      refine ⟨_, rfl, _, rfl, _, _, rfl, rfl, (shl_side g952.1 g952.2.1 g952.2.2.1 g952.2.2.2), _, _, rfl, rfl, _, rfl, _, _, rfl, rfl, _, _, rfl, ?_⟩
      have hw := cW_ok hw
      exact hK0 _ hw _ S943.base h944 h945 h946 h947

abbrev N__law_vector : List Str := ["grid", "x", "y", "second", "vector"]
theorem sc__law_vector : FnScope N__law_vector ["grid", "x", "y", "second"] (defScope s__law_vector) := ⟨rfl, rfl, rfl, by decide +kernel, rfl, by decide +kernel, by decide +kernel⟩
theorem ok__law_vector (D : DefX K mg "_law_vector" s__law_vector ["grid", "x", "y", "second"] pats__law_vector) (T : Txt w K mg AD)  : CalX P w K mg base 1 "_law_vector" (sp__law_vector K AD) pats__law_vector := by
  refine D.ok sc__law_vector (fun vs H Q E h => ?_) (fun f cdv A_ outer s H vs Q E hr h => ?_)
  · obtain ⟨G, a_grid, vs_grid, L_grid, grid', x', y', second', rfl, _⟩ := h
    rfl
  · obtain ⟨G, a_grid, vs_grid, L_grid, grid', x', y', second', rfl, sG, q_grid, w_grid, hw⟩ := h
    refine ⟨_, (pss_cons (ps_if (PW.pt (pw_or (pt_cmp (pc_lt (pv 1) pe_int)) (pw_or (pt_cmp (pc_lt (pv 2) pe_int)) (pw_or (pt_cmp (pc_ge (pv 2) (pe_callB (call_lenLK (K := K)) (by rfl) T.b_len (by decide +kernel) (pa_cons (pv 0) pa_nil)))) (pw_or (pt_cmp (pc_ge (pv 1) (pe_callB (call_lenLK (K := K)) (by rfl) T.b_len (by decide +kernel) (pa_cons (pe_ix (ix_listK (K := K)) (pv 0) pe_int (fun _ _ => rfl)) pa_nil)))) (pw_or1 (pt_cmpR op_isND (pe_ix (ix_listK (K := K)) (pe_ix (ix_listK (K := K)) (pv 0) (pv 2) (fun _ _ => rfl)) (pv 1) (fun _ _ => rfl)) pe_non (nomark _)))))))) (pss_one (ps_ret (pe_tup (pa_cons pe_int (pa_cons pe_int pa_nil))))) pss_nil)
      (pss_cons (ps_set (i := 4) sc__law_vector.nd rfl (Or.inl rfl) (pe_ix (ix_tupK (K := K)) (pe_ix (ix_listK (K := K)) (pe_ix (ix_listK (K := K)) (pv 0) (pv 2) (fun _ _ => rfl)) (pv 1) (fun _ _ => rfl)) (pe_op op_add pe_int (pv 3)) (fun _ _ => rfl)))
      (pss_cons (ps_if (pt_cmpR op_isND (pv 4) pe_non (nomark _)) (pss_one (ps_ret (pe_tup (pa_cons pe_int (pa_cons pe_int pa_nil))))) pss_nil)
      (pss_one (ps_ret (pv 4)))))), ?_⟩
    obtain ⟨KK, EE, hK0, hE, hw⟩ := cW_gen hw
    have S0 := Sep.startG sG
    unfold F__law_vector at hw
    refine ⟨_, rfl, _, _, rfl, rfl, _, rfl, ?_⟩
    refine iteD (fun c953 => ?_) (fun c953 => ?_)
    · have hw := cW_pos c953 hw
      refine iteT ?_
      refine ⟨(by show 2 ≤ sizeLine; decide), fun p954 n955 => ?_⟩
      generalize g956 : upd H p954 _ = H957
      obtain ⟨e958, h959⟩ := gen_new n955 g956
      have h960 : H957 p954 = some (.tup [V.int (0), V.int (0)]) := h959
      have fr961 := S0.free n955
      obtain ⟨G963, eG964, hg965, S962⟩ := S0.grow n955 e958 h960 fr961
      have hw := cW_ok hw
      exact hK0 _ hw _ _ _ S962.b0 S962.g0 S962.sG S962.gn (rp_mk2 hg965 (.int _) (.int _))
    · have hw := cW_neg c953 hw
      refine ⟨_, rfl, _, _, rfl, rfl, _, rfl, ?_⟩
      refine iteD (fun c966 => ?_) (fun c966 => ?_)
      · have hw := cW_pos c966 hw
        refine iteT ?_
        refine ⟨(by show 2 ≤ sizeLine; decide), fun p967 n968 => ?_⟩
        generalize g969 : upd H p967 _ = H970
        obtain ⟨e971, h972⟩ := gen_new n968 g969
        have h973 : H970 p967 = some (.tup [V.int (0), V.int (0)]) := h972
        have fr974 := S0.free n968
        obtain ⟨G976, eG977, hg978, S975⟩ := S0.grow n968 e971 h973 fr974
        have hw := cW_ok hw
        exact hK0 _ hw _ _ _ S975.b0 S975.g0 S975.sG S975.gn (rp_mk2 hg978 (.int _) (.int _))
      · have hw := cW_neg c966 hw
        have w979 : OwAll G H L_grid (vs_grid) ((grid' : (List (List PyData))).map (oL (oF encD))) := OwAll.mono (Same.refl _) (keeps_same S0.bM) w_grid
        refine ⟨_, rfl, _, rfl, _, _, _, rfl, (SqL.of (S0.bM _ _ q_grid)), (by rw [(OwAll.rpA w979 (encO_L encO_F) S0.sG).len, List.length_map]), _, _, rfl, rfl, _, rfl, ?_⟩
        refine iteD (fun c980 => ?_) (fun c980 => ?_)
        · have hw := cW_pos c980 hw
          refine iteT ?_
          refine ⟨(by show 2 ≤ sizeLine; decide), fun p981 n982 => ?_⟩
          generalize g983 : upd H p981 _ = H984
          obtain ⟨e985, h986⟩ := gen_new n982 g983
          have h987 : H984 p981 = some (.tup [V.int (0), V.int (0)]) := h986
          have fr988 := S0.free n982
          obtain ⟨G990, eG991, hg992, S989⟩ := S0.grow n982 e985 h987 fr988
          have hw := cW_ok hw
          exact hK0 _ hw _ _ _ S989.b0 S989.g0 S989.sG S989.gn (rp_mk2 hg992 (.int _) (.int _))
        · have hw := cW_neg c980 hw
          obtain ⟨g993, hw⟩ := cW_grd hw
          have w994 : OwAll G H L_grid (vs_grid) ((grid' : (List (List PyData))).map (oL (oF encD))) := OwAll.mono (Same.refl _) (keeps_same S0.bM) w_grid
          obtain ⟨v995, L996, a997, w998, hs999, up1000, gr1001⟩ := OwAll.partM (k := 0) w994 g993
          obtain ⟨b1002, vs1003, L1004, rfl, rfl, h1005, w1006, nb1007⟩ := Ow.toList w998
          refine ⟨_, rfl, _, rfl, _, _, _, _, rfl, rfl, (SqL.of (S0.bM _ _ q_grid)), a997, _, _, _, rfl, (SqL.of h1005), (by rw [(OwAll.rpA w1006 encO_F S0.sG).len, List.length_map]), _, _, rfl, rfl, _, rfl, ?_⟩
          refine iteD (fun c1008 => ?_) (fun c1008 => ?_)
          · have hw := cW_pos c1008 hw
            refine iteT ?_
            refine ⟨(by show 2 ≤ sizeLine; decide), fun p1009 n1010 => ?_⟩
            generalize g1011 : upd H p1009 _ = H1012
            obtain ⟨e1013, h1014⟩ := gen_new n1010 g1011
            have h1015 : H1012 p1009 = some (.tup [V.int (0), V.int (0)]) := h1014
            have fr1016 := S0.free n1010
            obtain ⟨G1018, eG1019, hg1020, S1017⟩ := S0.grow n1010 e1013 h1015 fr1016
            have hw := cW_ok hw
            exact hK0 _ hw _ _ _ S1017.b0 S1017.g0 S1017.sG S1017.gn (rp_mk2 hg1020 (.int _) (.int _))
          · have hw := cW_neg c1008 hw
            obtain ⟨g1021, hw⟩ := cW_grd hw
            have w1022 : OwAll G H L_grid (vs_grid) ((grid' : (List (List PyData))).map (oL (oF encD))) := OwAll.mono (Same.refl _) (keeps_same S0.bM) w_grid
            obtain ⟨v1023, L1024, a1025, w1026, hs1027, up1028, gr1029⟩ := OwAll.partM (k := y') w1022 g1021
            obtain ⟨b1030, vs1031, L1032, rfl, rfl, h1033, w1034, nb1035⟩ := Ow.toList w1026
            obtain ⟨g1036, hw⟩ := cW_grd hw
            obtain ⟨v1037, L1038, a1039, w1040, hs1041, up1042, gr1043⟩ := OwAll.partM (k := x') w1034 g1036
            obtain ⟨z1045, r1044⟩ := Ow.toFrz w1040
            refine ⟨_, rfl, _, rfl, _, _, _, _, rfl, rfl, (SqL.of (S0.bM _ _ q_grid)), a1025, _, rfl, _, _, _, _, rfl, rfl, (SqL.of h1033), a1039, (itD ((itD (grid') (y'))) (x')), rfl, (Rp.mono S0.sG r1044), _, rfl, ?_⟩
            refine iteB (fun c1046 => ?_) (fun c1046 => ?_)
            · have hw := cW_pos c1046 hw
              refine ⟨(by show 2 ≤ sizeLine; decide), fun p1047 n1048 => ?_⟩
              generalize g1049 : upd H p1047 _ = H1050
              obtain ⟨e1051, h1052⟩ := gen_new n1048 g1049
              have h1053 : H1050 p1047 = some (.tup [V.int (0), V.int (0)]) := h1052
              have fr1054 := S0.free n1048
              obtain ⟨G1056, eG1057, hg1058, S1055⟩ := S0.grow n1048 e1051 h1053 fr1054
              have hw := cW_ok hw
              exact hK0 _ hw _ _ _ S1055.b0 S1055.g0 S1055.sG S1055.gn (rp_mk2 hg1058 (.int _) (.int _))
            · have hw := cW_negB c1046 hw
              obtain ⟨g1059, hw⟩ := cW_grd hw
              have w1060 : OwAll G H L_grid (vs_grid) ((grid' : (List (List PyData))).map (oL (oF encD))) := OwAll.mono (Same.refl _) (keeps_same S0.bM) w_grid
              obtain ⟨v1061, L1062, a1063, w1064, hs1065, up1066, gr1067⟩ := OwAll.partM (k := y') w1060 g1059
              obtain ⟨b1068, vs1069, L1070, rfl, rfl, h1071, w1072, nb1073⟩ := Ow.toList w1064
              obtain ⟨g1074, hw⟩ := cW_grd hw
              obtain ⟨v1075, L1076, a1077, w1078, hs1079, up1080, gr1081⟩ := OwAll.partM (k := x') w1072 g1074
              obtain ⟨z1083, r1082⟩ := Ow.toFrz w1078
              obtain ⟨g1084, hw⟩ := cW_grd hw
              obtain ⟨a1085, vs1086, v1087, e1088, h1089, e1090, r1091⟩ := rp_dgetI g1084 r1082
              refine ⟨_, rfl, _, rfl, _, _, _, _, rfl, rfl, (SqL.of (S0.bM _ _ q_grid)), a1063, _, rfl, _, _, _, _, rfl, rfl, (SqL.of h1071), a1077, _, rfl, _, _, rfl, rfl, _, _, _, _, e1088, rfl, (SqT.of (S0.sG _ _ h1089)), e1090, _, rfl, (dGet ((itD ((itD (grid') (y'))) (x'))) (Int.toNat ((2 + second')))), rfl, (Rp.mono S0.sG r1091), _, rfl, ?_⟩
              refine iteB (fun c1092 => ?_) (fun c1092 => ?_)
              · have hw := cW_pos c1092 hw
                refine ⟨(by show 2 ≤ sizeLine; decide), fun p1093 n1094 => ?_⟩
                generalize g1095 : upd H p1093 _ = H1096
                obtain ⟨e1097, h1098⟩ := gen_new n1094 g1095
                have h1099 : H1096 p1093 = some (.tup [V.int (0), V.int (0)]) := h1098
                have fr1100 := S0.free n1094
                obtain ⟨G1102, eG1103, hg1104, S1101⟩ := S0.grow n1094 e1097 h1099 fr1100
                have hw := cW_ok hw
                exact hK0 _ hw _ _ _ S1101.b0 S1101.g0 S1101.sG S1101.gn (rp_mk2 hg1104 (.int _) (.int _))
              · have hw := cW_negB c1092 hw
                obtain ⟨g1105, hw⟩ := cW_grd hw
                have r1106 : Rp G v1087 ((encT2 PyData.int PyData.int) (((cT2 cI cI)).dec ((dGet ((itD ((itD (grid') (y'))) (x'))) (Int.toNat ((2 + second'))))))) := rp_dcast (cT2 cI cI) g1105 r1091
                obtain ⟨a1107, v1109, v1110, rfl, h1108, r1111, r1112⟩ := rp_tup2 r1106
                obtain rfl := rp_int r1111
                obtain rfl := rp_int r1112
                refine ⟨_, rfl, ?_⟩
                have hw := cW_ok hw
                exact hK0 _ hw _ _ _ S0.b0 S0.g0 S0.sG S0.gn (rp_mk2 h1108 (.int _) (.int _))

abbrev N__law_median : List Str := ["values"]
theorem sc__law_median : FnScope N__law_median ["values"] (defScope s__law_median) := ⟨rfl, rfl, rfl, by decide +kernel, rfl, by decide +kernel, by decide +kernel⟩
theorem ok__law_median (D : DefX K mg "_law_median" s__law_median ["values"] pats__law_median) (T : Txt w K mg AD)  : CalX P w K mg base 1 "_law_median" (sp__law_median K AD) pats__law_median := by
  refine D.ok sc__law_median (fun vs H Q E h => ?_) (fun f cdv A_ outer s H vs Q E hr h => ?_)
  · obtain ⟨G, a_values, values', rfl, _⟩ := h
    rfl
  · obtain ⟨G, a_values, values', rfl, sG, q_values, hw⟩ := h
    refine ⟨_, (pss_one (ps_ret (pe_ix (ix_listK (K := K)) (pe_callB (cr_sortL (K := K)) (by rfl) T.b_sorted (by decide +kernel) (pa_cons (pv 0) pa_nil)) pe_int (fun _ _ => rfl)))), ?_⟩
    obtain ⟨KK, EE, hK0, hE, hw⟩ := cW_gen hw
    have S0 := Sep.startG sG
    unfold F__law_median at hw
    refine ⟨_, rfl, _, _, rfl, (SqL.of (S0.bM _ _ q_values)), fun p1113 n1114 => ?_⟩
    generalize g1115 : upd H p1113 _ = H1116
    obtain ⟨e1117, h1118⟩ := gen_new n1114 g1115
    have h1119 : H1116 p1113 = some (.lst (((sortL (values')) : (List Int)).map V.int)) := h1118
    have fr1120 := S0.free n1114
    have S1121 := S0.new n1114 e1117 h1119 fr1120
    obtain ⟨g1122, hw⟩ := cW_grd hw
    refine ⟨_, _, _, _, rfl, rfl, (SqL.of h1119), (atI_map g1122), ?_⟩
    have hw := cW_ok hw
    exact hK0 _ hw _ S1121.b0

abbrev N__law_predicted : List Str := ["grid", "x", "y", "second", "near", "v"]
theorem sc__law_predicted : FnScope N__law_predicted ["grid", "x", "y", "second"] (defScope s__law_predicted) := ⟨rfl, rfl, rfl, by decide +kernel, rfl, by decide +kernel, by decide +kernel⟩
theorem ok__law_predicted (D : DefX K mg "_law_predicted" s__law_predicted ["grid", "x", "y", "second"] pats__law_predicted) (T : Txt w K mg AD) (c__law_vector : CalX P w K mg base 1 "_law_vector" (sp__law_vector K AD) pats__law_vector) (c__law_median : CalX P w K mg base 1 "_law_median" (sp__law_median K AD) pats__law_median) : CalX P w K mg base 2 "_law_predicted" (sp__law_predicted K AD) pats__law_predicted := by
  refine D.ok sc__law_predicted (fun vs H Q E h => ?_) (fun f cdv A_ outer s H vs Q E hr h => ?_)
  · obtain ⟨G, a_grid, vs_grid, L_grid, grid', x', y', second', rfl, _⟩ := h
    rfl
  · obtain ⟨G, a_grid, vs_grid, L_grid, grid', x', y', second', rfl, sG, q_grid, w_grid, hw⟩ := h
    refine ⟨_, (pss_cons (ps_set (i := 4) sc__law_predicted.nd rfl (Or.inl rfl) (pe_lst (pa_cons (vx_callX c__law_vector pat__law_vector_0 (.head _) hr (by decide) (takes_of rfl rfl rfl rfl) rfl (pa_cons (pv 0) (pa_cons (pe_op op_sub (pv 1) pe_int) (pa_cons (pv 2) (pa_cons (pv 3) pa_nil)))) pk_nil) (pa_cons (vx_callX c__law_vector pat__law_vector_0 (.head _) hr (by decide) (takes_of rfl rfl rfl rfl) rfl (pa_cons (pv 0) (pa_cons (pv 1) (pa_cons (pe_op op_sub (pv 2) pe_int) (pa_cons (pv 3) pa_nil)))) pk_nil) (pa_cons (vx_callX c__law_vector pat__law_vector_0 (.head _) hr (by decide) (takes_of rfl rfl rfl rfl) rfl (pa_cons (pv 0) (pa_cons (pe_op op_sub (pv 1) pe_int) (pa_cons (pe_op op_sub (pv 2) pe_int) (pa_cons (pv 3) pa_nil)))) pk_nil) pa_nil)))))
      (pss_one (ps_ret (pe_tup (pa_cons (vx_callX c__law_median pat__law_median_0 (.head _) hr (by decide) (takes_of rfl rfl rfl rfl) rfl (pa_cons (pe_lc (own := [("v", 5)]) (g := gName 5) (by rfl) sc__law_predicted.nd (pi_listK (K := K) (pv 4)) (blkOk_by (own := [("v", 5)]) (N := N__law_predicted) (sc := defScope s__law_predicted) (by decide +kernel)) (fun _ _ _ _ _ => (pg_name (i := 5) sc__law_predicted.nd rfl (Or.inl rfl))) (fun _ _ _ _ _ => pts_nil) (fun _ _ _ _ _ => (pe_ix (ix_tupK (K := K)) (pv 5) pe_int (fun _ _ => rfl)))) pa_nil) pk_nil) (pa_cons (vx_callX c__law_median pat__law_median_0 (.head _) hr (by decide) (takes_of rfl rfl rfl rfl) rfl (pa_cons (pe_lc (own := [("v", 5)]) (g := gName 5) (by rfl) sc__law_predicted.nd (pi_listK (K := K) (pv 4)) (blkOk_by (own := [("v", 5)]) (N := N__law_predicted) (sc := defScope s__law_predicted) (by decide +kernel)) (fun _ _ _ _ _ => (pg_name (i := 5) sc__law_predicted.nd rfl (Or.inl rfl))) (fun _ _ _ _ _ => pts_nil) (fun _ _ _ _ _ => (pe_ix (ix_tupK (K := K)) (pv 5) pe_int (fun _ _ => rfl)))) pa_nil) pk_nil) pa_nil)))))), ?_⟩
    obtain ⟨KK, EE, hK0, hE, hw⟩ := cW_gen hw
    have S0 := Sep.startG sG
    unfold F__law_predicted at hw
    refine ⟨_, rfl, _, rfl, _, _, rfl, rfl, _, rfl, _, rfl, rfl, rfl, G, _, _, L_grid, grid', _, _, _, rfl, S0.sG, (hide_nil (S0.bM _ _ q_grid)), (OwAll.mono (Same.refl _) (keeps_same (Sep.bhide S0 all_nil)) w_grid), cW_call hw (fun v1123 hw v1126 H1124 G1127 e1125 eG1128 sG1129 hn1130 r1131 => ?_) (fun e he H2 e2 => hE e he H2 (Same.trans S0.b0 e2))⟩
    have S1132 := S0.step e1125 eG1128 sG1129 hn1130
    obtain ⟨a1133, v1135, v1136, rfl, h1134, r1137, r1138⟩ := rp_tup2 r1131
    obtain rfl := rp_int r1137
    obtain rfl := rp_int r1138
    refine ⟨_, rfl, _, rfl, _, rfl, _, _, rfl, rfl, _, rfl, rfl, rfl, G1127, _, _, L_grid, grid', _, _, _, rfl, S1132.sG, (hide_nil (S1132.bM _ _ q_grid)), (OwAll.mono eG1128 (keeps_same (Sep.bhide S1132 all_nil)) w_grid), cW_call hw (fun v1139 hw v1142 H1140 G1143 e1141 eG1144 sG1145 hn1146 r1147 => ?_) (fun e he H2 e2 => hE e he H2 (Same.trans S1132.b0 e2))⟩
    have S1148 := S1132.step e1141 eG1144 sG1145 hn1146
    obtain ⟨a1149, v1151, v1152, rfl, h1150, r1153, r1154⟩ := rp_tup2 r1147
    obtain rfl := rp_int r1153
    obtain rfl := rp_int r1154
    refine ⟨_, rfl, _, rfl, _, _, rfl, rfl, _, rfl, _, _, rfl, rfl, _, rfl, rfl, rfl, G1143, _, _, L_grid, grid', _, _, _, rfl, S1148.sG, (hide_nil (S1148.bM _ _ q_grid)), (OwAll.mono (Same.trans eG1128 eG1144) (keeps_same (Sep.bhide S1148 all_nil)) w_grid), cW_call hw (fun v1155 hw v1158 H1156 G1159 e1157 eG1160 sG1161 hn1162 r1163 => ?_) (fun e he H2 e2 => hE e he H2 (Same.trans S1148.b0 e2))⟩
    have S1164 := S1148.step e1157 eG1160 sG1161 hn1162
    obtain ⟨a1165, v1167, v1168, rfl, h1166, r1169, r1170⟩ := rp_tup2 r1163
    obtain rfl := rp_int r1169
    obtain rfl := rp_int r1170
    refine ⟨(by show 3 ≤ sizeLine; decide), fun p1171 n1172 => ?_⟩
    generalize g1173 : upd H1156 p1171 _ = H1174
    obtain ⟨e1175, h1176⟩ := gen_new n1172 g1173
    have h1177 : H1174 p1171 = some (.lst ([V.ref a1133, V.ref a1149, V.ref a1165])) := h1176
    have fr1178 := S1164.free n1172
    have S1179 := S1164.new n1172 e1175 h1177 fr1178
    have d1180 : RpAll G1159 ([V.ref a1133, V.ref a1149, V.ref a1165]) (([v1123, v1139, v1155] : (List (Int × Int))).map (encT2 PyData.int PyData.int)) := (RpAll.cons (rp_mk2 (eG1160 _ _ (eG1144 _ _ h1134)) (.int _) (.int _)) (RpAll.cons (rp_mk2 (eG1160 _ _ h1150) (.int _) (.int _)) (RpAll.cons (rp_mk2 h1166 (.int _) (.int _)) RpAll.nil)))
    obtain ⟨K1182, hK1183, hw⟩ := cW_push hw
    refine ⟨_, rfl, _, rfl, ⟨_, (SqL.of h1177)⟩, fun D1184 n1185 => lc_list (K := K) (a := p1171) (xs := [V.ref a1133, V.ref a1149, V.ref a1165]) (fun i H' => ∃ (G' : Hp) (acc1187 : (List Int)), Same G1159 G' ∧ Sep [] H G G' H' [D1184, p1171] ∧ H' p1171 = some (.lst ([V.ref a1133, V.ref a1149, V.ref a1165])) ∧ H' D1184 = some (.lst ((acc1187 : (List Int)).map V.int)) ∧ Same H1174 H' ∧ cW (mapA (List.drop i ([v1123, v1139, v1155])) acc1187 (fun x => noEr (F__law_predicted_c1  x))) K1182 EE) ?_ ?_ ?_ ?_⟩
    · generalize g1189 : upd H1174 D1184 _ = H1190
      obtain ⟨e1191, h1192⟩ := gen_new n1185 g1189
      have fr1193 := S1179.free n1185
      have S1194 := S1179.new n1185 e1191 h1192 fr1193
      have h1195 := (e1191 _ _ h1177)
      exact ⟨_, [], Same.refl _, S1194, h1195, h1192, e1191, hw⟩
    · intro i H1196 _ hw
      obtain ⟨G1199, acc1201, eG1200, S1197, h1208, h1198, eo1207, hw⟩ := hw
      exact (SqL.of h1208)
    · intro i x H1209 hj hw
      obtain ⟨G1212, acc1214, eG1213, S1210, h1221, h1211, eo1220, hw⟩ := hw
      obtain ⟨x1222, hx, r1223⟩ := RpAll.get (RpAll.mono eG1213 d1180) hj
      obtain ⟨a1224, v1226, v1227, rfl, h1225, r1228, r1229⟩ := rp_tup2 r1223
      obtain rfl := rp_int r1228
      obtain rfl := rp_int r1229
      obtain ⟨z1230, hw⟩ := cW_mapA hx hw
      have hw := cW_noEr hw
      have hw : cW (F__law_predicted_c1  (x1222)) _ (fun _ => False) := hw
      unfold F__law_predicted_c1 at hw
      refine ⟨rfl, ?_⟩
      refine tyes_go ?_
      refine ⟨_, rfl, _, _, _, _, rfl, rfl, (SqT.of (S1210.sG _ _ h1225)), rfl, _, h1211, (app_lenM z1230), ?_⟩
      generalize g1232 : upd H1209 D1184 _ = H1233
      obtain ⟨x1234, h1235⟩ := gen_mut g1232
      have S1236 := S1210.mut1 x1234 (.head _) h1235
      have hw := cW_ok hw
      have h1237 := (x1234 _ _ h1221 (ne_of_none h1177 n1185))
      exact ⟨_, (acc1214 ++ [x1222.1]), eG1213, S1236, h1237, (snoc_map h1235), (same_mut eo1220 x1234 n1185), hw⟩
    intro H1238 hw
    obtain ⟨G1241, acc1243, eG1242, S1239, h1250, h1240, eo1249, hw⟩ := hw
    have hw := hK1183 _ (cW_mapA0 (by rw [(RpAll.mono eG1242 d1180).len, List.length_map]) hw)
    have fr1251 := S1179.free n1185
    refine ⟨rfl, rfl, G1241, _, _, rfl, S1239.sG, (hide_nil h1240), cW_call hw (fun v1252 hw H1253 e1254 => ?_) (fun e he H2 e2 => hE e he H2 (Same.trans S1239.b0 e2))⟩
    have S1255 := S1239.same e1254
    have h1256 := (e1254 _ _ h1250)
    obtain ⟨K1258, hK1259, hw⟩ := cW_push hw
    refine ⟨_, rfl, _, rfl, ⟨_, (SqL.of h1256)⟩, fun D1260 n1261 => lc_list (K := K) (a := p1171) (xs := [V.ref a1133, V.ref a1149, V.ref a1165]) (fun i H' => ∃ (G' : Hp) (acc1263 : (List Int)), Same G1241 G' ∧ Sep [] H G G' H' [D1260, p1171] ∧ H' p1171 = some (.lst ([V.ref a1133, V.ref a1149, V.ref a1165])) ∧ H' D1260 = some (.lst ((acc1263 : (List Int)).map V.int)) ∧ Same H1253 H' ∧ cW (mapA (List.drop i ([v1123, v1139, v1155])) acc1263 (fun x => noEr (F__law_predicted_c2  x))) K1258 EE) ?_ ?_ ?_ ?_⟩
    · generalize g1265 : upd H1253 D1260 _ = H1266
      obtain ⟨e1267, h1268⟩ := gen_new n1261 g1265
      have fr1269 := S1255.free n1261
      have S1270 := S1255.new n1261 e1267 h1268 fr1269
      have h1271 := (e1267 _ _ h1256)
      exact ⟨_, [], Same.refl _, (S1270.sub (all_cons (.head _) (all_cons (.tail _ (.tail _ (.head _))) all_nil))), h1271, h1268, e1267, hw⟩
    · intro i H1272 _ hw
      obtain ⟨G1275, acc1277, eG1276, S1273, h1284, h1274, eo1283, hw⟩ := hw
      exact (SqL.of h1284)
    · intro i x H1285 hj hw
      obtain ⟨G1288, acc1290, eG1289, S1286, h1297, h1287, eo1296, hw⟩ := hw
      obtain ⟨x1298, hx, r1299⟩ := RpAll.get (RpAll.mono eG1289 (RpAll.mono eG1242 d1180)) hj
      obtain ⟨a1300, v1302, v1303, rfl, h1301, r1304, r1305⟩ := rp_tup2 r1299
      obtain rfl := rp_int r1304
      obtain rfl := rp_int r1305
      obtain ⟨z1306, hw⟩ := cW_mapA hx hw
      have hw := cW_noEr hw
      have hw : cW (F__law_predicted_c2  (x1298)) _ (fun _ => False) := hw
      unfold F__law_predicted_c2 at hw
      refine ⟨rfl, ?_⟩
      refine tyes_go ?_
      refine ⟨_, rfl, _, _, _, _, rfl, rfl, (SqT.of (S1286.sG _ _ h1301)), rfl, _, h1287, (app_lenM z1306), ?_⟩
      generalize g1308 : upd H1285 D1260 _ = H1309
      obtain ⟨x1310, h1311⟩ := gen_mut g1308
      have S1312 := S1286.mut1 x1310 (.head _) h1311
      have hw := cW_ok hw
      have h1313 := (x1310 _ _ h1297 (ne_of_none h1256 n1261))
      exact ⟨_, (acc1290 ++ [x1298.2]), eG1289, S1312, h1313, (snoc_map h1311), (same_mut eo1296 x1310 n1261), hw⟩
    intro H1314 hw
    obtain ⟨G1317, acc1319, eG1318, S1315, h1326, h1316, eo1325, hw⟩ := hw
    have hw := hK1259 _ (cW_mapA0 (by rw [(RpAll.mono eG1318 (RpAll.mono eG1242 d1180)).len, List.length_map]) hw)
    have fr1327 := S1255.free n1261
    refine ⟨rfl, rfl, G1317, _, _, rfl, S1315.sG, (hide_nil h1316), cW_call hw (fun v1328 hw H1329 e1330 => ?_) (fun e he H2 e2 => hE e he H2 (Same.trans S1315.b0 e2))⟩
    have S1331 := S1315.same e1330
    refine ⟨(by show 2 ≤ sizeLine; decide), fun p1332 n1333 => ?_⟩
    generalize g1334 : upd H1329 p1332 _ = H1335
    obtain ⟨e1336, h1337⟩ := gen_new n1333 g1334
    have h1338 : H1335 p1332 = some (.tup [V.int (v1252), V.int (v1328)]) := h1337
    have fr1339 := S1331.free n1333
    obtain ⟨G1341, eG1342, hg1343, S1340⟩ := S1331.grow n1333 e1336 h1338 fr1339
    have hw := cW_ok hw
    exact hK0 _ hw _ _ _ S1340.b0 S1340.g0 S1340.sG S1340.gn (rp_mk2 hg1343 (.int _) (.int _))

abbrev N_SymbolReader_signed : List Str := ["self", "base", "size"]
theorem sc_SymbolReader_signed : FnScope N_SymbolReader_signed ["self", "base"] (defScope s_SymbolReader_signed) := ⟨rfl, rfl, rfl, by decide +kernel, rfl, by decide +kernel, by decide +kernel⟩
theorem ok_SymbolReader_signed (D : MethX K AD.c_SymbolReader "SymbolReader.signed" "signed" s_SymbolReader_signed ["self", "base"] pats_SymbolReader_signed) (T : Txt w K mg AD) (c_SymbolReader_number : MetX P w K mg base 5 AD.c_SymbolReader "number" (sp_SymbolReader_number K AD) pats_SymbolReader_number) (c_Decoder_read_even : MetX P w K mg base 3 AD.c_Decoder "read_even" (sp_Decoder_read_even K AD) pats_Decoder_read_even) : MetX P w K mg base 6 AD.c_SymbolReader "signed" (sp_SymbolReader_signed K AD) pats_SymbolReader_signed := by
  refine D.ok T.cl_SymbolReader sc_SymbolReader_signed (fun vs H Q E h => ?_) (fun f cdv A_ outer s H vs Q E hr h => ?_)
  · obtain ⟨G, p_self, p_self_dec, l_self_dec_probs, l_self_dec_octs, dx_self, dx_self_dec, self', base', rfl, _⟩ := h
    rfl
  · obtain ⟨G, p_self, p_self_dec, l_self_dec_probs, l_self_dec_octs, dx_self, dx_self_dec, self', base', rfl, sG, gM, h_p_self, h_p_self_dec, h_l_self_dec_probs, h_l_self_dec_octs, ne_self_0, ne_self_1, hw⟩ := h
    refine ⟨_, (pss_cons (ps_set (i := 2) sc_SymbolReader_signed.nd rfl (Or.inl rfl) (vx_methX c_SymbolReader_number pat_SymbolReader_number_0 (.head _) hr (by decide) (takes_of rfl rfl rfl rfl) (pv 0) (pa_cons (pv 1) pa_nil) pk_nil))
      (pss_cons (ps_if (PW.pt (pw_and (pt_cmp (pc_neI (pv 2) pe_int)) (pw_and1 (pt_cmp (pc_eqI (vx_methX0 c_Decoder_read_even pat_Decoder_read_even_0 (.head _) hr (by decide) (takes_of rfl rfl rfl rfl) (fldK (K := K) (pv 0))) pe_int))))) (pss_one (ps_ret (pe_un un_neg (pv 2)))) pss_nil)
      (pss_one (ps_ret (pv 2))))), ?_⟩
    obtain ⟨KK, EE, hK0, hE, hw⟩ := cW_gen hw
    have S0 := Sep.startM (M := [p_self, p_self_dec, l_self_dec_probs, l_self_dec_octs]) sG (all_cons (some_ne h_p_self) (all_cons (some_ne h_p_self_dec) (all_cons (some_ne h_l_self_dec_probs) (all_cons (some_ne h_l_self_dec_octs) all_nil)))) gM
    unfold F_SymbolReader_signed at hw
    refine ⟨_, rfl, _, _, _, rfl, h_p_self, rfl, _, rfl, rfl, rfl, G, _, _, _, _, _, _, self', _, rfl, S0.sG, (S0.gno (all_cons (.head _) (all_cons (.tail _ (.head _)) (all_cons (.tail _ (.tail _ (.head _))) (all_cons (.tail _ (.tail _ (.tail _ (.head _)))) all_nil))))), h_p_self, h_p_self_dec, h_l_self_dec_probs, h_l_self_dec_octs, ne_self_0, ne_self_1, cW_call hw (fun v1344 hw H1345 x1346 h1348 h1349 h1350 h1351  => ?_) (fun e he H2 e2 => hE e he H2 (Same.trans (Same.refl _) e2))⟩
    have S1347 := S0.mut x1346 (all_cons (.head _) (all_cons (.tail _ (.head _)) (all_cons (.tail _ (.tail _ (.head _))) (all_cons (.tail _ (.tail _ (.tail _ (.head _)))) all_nil)))) (all_cons (some_ne h1348) (all_cons (some_ne h1349) (all_cons (some_ne h1350) (all_cons (some_ne h1351) all_nil))))
    refine ⟨_, rfl, _, _, rfl, rfl, _, rfl, ?_⟩
    refine iteN (fun c1356 => ?_) (fun c1356 => ?_)
    · have hw := cW_neg c1356 hw
      refine ⟨_, rfl, _, _, _, _, _, rfl, h1348, T.cl_SymbolReader, T.n_SymbolReader__decoder, rfl, _, _, _, rfl, h1349, rfl, rfl, rfl, G, _, _, _, _, v1344.2.dec, rfl, S1347.sG, (S1347.gno (all_cons (.tail _ (.head _)) (all_cons (.tail _ (.tail _ (.head _))) (all_cons (.tail _ (.tail _ (.tail _ (.head _)))) all_nil)))), h1349, h1350, h1351, ne_self_0, cW_callN hw (fun v1357 hw H1358 x1359 h1361 h1362 h1363  => ?_) trivial⟩
      have S1360 := S1347.mut x1359 (all_cons (.tail _ (.head _)) (all_cons (.tail _ (.tail _ (.head _))) (all_cons (.tail _ (.tail _ (.tail _ (.head _)))) all_nil))) (all_cons (some_ne h1361) (all_cons (some_ne h1362) (all_cons (some_ne h1363) all_nil)))
      refine ⟨_, _, rfl, rfl, _, rfl, ?_⟩
      refine iteD (fun c1368 => ?_) (fun c1368 => ?_)
      · have hw := cW_pos c1368 hw
        refine ⟨_, rfl, _, rfl, ?_⟩
        have h1369 := (x1359 _ _ h1348 (ni3 ne_self_1 (ne_of h1348 h1350 (fun z => nomatch z)) (ne_of h1348 h1351 (fun z => nomatch z))))
        have hw := cW_ok hw
        exact hK0 _ hw _ S1360.base h1369 h1361 h1362 h1363
      · have hw := cW_neg c1368 hw
        refine ⟨_, rfl, ?_⟩
        have h1370 := (x1359 _ _ h1348 (ni3 ne_self_1 (ne_of h1348 h1350 (fun z => nomatch z)) (ne_of h1348 h1351 (fun z => nomatch z))))
        have hw := cW_ok hw
        exact hK0 _ hw _ S1360.base h1370 h1361 h1362 h1363
    · have hw := cW_pos c1356 hw
      refine iteF ?_
      refine ⟨_, rfl, ?_⟩
      have hw := cW_ok hw
      exact hK0 _ hw _ S1347.base h1348 h1349 h1350 h1351

abbrev N__law_due : List Str := ["reader", "grid", "place", "kind", "refs", "index", "direction", "vectors", "second", "near", "x", "y"]
theorem sc__law_due : FnScope N__law_due ["reader", "grid", "place", "kind", "refs"] (defScope s__law_due) := ⟨rfl, rfl, rfl, by decide +kernel, rfl, by decide +kernel, by decide +kernel⟩
theorem ok__law_due (D : DefX K mg "_law_due" s__law_due ["reader", "grid", "place", "kind", "refs"] pats__law_due) (T : Txt w K mg AD) (c_SymbolReader_choice : MetX P w K mg base 4 AD.c_SymbolReader "choice" (sp_SymbolReader_choice K AD) pats_SymbolReader_choice) (c__law_predicted : CalX P w K mg base 2 "_law_predicted" (sp__law_predicted K AD) pats__law_predicted) (c_SymbolReader_signed : MetX P w K mg base 6 AD.c_SymbolReader "signed" (sp_SymbolReader_signed K AD) pats_SymbolReader_signed) : CalX P w K mg base 7 "_law_due" (sp__law_due K AD) pats__law_due := by
  refine D.ok sc__law_due (fun vs H Q E h => ?_) (fun f cdv A_ outer s H vs Q E hr h => ?_)
  · obtain ⟨G, p_reader, p_reader_dec, l_reader_dec_probs, l_reader_dec_octs, dx_reader, dx_reader_dec, reader', a_grid, vs_grid, L_grid, grid', v_place, place', kind', refs', rfl, _⟩ := h
    rfl
  · obtain ⟨G, p_reader, p_reader_dec, l_reader_dec_probs, l_reader_dec_octs, dx_reader, dx_reader_dec, reader', a_grid, vs_grid, L_grid, grid', v_place, place', kind', refs', rfl, sG, gM, h_p_reader, h_p_reader_dec, h_l_reader_dec_probs, h_l_reader_dec_octs, ne_reader_0, ne_reader_1, q_grid, w_grid, r_place, hw⟩ := h
    refine ⟨_, (pss_cons (ps_set (i := 5) sc__law_due.nd rfl (Or.inl rfl) pe_int)
      (pss_cons (ps_set (i := 6) sc__law_due.nd rfl (Or.inl rfl) pe_int)
      (C8.pss_cut (ps_if (PW.pt (pw_and (pt_cmp (pc_eqI (pv 3) pe_int)) (pw_and1 (pt_cmp (pc_eqI (pv 4) pe_int))))) (pss_one (ps_set (i := 5) sc__law_due.nd rfl (Or.inl rfl) (vx_methX c_SymbolReader_choice pat_SymbolReader_choice_0 (.head _) hr (by decide) (takes_of rfl rfl rfl rfl) (pv 0) (pa_cons (C8.pe_gc rfl T.g_INDEX) pa_nil) (pk_cons pe_int pk_nil)))) pss_nil)
      (C8.pss_cut (ps_if (pt_cmp (pc_eqI (pv 3) pe_int)) (pss_one (ps_set (i := 6) sc__law_due.nd rfl (Or.inl rfl) (vx_methX c_SymbolReader_choice pat_SymbolReader_choice_0 (.head _) hr (by decide) (takes_of rfl rfl rfl rfl) (pv 0) (pa_cons (C8.pe_gc rfl T.g_DIRECTION) pa_nil) (pk_cons pe_int pk_nil)))) pss_nil)
      (pss_cons (ps_set (i := 7) sc__law_due.nd rfl (Or.inl rfl) (pe_lst (pa_cons pe_non (pa_cons pe_non pa_nil))))
      (pss_cons (ps_for (passes_of rfl) rfl (pi_range1 rfl T.b_range (pa_cons pe_int pa_nil)) (pg_name (i := 8) sc__law_due.nd rfl (Or.inl rfl)) (pss_one (ps_if (pt_cmp (pc_neI (pv 6) (pe_op op_sub pe_int (pv 8)))) (pss_cons (ps_set (i := 9) sc__law_due.nd rfl (Or.inl rfl) (vx_callX c__law_predicted pat__law_predicted_0 (.head _) hr (by decide) (takes_of rfl rfl rfl rfl) rfl (pa_cons (pv 1) (pa_cons (pe_ix (ix_tupK (K := K)) (pv 2) pe_int (fun _ _ => rfl)) (pa_cons (pe_ix (ix_tupK (K := K)) (pv 2) pe_int (fun _ _ => rfl)) (pa_cons (pv 8) pa_nil)))) pk_nil))
      (pss_cons (ps_set (i := 10) sc__law_due.nd rfl (Or.inl rfl) (pe_op op_add (pe_ix (ix_tupK (K := K)) (pv 9) pe_int (fun _ _ => rfl)) (vx_methX c_SymbolReader_signed pat_SymbolReader_signed_0 (.head _) hr (by decide) (takes_of rfl rfl rfl rfl) (pv 0) (pa_cons (C8.pe_gc rfl T.g_VECTOR_X) pa_nil) pk_nil)))
      (pss_cons (ps_set (i := 11) sc__law_due.nd rfl (Or.inl rfl) (pe_op op_add (pe_ix (ix_tupK (K := K)) (pv 9) pe_int (fun _ _ => rfl)) (vx_methX c_SymbolReader_signed pat_SymbolReader_signed_0 (.head _) hr (by decide) (takes_of rfl rfl rfl rfl) (pv 0) (pa_cons (C8.pe_gc rfl T.g_VECTOR_Y) pa_nil) pk_nil)))
      (pss_one (ps_asg (pe_tup (pa_cons (pe_callB (call_min2 rfl) (by rfl) T.b_min (by decide +kernel) (pa_cons pe_int (pa_cons (pe_callB (call_max2 rfl) (by rfl) T.b_max (by decide +kernel) (pa_cons (pe_un un_neg pe_int) (pa_cons (pv 10) pa_nil))) pa_nil))) (pa_cons (pe_callB (call_min2 rfl) (by rfl) T.b_min (by decide +kernel) (pa_cons pe_int (pa_cons (pe_callB (call_max2 rfl) (by rfl) T.b_max (by decide +kernel) (pa_cons (pe_un un_neg pe_int) (pa_cons (pv 11) pa_nil))) pa_nil))) pa_nil))) (pg_sub (pv 7) (pv 8) set_list)))))) pss_nil)))
      (pss_one (ps_ret (pe_tup (pa_cons (pv 6) (pa_cons (pv 5) (pa_cons (pe_ix (ix_listK (K := K)) (pv 7) pe_int (fun _ _ => rfl)) (pa_cons (pe_ix (ix_listK (K := K)) (pv 7) pe_int (fun _ _ => rfl)) pa_nil))))))))))))), ?_⟩
    obtain ⟨KK, EE, hK0, hE, hw⟩ := cW_gen hw
    have S0 := Sep.startM (M := [p_reader, p_reader_dec, l_reader_dec_probs, l_reader_dec_octs]) sG (all_cons (some_ne h_p_reader) (all_cons (some_ne h_p_reader_dec) (all_cons (some_ne h_l_reader_dec_probs) (all_cons (some_ne h_l_reader_dec_octs) all_nil)))) gM
    unfold F__law_due at hw
    obtain ⟨a1371, v1373, v1374, rfl, h1372, r1375, r1376⟩ := rp_tup2 r_place
    obtain rfl := rp_int r1375
    obtain rfl := rp_int r1376
    refine ⟨fun σ H' => ∃ (reader_1383 : St_SymbolReader) (index_1384 : Int) (G' : Hp), σ = [some (V.ref p_reader), some (V.ref a_grid), some (V.ref a1371), some (V.int (kind')), some (V.int (refs')), some (V.int index_1384), some (V.int (0)), none, none, none, none, none] ∧ Same G G' ∧ Sep [p_reader, p_reader_dec, l_reader_dec_probs, l_reader_dec_octs] H G G' H' [p_reader, p_reader_dec, l_reader_dec_probs, l_reader_dec_octs] ∧ H' p_reader = some (.ins AD.c_SymbolReader dx_reader [("_decoder", V.ref p_reader_dec)]) ∧ H' p_reader_dec = some (.ins AD.c_Decoder dx_reader_dec [("_probabilities", V.ref l_reader_dec_probs), ("_octets", V.ref l_reader_dec_octs), ("_place", V.int (reader_1383.dec.place)), ("_span", V.int (reader_1383.dec.span)), ("_value", V.int (reader_1383.dec.value))]) ∧ H' l_reader_dec_probs = some (.lst ((reader_1383.dec.probs : (List Int)).map V.int)) ∧ H' l_reader_dec_octs = some (.lst ((reader_1383.dec.octs : (List Int)).map V.int)) ∧ cW (F__law_due_k1 (grid') (place') (kind') (0) reader_1383 index_1384) KK EE, ?_, ?_⟩
    · obtain ⟨K1385, hK1386, hw⟩ := cW_push hw
      refine ⟨_, rfl, _, _, rfl, rfl, _, rfl, ?_⟩
      refine iteD (fun c1387 => ?_) (fun c1387 => ?_)
      · have hw := cW_pos c1387 hw
        refine ⟨_, rfl, _, _, rfl, rfl, _, rfl, ?_⟩
        refine iteD (fun c1388 => ?_) (fun c1388 => ?_)
        · have hw := cW_pos c1388 hw
          refine ⟨_, rfl, _, _, _, rfl, h_p_reader, rfl, rfl, rfl, G, _, _, _, _, _, _, reader', _, _, rfl, S0.sG, (S0.gno (all_cons (.head _) (all_cons (.tail _ (.head _)) (all_cons (.tail _ (.tail _ (.head _))) (all_cons (.tail _ (.tail _ (.tail _ (.head _)))) all_nil))))), h_p_reader, h_p_reader_dec, h_l_reader_dec_probs, h_l_reader_dec_octs, ne_reader_0, ne_reader_1, cW_call hw (fun v1389 hw H1390 x1391 h1393 h1394 h1395 h1396  => ?_) (fun e he H2 e2 => hE e he H2 (Same.trans (Same.refl _) e2))⟩
          have S1392 := S0.mut x1391 (all_cons (.head _) (all_cons (.tail _ (.head _)) (all_cons (.tail _ (.tail _ (.head _))) (all_cons (.tail _ (.tail _ (.tail _ (.head _)))) all_nil)))) (all_cons (some_ne h1393) (all_cons (some_ne h1394) (all_cons (some_ne h1395) (all_cons (some_ne h1396) all_nil))))
          have hw := cW_ok hw
          have hw := hK1386 _ hw
          exact ⟨(v1389.2), (v1389.1), _, rfl, (Same.refl _), S1392, h1393, h1394, h1395, h1396, hw⟩
        · have hw := cW_neg c1388 hw
          have hw := cW_ok hw
          have hw := hK1386 _ hw
          exact ⟨(reader'), (0), _, rfl, (Same.refl _), S0, h_p_reader, h_p_reader_dec, h_l_reader_dec_probs, h_l_reader_dec_octs, hw⟩
      · have hw := cW_neg c1387 hw
        refine iteF ?_
        have hw := cW_ok hw
        have hw := hK1386 _ hw
        exact ⟨(reader'), (0), _, rfl, (Same.refl _), S0, h_p_reader, h_p_reader_dec, h_l_reader_dec_probs, h_l_reader_dec_octs, hw⟩
    · intro σ H1401 hw
      obtain ⟨reader_1383, index_1384, G1407, rfl, eG1408, S1402, h1403, h1404, h1405, h1406, hw⟩ := hw
      unfold F__law_due_k1 at hw
      refine ⟨fun σ H' => ∃ (reader_1414 : St_SymbolReader) (direction_1415 : Int) (G' : Hp), σ = [some (V.ref p_reader), some (V.ref a_grid), some (V.ref a1371), some (V.int (kind')), some (V.int (refs')), some (V.int (index_1384)), some (V.int direction_1415), none, none, none, none, none] ∧ Same G1407 G' ∧ Sep [p_reader, p_reader_dec, l_reader_dec_probs, l_reader_dec_octs] H G G' H' [p_reader, p_reader_dec, l_reader_dec_probs, l_reader_dec_octs] ∧ H' p_reader = some (.ins AD.c_SymbolReader dx_reader [("_decoder", V.ref p_reader_dec)]) ∧ H' p_reader_dec = some (.ins AD.c_Decoder dx_reader_dec [("_probabilities", V.ref l_reader_dec_probs), ("_octets", V.ref l_reader_dec_octs), ("_place", V.int (reader_1414.dec.place)), ("_span", V.int (reader_1414.dec.span)), ("_value", V.int (reader_1414.dec.value))]) ∧ H' l_reader_dec_probs = some (.lst ((reader_1414.dec.probs : (List Int)).map V.int)) ∧ H' l_reader_dec_octs = some (.lst ((reader_1414.dec.octs : (List Int)).map V.int)) ∧ cW (F__law_due_k2 (grid') (place') (index_1384) reader_1414 direction_1415) KK EE, ?_, ?_⟩
      · obtain ⟨K1416, hK1417, hw⟩ := cW_push hw
        refine ⟨_, rfl, _, _, rfl, rfl, _, rfl, ?_⟩
        refine iteD (fun c1418 => ?_) (fun c1418 => ?_)
        · have hw := cW_pos c1418 hw
          refine ⟨_, rfl, _, _, _, rfl, h1403, rfl, rfl, rfl, G1407, _, _, _, _, _, _, reader_1383, _, _, rfl, S1402.sG, (S1402.gno (all_cons (.head _) (all_cons (.tail _ (.head _)) (all_cons (.tail _ (.tail _ (.head _))) (all_cons (.tail _ (.tail _ (.tail _ (.head _)))) all_nil))))), h1403, h1404, h1405, h1406, ne_reader_0, ne_reader_1, cW_callN hw (fun v1419 hw H1420 x1421 h1423 h1424 h1425 h1426  => ?_) trivial⟩
          have S1422 := S1402.mut x1421 (all_cons (.head _) (all_cons (.tail _ (.head _)) (all_cons (.tail _ (.tail _ (.head _))) (all_cons (.tail _ (.tail _ (.tail _ (.head _)))) all_nil)))) (all_cons (some_ne h1423) (all_cons (some_ne h1424) (all_cons (some_ne h1425) (all_cons (some_ne h1426) all_nil))))
          have hw := cW_ok hw
          have hw := hK1417 _ hw
          exact ⟨(v1419.2), (v1419.1), _, rfl, (Same.refl _), S1422, h1423, h1424, h1425, h1426, hw⟩
        · have hw := cW_neg c1418 hw
          have hw := cW_ok hw
          have hw := hK1417 _ hw
          exact ⟨(reader_1383), (0), _, rfl, (Same.refl _), S1402, h1403, h1404, h1405, h1406, hw⟩
      · intro σ H1431 hw
        obtain ⟨reader_1414, direction_1415, G1437, rfl, eG1438, S1432, h1433, h1434, h1435, h1436, hw⟩ := hw
        unfold F__law_due_k2 at hw
        have r1439 : Rp G1437 (V.non) (encD (encN (()))) := .non
        have r1440 : Rp G1437 (V.non) (encD (encN (()))) := .non
        refine ⟨(by show 2 ≤ sizeLine; decide), fun p1441 n1442 => ?_⟩
        generalize g1443 : upd H1431 p1441 _ = H1444
        obtain ⟨e1445, h1446⟩ := gen_new n1442 g1443
        have h1447 : H1444 p1441 = some (.lst ([(V.non), (V.non)])) := h1446
        have fr1448 := S1432.free n1442
        have S1449 := S1432.new n1442 e1445 h1447 fr1448
        have d1450 : RpAll G1437 ([(V.non), (V.non)]) (([(encN (())), (encN (()))] : (List PyData)).map encD) := (RpAll.cons r1440 (RpAll.cons r1440 RpAll.nil))
        obtain ⟨K1456, hK1457, hw⟩ := cW_push hw
        refine ⟨_, rfl, (by decide), (by decide), for_range (lo := 0) (n := Int.toNat (2)) (fun i σ H' => ∃ (reader_1458 : St_SymbolReader) (vectors_1459 : (List PyData)) (vs1460 : List V) (u1461 : Option V) (u1462 : Option V) (u1463 : Option V) (u1464 : Option V) (G' : Hp), σ = [some (V.ref p_reader), some (V.ref a_grid), some (V.ref a1371), some (V.int (kind')), some (V.int (refs')), some (V.int (index_1384)), some (V.int (direction_1415)), some (V.ref p1441), u1461, u1462, u1463, u1464] ∧ Same G1437 G' ∧ Sep [p_reader, p_reader_dec, l_reader_dec_probs, l_reader_dec_octs] H G G' H' [p_reader, p_reader_dec, l_reader_dec_probs, l_reader_dec_octs, p1441] ∧ H' p_reader = some (.ins AD.c_SymbolReader dx_reader [("_decoder", V.ref p_reader_dec)]) ∧ H' p_reader_dec = some (.ins AD.c_Decoder dx_reader_dec [("_probabilities", V.ref l_reader_dec_probs), ("_octets", V.ref l_reader_dec_octs), ("_place", V.int (reader_1458.dec.place)), ("_span", V.int (reader_1458.dec.span)), ("_value", V.int (reader_1458.dec.value))]) ∧ H' l_reader_dec_probs = some (.lst ((reader_1458.dec.probs : (List Int)).map V.int)) ∧ H' l_reader_dec_octs = some (.lst ((reader_1458.dec.octs : (List Int)).map V.int)) ∧ H' p1441 = some (.lst (vs1460)) ∧ RpAll G' (vs1460) ((vectors_1459 : (List PyData)).map encD) ∧ cW (forS (List.drop i (rng (0) (Int.toNat (2)))) (reader_1458, vectors_1459) (fun s x => F__law_due_b3 (grid') (place') (direction_1415) (s.1) (s.2) x)) K1456 EE) ?_ ?_ ?_⟩
        · have h1465 := (e1445 _ _ h1433)
          have h1466 := (e1445 _ _ h1434)
          have h1467 := (e1445 _ _ h1435)
          have h1468 := (e1445 _ _ h1436)
          exact ⟨(reader_1414), ([(encN (())), (encN (()))]), _, _, _, _, _, _, rfl, (Same.refl _), (S1449.sub (all_cons (.tail _ (.head _)) (all_cons (.tail _ (.tail _ (.head _))) (all_cons (.tail _ (.tail _ (.tail _ (.head _)))) (all_cons (.tail _ (.tail _ (.tail _ (.tail _ (.head _))))) (all_cons (.head _) all_nil)))))), h1465, h1466, h1467, h1468, h1447, d1450, hw⟩
        · intro i σ H1469 hi hw
          obtain ⟨reader_1458, vectors_1459, vs1460, u1461, u1462, u1463, u1464, G1477, rfl, eG1478, S1470, h1471, h1472, h1473, h1474, h1475, d1476, hw⟩ := hw
          have hw := cW_forS (rng_get hi) hw
          generalize (0 + (i : Int)) = x1479 at hw ⊢
          have hw : cW (F__law_due_b3 (grid') (place') (direction_1415) (reader_1458) (vectors_1459) (x1479)) _ EE := hw
          unfold F__law_due_b3 at hw
          obtain ⟨K1482, hK1483, hw⟩ := cW_name hw
          refine ⟨_, rfl, _, rfl, _, _, rfl, rfl, _, _, rfl, rfl, _, rfl, ?_⟩
          refine iteN (fun c1485 => ?_) (fun c1485 => ?_)
          · have hw := cW_neg c1485 hw
            refine ⟨_, rfl, _, rfl, _, _, _, _, rfl, rfl, (SqT.of (S1470.bM _ _ h1372)), rfl, _, rfl, _, _, _, _, rfl, rfl, (SqT.of (S1470.bM _ _ h1372)), rfl, _, rfl, rfl, rfl, G1477, _, _, L_grid, grid', _, _, _, rfl, S1470.sG, (hide_nil (S1470.bM _ _ q_grid)), (OwAll.mono (Same.trans (Same.trans eG1408 eG1438) eG1478) (keeps_same (Sep.bhide S1470 all_nil)) w_grid), cW_callN hw (fun v1486 hw v1489 H1487 G1490 e1488 eG1491 sG1492 hn1493 r1494 => ?_) trivial⟩
            have S1495 := S1470.step e1488 eG1491 sG1492 hn1493
            obtain ⟨a1496, v1498, v1499, rfl, h1497, r1500, r1501⟩ := rp_tup2 r1494
            obtain rfl := rp_int r1500
            obtain rfl := rp_int r1501
            have h1502 := (e1488 _ _ h1471)
            have h1503 := (e1488 _ _ h1472)
            have h1504 := (e1488 _ _ h1473)
            have h1505 := (e1488 _ _ h1474)
            refine ⟨_, rfl, _, _, _, _, rfl, rfl, (SqT.of (S1495.sG _ _ h1497)), rfl, _, rfl, _, _, _, rfl, h1502, rfl, rfl, rfl, G1490, _, _, _, _, _, _, reader_1458, _, rfl, S1495.sG, (S1495.gno (all_cons (.head _) (all_cons (.tail _ (.head _)) (all_cons (.tail _ (.tail _ (.head _))) (all_cons (.tail _ (.tail _ (.tail _ (.head _)))) all_nil))))), h1502, h1503, h1504, h1505, ne_reader_0, ne_reader_1, cW_callN hw (fun v1506 hw H1507 x1508 h1510 h1511 h1512 h1513  => ?_) trivial⟩
            have S1509 := S1495.mut x1508 (all_cons (.head _) (all_cons (.tail _ (.head _)) (all_cons (.tail _ (.tail _ (.head _))) (all_cons (.tail _ (.tail _ (.tail _ (.head _)))) all_nil)))) (all_cons (some_ne h1510) (all_cons (some_ne h1511) (all_cons (some_ne h1512) (all_cons (some_ne h1513) all_nil))))
            refine ⟨_, _, rfl, rfl, ?_⟩
            have hw := cW_bnd hw
            refine ⟨_, rfl, _, _, _, _, rfl, rfl, (SqT.of (S1509.sG _ _ h1497)), rfl, _, rfl, _, _, _, rfl, h1510, rfl, rfl, rfl, G1490, _, _, _, _, _, _, v1506.2, _, rfl, S1509.sG, (S1509.gno (all_cons (.head _) (all_cons (.tail _ (.head _)) (all_cons (.tail _ (.tail _ (.head _))) (all_cons (.tail _ (.tail _ (.tail _ (.head _)))) all_nil))))), h1510, h1511, h1512, h1513, ne_reader_0, ne_reader_1, cW_callN hw (fun v1519 hw H1520 x1521 h1523 h1524 h1525 h1526  => ?_) trivial⟩
            have S1522 := S1509.mut x1521 (all_cons (.head _) (all_cons (.tail _ (.head _)) (all_cons (.tail _ (.tail _ (.head _))) (all_cons (.tail _ (.tail _ (.tail _ (.head _)))) all_nil)))) (all_cons (some_ne h1523) (all_cons (some_ne h1524) (all_cons (some_ne h1525) (all_cons (some_ne h1526) all_nil))))
            refine ⟨_, _, rfl, rfl, ?_⟩
            have hw := cW_bnd hw
            refine ⟨_, rfl, _, rfl, _, _, rfl, _, _, rfl, _, rfl, _, rfl, _, _, rfl, _, _, rfl, (by show 2 ≤ sizeLine; decide), fun p1532 n1533 => ?_⟩
            generalize g1534 : upd H1520 p1532 _ = H1535
            obtain ⟨e1536, h1537⟩ := gen_new n1533 g1534
            have h1538 : H1535 p1532 = some (.tup [V.int ((if (if (v1486.1 + v1506.1) > (-1023) then (v1486.1 + v1506.1) else (-1023)) < 1023 then (if (v1486.1 + v1506.1) > (-1023) then (v1486.1 + v1506.1) else (-1023)) else 1023)), V.int ((if (if (v1486.2 + v1519.1) > (-1023) then (v1486.2 + v1519.1) else (-1023)) < 1023 then (if (v1486.2 + v1519.1) > (-1023) then (v1486.2 + v1519.1) else (-1023)) else 1023))]) := h1537
            have fr1539 := S1522.free n1533
            obtain ⟨G1541, eG1542, hg1543, S1540⟩ := S1522.grow n1533 e1536 h1538 fr1539
            refine ⟨_, rfl, _, rfl, ?_⟩
            have r1544 : Rp G1541 (V.ref p1532) (encD ((encT2 PyData.int PyData.int) (((if (if (v1486.1 + v1506.1) > (-1023) then (v1486.1 + v1506.1) else (-1023)) < 1023 then (if (v1486.1 + v1506.1) > (-1023) then (v1486.1 + v1506.1) else (-1023)) else 1023), (if (if (v1486.2 + v1519.1) > (-1023) then (v1486.2 + v1519.1) else (-1023)) < 1023 then (if (v1486.2 + v1519.1) > (-1023) then (v1486.2 + v1519.1) else (-1023)) else 1023))))) := (rp_mk2 hg1543 (.int _) (.int _))
            obtain ⟨g1545, hw⟩ := cW_grd hw
            have h1546 := (e1536 _ _ (x1521 _ _ (x1508 _ _ (e1488 _ _ h1475) (ni4 (ne_of_none h1433 n1442).symm (ne_of_none h1434 n1442).symm (ne_of_none h1435 n1442).symm (ne_of_none h1436 n1442).symm)) (ni4 (ne_of_none h1433 n1442).symm (ne_of_none h1434 n1442).symm (ne_of_none h1435 n1442).symm (ne_of_none h1436 n1442).symm)))
            refine ⟨_, _, _, _, rfl, rfl, h1546, (ixN_len (by rw [RpAll.len (RpAll.mono eG1542 (RpAll.mono eG1491 d1476)), List.length_map]) g1545), ?_⟩
            generalize g1547 : upd H1535 p1441 _ = H1548
            obtain ⟨x1549, h1550⟩ := gen_mut g1547
            have h1551 : H1548 p1441 = some (.lst ((vs1460).set ((ixN (vs1460).length (x1479)).getD 0) ((V.ref p1532)))) := h1550
            have S1552 := S1540.mut1 x1549 (.tail _ (.tail _ (.tail _ (.tail _ (.head _))))) h1551
            have d1553 : RpAll G1541 ((vs1460).set ((ixN (vs1460).length (x1479)).getD 0) ((V.ref p1532))) ((setL (vectors_1459) (x1479) (((encT2 PyData.int PyData.int) (((if (if (v1486.1 + v1506.1) > (-1023) then (v1486.1 + v1506.1) else (-1023)) < 1023 then (if (v1486.1 + v1506.1) > (-1023) then (v1486.1 + v1506.1) else (-1023)) else 1023), (if (if (v1486.2 + v1519.1) > (-1023) then (v1486.2 + v1519.1) else (-1023)) < 1023 then (if (v1486.2 + v1519.1) > (-1023) then (v1486.2 + v1519.1) else (-1023)) else 1023))))) : (List PyData)).map encD) := RpAll.setM (RpAll.mono eG1542 (RpAll.mono eG1491 d1476)) r1544
            have hw := cW_bnd hw
            have hw := cW_ok hw
            have hw := hK1483 _ hw
            have h1555 := (x1549 _ _ (e1536 _ _ h1523) (ne_of_none h1433 n1442))
            have h1556 := (x1549 _ _ (e1536 _ _ h1524) (ne_of_none h1434 n1442))
            have h1557 := (x1549 _ _ (e1536 _ _ h1525) (ne_of_none h1435 n1442))
            have h1558 := (x1549 _ _ (e1536 _ _ h1526) (ne_of_none h1436 n1442))
            exact ⟨(v1519.2), (setL (vectors_1459) (x1479) (((encT2 PyData.int PyData.int) (((if (if (v1486.1 + v1506.1) > (-1023) then (v1486.1 + v1506.1) else (-1023)) < 1023 then (if (v1486.1 + v1506.1) > (-1023) then (v1486.1 + v1506.1) else (-1023)) else 1023), (if (if (v1486.2 + v1519.1) > (-1023) then (v1486.2 + v1519.1) else (-1023)) < 1023 then (if (v1486.2 + v1519.1) > (-1023) then (v1486.2 + v1519.1) else (-1023)) else 1023)))))), _, _, _, _, _, _, rfl, (Same.trans (Same.trans eG1478 eG1491) eG1542), S1552, h1555, h1556, h1557, h1558, h1551, d1553, hw⟩
          · have hw := cW_pos c1485 hw
            have hw := cW_ok hw
            have hw := hK1483 _ hw
            exact ⟨(reader_1458), (vectors_1459), _, _, _, _, _, _, rfl, eG1478, S1470, h1471, h1472, h1473, h1474, h1475, d1476, hw⟩
        · intro σ H1559 hw
          obtain ⟨reader_1458, vectors_1459, vs1460, u1461, u1462, u1463, u1464, G1567, rfl, eG1568, S1560, h1561, h1562, h1563, h1564, h1565, d1566, hw⟩ := hw
          have hw := hK1457 _ (cW_forS0 (rng_len _ _).symm hw)
          have hw : cW (F__law_due_r3 (index_1384) (direction_1415) (reader_1458) (vectors_1459)) _ EE := hw
          unfold F__law_due_r3 at hw
          obtain ⟨g1571, hw⟩ := cW_grd hw
          obtain ⟨v1572, a1573, r1574⟩ := RpAll.ixD (k := 0) d1566 g1571
          obtain ⟨g1575, hw⟩ := cW_grd hw
          obtain ⟨v1576, a1577, r1578⟩ := RpAll.ixD (k := 1) d1566 g1575
          refine ⟨_, rfl, _, rfl, _, rfl, _, _, _, _, rfl, rfl, (SqL.of h1565), a1573, _, rfl, _, _, _, _, rfl, rfl, (SqL.of h1565), a1577, (by show 4 ≤ sizeLine; decide), fun p1579 n1580 => ?_⟩
          generalize g1581 : upd H1559 p1579 _ = H1582
          obtain ⟨e1583, h1584⟩ := gen_new n1580 g1581
          have h1585 : H1582 p1579 = some (.tup [V.int (direction_1415), V.int (index_1384), v1572, v1576]) := h1584
          have fr1586 := S1560.free n1580
          obtain ⟨G1588, eG1589, hg1590, S1587⟩ := S1560.grow n1580 e1583 h1585 fr1586
          have h1591 := (e1583 _ _ h1561)
          have h1592 := (e1583 _ _ h1562)
          have h1593 := (e1583 _ _ h1563)
          have h1594 := (e1583 _ _ h1564)
          have hw := cW_ok hw
          exact hK0 _ hw _ S1587.base h1591 h1592 h1593 h1594 _ _ S1587.g0 S1587.sG S1587.gn (rp_mk4 hg1590 (.int _) (.int _) (Rp.mono eG1589 r1574) (Rp.mono eG1589 r1578))

abbrev N_clip : List Str := ["value", "low", "high"]
theorem sc_clip : FnScope N_clip ["value", "low", "high"] (defScope s_clip) := ⟨rfl, rfl, rfl, by decide +kernel, rfl, by decide +kernel, by decide +kernel⟩
theorem ok_clip (D : DefX K mg "clip" s_clip ["value", "low", "high"] pats_clip) (T : Txt w K mg AD)  : CalX P w K mg base 1 "clip" (sp_clip K AD) pats_clip := by
  refine D.ok sc_clip (fun vs H Q E h => ?_) (fun f cdv A_ outer s H vs Q E hr h => ?_)
  · obtain ⟨G, value', low', high', rfl, _⟩ := h
    rfl
  · obtain ⟨G, value', low', high', rfl, sG, hw⟩ := h
    refine ⟨_, (pss_one (ps_ret (pe_callB (call_min2 rfl) (by rfl) T.b_min (by decide +kernel) (pa_cons (pe_callB (call_max2 rfl) (by rfl) T.b_max (by decide +kernel) (pa_cons (pv 0) (pa_cons (pv 1) pa_nil))) (pa_cons (pv 2) pa_nil))))), ?_⟩
    obtain ⟨KK, EE, hK0, hE, hw⟩ := cW_gen hw
    have S0 := Sep.startG sG
    unfold F_clip at hw
    refine ⟨_, rfl, _, rfl, _, _, rfl, _, rfl, _, _, rfl, ?_⟩
    have hw := cW_ok hw
    exact hK0 _ hw

abbrev N__clip_component : List Str := ["component"]
theorem sc__clip_component : FnScope N__clip_component ["component"] (defScope s__clip_component) := ⟨rfl, rfl, rfl, by decide +kernel, rfl, by decide +kernel, by decide +kernel⟩
theorem ok__clip_component (D : DefX K mg "_clip_component" s__clip_component ["component"] pats__clip_component) (T : Txt w K mg AD) (c_clip : CalX P w K mg base 1 "clip" (sp_clip K AD) pats_clip) : CalX P w K mg base 2 "_clip_component" (sp__clip_component K AD) pats__clip_component := by
  refine D.ok sc__clip_component (fun vs H Q E h => ?_) (fun f cdv A_ outer s H vs Q E hr h => ?_)
  · obtain ⟨G, component', rfl, _⟩ := h
    rfl
  · obtain ⟨G, component', rfl, sG, hw⟩ := h
    refine ⟨_, (pss_one (ps_ret (vx_callX c_clip pat_clip_0 (.head _) hr (by decide) (takes_of rfl rfl rfl rfl) rfl (pa_cons (pv 0) (pa_cons (pe_un un_neg (C8.pe_gc rfl T.g_GREATEST_COMPONENT)) (pa_cons (C8.pe_gc rfl T.g_GREATEST_COMPONENT) pa_nil))) pk_nil))), ?_⟩
    obtain ⟨KK, EE, hK0, hE, hw⟩ := cW_gen hw
    have S0 := Sep.startG sG
    unfold F__clip_component at hw
    refine ⟨_, rfl, _, rfl, rfl, rfl, G, _, _, _, rfl, S0.sG, cW_call hw (fun v1595 hw => ?_) (fun e he => hE e he)⟩
    have hw := cW_ok hw
    exact hK0 _ hw

abbrev N_clip_vector : List Str := ["x", "y"]
theorem sc_clip_vector : FnScope N_clip_vector ["x", "y"] (defScope s_clip_vector) := ⟨rfl, rfl, rfl, by decide +kernel, rfl, by decide +kernel, by decide +kernel⟩
theorem ok_clip_vector (D : DefX K mg "clip_vector" s_clip_vector ["x", "y"] pats_clip_vector) (T : Txt w K mg AD) (c__clip_component : CalX P w K mg base 2 "_clip_component" (sp__clip_component K AD) pats__clip_component) : CalX P w K mg base 3 "clip_vector" (sp_clip_vector K AD) pats_clip_vector := by
  refine D.ok sc_clip_vector (fun vs H Q E h => ?_) (fun f cdv A_ outer s H vs Q E hr h => ?_)
  · obtain ⟨G, x', y', rfl, _⟩ := h
    rfl
  · obtain ⟨G, x', y', rfl, sG, hw⟩ := h
    refine ⟨_, (pss_one (ps_ret (pe_tup (pa_cons (vx_callX c__clip_component pat__clip_component_0 (.head _) hr (by decide) (takes_of rfl rfl rfl rfl) rfl (pa_cons (pv 0) pa_nil) pk_nil) (pa_cons (vx_callX c__clip_component pat__clip_component_0 (.head _) hr (by decide) (takes_of rfl rfl rfl rfl) rfl (pa_cons (pv 1) pa_nil) pk_nil) pa_nil))))), ?_⟩
    obtain ⟨KK, EE, hK0, hE, hw⟩ := cW_gen hw
    have S0 := Sep.startG sG
    unfold F_clip_vector at hw
    refine ⟨_, rfl, rfl, rfl, G, _, rfl, S0.sG, cW_call hw (fun v1596 hw => ?_) (fun e he => hE e he _ S0.b0)⟩
    refine ⟨_, rfl, rfl, rfl, G, _, rfl, S0.sG, cW_call hw (fun v1597 hw => ?_) (fun e he => hE e he _ S0.b0)⟩
    refine ⟨(by show 2 ≤ sizeLine; decide), fun p1598 n1599 => ?_⟩
    generalize g1600 : upd H p1598 _ = H1601
    obtain ⟨e1602, h1603⟩ := gen_new n1599 g1600
    have h1604 : H1601 p1598 = some (.tup [V.int (v1596), V.int (v1597)]) := h1603
    have fr1605 := S0.free n1599
    obtain ⟨G1607, eG1608, hg1609, S1606⟩ := S0.grow n1599 e1602 h1604 fr1605
    have hw := cW_ok hw
    exact hK0 _ hw _ _ _ S1606.b0 S1606.g0 S1606.sG S1606.gn (rp_mk2 hg1609 (.int _) (.int _))

abbrev N__read_vector : List Str := ["reader", "predicted", "x", "y"]
theorem sc__read_vector : FnScope N__read_vector ["reader", "predicted"] (defScope s__read_vector) := ⟨rfl, rfl, rfl, by decide +kernel, rfl, by decide +kernel, by decide +kernel⟩
theorem ok__read_vector (D : DefX K mg "_read_vector" s__read_vector ["reader", "predicted"] pats__read_vector) (T : Txt w K mg AD) (c_SymbolReader_signed : MetX P w K mg base 6 AD.c_SymbolReader "signed" (sp_SymbolReader_signed K AD) pats_SymbolReader_signed) (c_clip_vector : CalX P w K mg base 3 "clip_vector" (sp_clip_vector K AD) pats_clip_vector) : CalX P w K mg base 7 "_read_vector" (sp__read_vector K AD) pats__read_vector := by
  refine D.ok sc__read_vector (fun vs H Q E h => ?_) (fun f cdv A_ outer s H vs Q E hr h => ?_)
  · obtain ⟨G, p_reader, p_reader_dec, l_reader_dec_probs, l_reader_dec_octs, dx_reader, dx_reader_dec, reader', v_predicted, predicted', rfl, _⟩ := h
    rfl
  · obtain ⟨G, p_reader, p_reader_dec, l_reader_dec_probs, l_reader_dec_octs, dx_reader, dx_reader_dec, reader', v_predicted, predicted', rfl, sG, gM, h_p_reader, h_p_reader_dec, h_l_reader_dec_probs, h_l_reader_dec_octs, ne_reader_0, ne_reader_1, r_predicted, hw⟩ := h
    refine ⟨_, (pss_cons (ps_set (i := 2) sc__read_vector.nd rfl (Or.inl rfl) (pe_op op_add (pe_ix (ix_tupK (K := K)) (pv 1) pe_int (fun _ _ => rfl)) (vx_methX c_SymbolReader_signed pat_SymbolReader_signed_0 (.head _) hr (by decide) (takes_of rfl rfl rfl rfl) (pv 0) (pa_cons (C8.pe_gc rfl T.g_VECTOR_X) pa_nil) pk_nil)))
      (pss_cons (ps_set (i := 3) sc__read_vector.nd rfl (Or.inl rfl) (pe_op op_add (pe_ix (ix_tupK (K := K)) (pv 1) pe_int (fun _ _ => rfl)) (vx_methX c_SymbolReader_signed pat_SymbolReader_signed_0 (.head _) hr (by decide) (takes_of rfl rfl rfl rfl) (pv 0) (pa_cons (C8.pe_gc rfl T.g_VECTOR_Y) pa_nil) pk_nil)))
      (pss_one (ps_ret (vx_callX c_clip_vector pat_clip_vector_0 (.head _) hr (by decide) (takes_of rfl rfl rfl rfl) rfl (pa_cons (pv 2) (pa_cons (pv 3) pa_nil)) pk_nil))))), ?_⟩
    obtain ⟨KK, EE, hK0, hE, hw⟩ := cW_gen hw
    have S0 := Sep.startM (M := [p_reader, p_reader_dec, l_reader_dec_probs, l_reader_dec_octs]) sG (all_cons (some_ne h_p_reader) (all_cons (some_ne h_p_reader_dec) (all_cons (some_ne h_l_reader_dec_probs) (all_cons (some_ne h_l_reader_dec_octs) all_nil)))) gM
    unfold F__read_vector at hw
    obtain ⟨a1610, v1612, v1613, rfl, h1611, r1614, r1615⟩ := rp_tup2 r_predicted
    obtain rfl := rp_int r1614
    obtain rfl := rp_int r1615
    refine ⟨_, rfl, _, _, _, _, rfl, rfl, (SqT.of (S0.bM _ _ h1611)), rfl, _, rfl, _, _, _, rfl, h_p_reader, rfl, rfl, rfl, G, _, _, _, _, _, _, reader', _, rfl, S0.sG, (S0.gno (all_cons (.head _) (all_cons (.tail _ (.head _)) (all_cons (.tail _ (.tail _ (.head _))) (all_cons (.tail _ (.tail _ (.tail _ (.head _)))) all_nil))))), h_p_reader, h_p_reader_dec, h_l_reader_dec_probs, h_l_reader_dec_octs, ne_reader_0, ne_reader_1, cW_call hw (fun v1616 hw H1617 x1618 h1620 h1621 h1622 h1623  => ?_) (fun e he H2 e2 => hE e he H2 (Same.trans (Same.refl _) e2))⟩
    have S1619 := S0.mut x1618 (all_cons (.head _) (all_cons (.tail _ (.head _)) (all_cons (.tail _ (.tail _ (.head _))) (all_cons (.tail _ (.tail _ (.tail _ (.head _)))) all_nil)))) (all_cons (some_ne h1620) (all_cons (some_ne h1621) (all_cons (some_ne h1622) (all_cons (some_ne h1623) all_nil))))
    refine ⟨_, _, rfl, rfl, ?_⟩
    have hw := cW_bnd hw
    refine ⟨_, rfl, _, _, _, _, rfl, rfl, (SqT.of (S1619.bM _ _ h1611)), rfl, _, rfl, _, _, _, rfl, h1620, rfl, rfl, rfl, G, _, _, _, _, _, _, v1616.2, _, rfl, S1619.sG, (S1619.gno (all_cons (.head _) (all_cons (.tail _ (.head _)) (all_cons (.tail _ (.tail _ (.head _))) (all_cons (.tail _ (.tail _ (.tail _ (.head _)))) all_nil))))), h1620, h1621, h1622, h1623, ne_reader_0, ne_reader_1, cW_callN hw (fun v1629 hw H1630 x1631 h1633 h1634 h1635 h1636  => ?_) trivial⟩
    have S1632 := S1619.mut x1631 (all_cons (.head _) (all_cons (.tail _ (.head _)) (all_cons (.tail _ (.tail _ (.head _))) (all_cons (.tail _ (.tail _ (.tail _ (.head _)))) all_nil)))) (all_cons (some_ne h1633) (all_cons (some_ne h1634) (all_cons (some_ne h1635) (all_cons (some_ne h1636) all_nil))))
    refine ⟨_, _, rfl, rfl, ?_⟩
    have hw := cW_bnd hw
    refine ⟨_, rfl, _, rfl, rfl, rfl, G, _, _, rfl, S1632.sG, cW_callN hw (fun v1642 hw v1645 H1643 G1646 e1644 eG1647 sG1648 hn1649 r1650 => ?_) trivial⟩
    have S1651 := S1632.step e1644 eG1647 sG1648 hn1649
    obtain ⟨a1652, v1654, v1655, rfl, h1653, r1656, r1657⟩ := rp_tup2 r1650
    obtain rfl := rp_int r1656
    obtain rfl := rp_int r1657
    have h1658 := (e1644 _ _ h1633)
    have h1659 := (e1644 _ _ h1634)
    have h1660 := (e1644 _ _ h1635)
    have h1661 := (e1644 _ _ h1636)
    have hw := cW_ok hw
    exact hK0 _ hw _ S1651.base h1658 h1659 h1660 h1661 _ _ S1651.g0 S1651.sG S1651.gn (rp_mk2 h1653 (.int _) (.int _))

abbrev N__median : List Str := ["numbers"]
theorem sc__median : FnScope N__median ["numbers"] (defScope s__median) := ⟨rfl, rfl, rfl, by decide +kernel, rfl, by decide +kernel, by decide +kernel⟩
theorem ok__median (D : DefX K mg "_median" s__median ["numbers"] pats__median) (T : Txt w K mg AD)  : CalX P w K mg base 1 "_median" (sp__median K AD) pats__median := by
  refine D.ok sc__median (fun vs H Q E h => ?_) (fun f cdv A_ outer s H vs Q E hr h => ?_)
  · obtain ⟨G, a_numbers, numbers', rfl, _⟩ := h
    rfl
  · obtain ⟨G, a_numbers, numbers', rfl, sG, q_numbers, hw⟩ := h
    refine ⟨_, (pss_one (ps_ret (pe_ix (ix_listK (K := K)) (pe_callB (cr_sortL (K := K)) (by rfl) T.b_sorted (by decide +kernel) (pa_cons (pv 0) pa_nil)) pe_int (fun _ _ => rfl)))), ?_⟩
    obtain ⟨KK, EE, hK0, hE, hw⟩ := cW_gen hw
    have S0 := Sep.startG sG
    unfold F__median at hw
    refine ⟨_, rfl, _, _, rfl, (SqL.of (S0.bM _ _ q_numbers)), fun p1662 n1663 => ?_⟩
    generalize g1664 : upd H p1662 _ = H1665
    obtain ⟨e1666, h1667⟩ := gen_new n1663 g1664
    have h1668 : H1665 p1662 = some (.lst (((sortL (numbers')) : (List Int)).map V.int)) := h1667
    have fr1669 := S0.free n1663
    have S1670 := S0.new n1663 e1666 h1668 fr1669
    obtain ⟨g1671, hw⟩ := cW_grd hw
    refine ⟨_, _, _, _, rfl, rfl, (SqL.of h1668), (atI_map g1671), ?_⟩
    have hw := cW_ok hw
    exact hK0 _ hw _ S1670.b0

abbrev N_MotionGrid__has : List Str := ["self", "x", "y"]
theorem sc_MotionGrid__has : FnScope N_MotionGrid__has ["self", "x", "y"] (defScope s_MotionGrid__has) := ⟨rfl, rfl, rfl, by decide +kernel, rfl, by decide +kernel, by decide +kernel⟩
theorem ok_MotionGrid__has (D : MethX K AD.c_MotionGrid "MotionGrid._has" "_has" s_MotionGrid__has ["self", "x", "y"] pats_MotionGrid__has) (T : Txt w K mg AD)  : MetX P w K mg base 1 AD.c_MotionGrid "_has" (sp_MotionGrid__has K AD) pats_MotionGrid__has := by
  refine D.ok T.cl_MotionGrid sc_MotionGrid__has (fun vs H Q E h => ?_) (fun f cdv A_ outer s H vs Q E hr h => ?_)
  · obtain ⟨G, p_self, l_self_lines, dx_self, vs_self_lines, L_self_lines, self', x', y', rfl, _⟩ := h
    rfl
  · obtain ⟨G, p_self, l_self_lines, dx_self, vs_self_lines, L_self_lines, self', x', y', rfl, sG, h_p_self, h_l_self_lines, w_self_lines, hw⟩ := h
    refine ⟨_, (pss_one (ps_ret (pe_and (pe_chain op_le op_lt pe_int (pv 1) (fldK (K := K) (pv 0))) (pe_one (pe_chain op_le op_lt pe_int (pv 2) (fldK (K := K) (pv 0))))))), ?_⟩
    obtain ⟨KK, EE, hK0, hE, hw⟩ := cW_gen hw
    have S0 := Sep.startG sG
    unfold F_MotionGrid__has at hw
    refine ⟨_, rfl, _, _, rfl, rfl, _, rfl, ?_⟩
    refine iteD (fun c1672 => ?_) (fun c1672 => ?_)
    · have hw := cW_pos c1672 hw
      refine ⟨_, rfl, _, _, _, _, _, rfl, (S0.bM _ _ h_p_self), T.cl_MotionGrid, T.n_MotionGrid__width, rfl, _, _, rfl, rfl, _, rfl, ?_⟩
      refine iteB (fun c1673 => ?_) (fun c1673 => ?_)
      · have hw := cW_pos c1673 hw
        refine ⟨_, rfl, _, _, rfl, rfl, _, rfl, ?_⟩
        refine iteD (fun c1674 => ?_) (fun c1674 => ?_)
        · have hw := cW_pos c1674 hw
          refine ⟨_, rfl, _, _, _, _, _, rfl, (S0.bM _ _ h_p_self), T.cl_MotionGrid, T.n_MotionGrid__height, rfl, _, _, rfl, rfl, ?_⟩
          have hw := cW_ok hw
          exact hK0 _ hw _ S0.b0
        · have hw := cW_neg c1674 hw
          have hw := cW_ok hw
          exact hK0 _ hw _ S0.b0
      · have hw := cW_negB c1673 hw
        have hw := cW_ok hw
        exact hK0 _ hw _ S0.b0
    · have hw := cW_neg c1672 hw
      refine ⟨_, rfl, ?_⟩
      refine iteF ?_
      have hw := cW_ok hw
      exact hK0 _ hw _ S0.b0

abbrev N_MotionGrid_motion_at : List Str := ["self", "x", "y"]
theorem sc_MotionGrid_motion_at : FnScope N_MotionGrid_motion_at ["self", "x", "y"] (defScope s_MotionGrid_motion_at) := ⟨rfl, rfl, rfl, by decide +kernel, rfl, by decide +kernel, by decide +kernel⟩
theorem ok_MotionGrid_motion_at (D : MethX K AD.c_MotionGrid "MotionGrid.motion_at" "motion_at" s_MotionGrid_motion_at ["self", "x", "y"] pats_MotionGrid_motion_at) (T : Txt w K mg AD) (c_MotionGrid__has : MetX P w K mg base 1 AD.c_MotionGrid "_has" (sp_MotionGrid__has K AD) pats_MotionGrid__has) : MetX P w K mg base 2 AD.c_MotionGrid "motion_at" (sp_MotionGrid_motion_at K AD) pats_MotionGrid_motion_at := by
  refine D.ok T.cl_MotionGrid sc_MotionGrid_motion_at (fun vs H Q E h => ?_) (fun f cdv A_ outer s H vs Q E hr h => ?_)
  · obtain ⟨G, p_self, l_self_lines, dx_self, vs_self_lines, L_self_lines, self', x', y', rfl, _⟩ := h
    rfl
  · obtain ⟨G, p_self, l_self_lines, dx_self, vs_self_lines, L_self_lines, self', x', y', rfl, sG, h_p_self, h_l_self_lines, w_self_lines, hw⟩ := h
    refine ⟨_, (pss_one (ps_ret (pe_ifExp (pt_val (vx_methX c_MotionGrid__has pat_MotionGrid__has_0 (.head _) hr (by decide) (takes_of rfl rfl rfl rfl) (pv 0) (pa_cons (pv 1) (pa_cons (pv 2) pa_nil)) pk_nil)) (pe_ix (ix_listK (K := K)) (pe_ix (ix_listK (K := K)) (fldK (K := K) (pv 0)) (pv 2) (fun _ _ => rfl)) (pv 1) (fun _ _ => rfl)) pe_non))), ?_⟩
    obtain ⟨KK, EE, hK0, hE, hw⟩ := cW_gen hw
    have S0 := Sep.startG sG
    unfold F_MotionGrid_motion_at at hw
    refine ⟨_, rfl, _, _, _, rfl, (S0.bM _ _ h_p_self), rfl, _, rfl, _, rfl, rfl, rfl, G, _, _, _, _, L_self_lines, self', _, _, rfl, S0.sG, (hide_nil (S0.bM _ _ h_p_self)), (hide_nil (S0.bM _ _ h_l_self_lines)), (OwAll.mono (Same.refl _) (keeps_same (Sep.bhide S0 all_nil)) w_self_lines), cW_call hw (fun v1675 hw H1676 e1677 => ?_) (fun e he H2 e2 => hE e he H2 (Same.trans S0.b0 e2))⟩
    have S1678 := S0.same e1677
    refine ⟨_, rfl, ?_⟩
    refine iteB (fun c1679 => ?_) (fun c1679 => ?_)
    · have hw := cW_pos c1679 hw
      obtain ⟨g1680, hw⟩ := cW_grd hw
      have w1681 : OwAll G H1676 L_self_lines (vs_self_lines) ((self'.lines : (List (List PyData))).map (oL (oF encD))) := OwAll.mono (Same.refl _) (keeps_same S1678.bM) w_self_lines
      obtain ⟨v1682, L1683, a1684, w1685, hs1686, up1687, gr1688⟩ := OwAll.partM (k := y') w1681 g1680
      obtain ⟨b1689, vs1690, L1691, rfl, rfl, h1692, w1693, nb1694⟩ := Ow.toList w1685
      obtain ⟨g1695, hw⟩ := cW_grd hw
      obtain ⟨v1696, L1697, a1698, w1699, hs1700, up1701, gr1702⟩ := OwAll.partM (k := x') w1693 g1695
      obtain ⟨z1704, r1703⟩ := Ow.toFrz w1699
      refine ⟨_, rfl, _, _, _, _, _, rfl, (S1678.bM _ _ h_p_self), T.cl_MotionGrid, T.n_MotionGrid__lines, rfl, _, rfl, _, _, _, _, rfl, rfl, (SqL.of (S1678.bM _ _ h_l_self_lines)), a1684, _, rfl, _, _, _, _, rfl, rfl, (SqL.of h1692), a1698, ?_⟩
      have hw := cW_ok hw
      exact hK0 _ hw _ _ _ S1678.b0 S1678.g0 S1678.sG S1678.gn r1703
    · have hw := cW_negB c1679 hw
      have r1705 : Rp G (V.non) (encD (encN (()))) := .non
      have hw := cW_ok hw
      exact hK0 _ hw _ _ _ S1678.b0 S1678.g0 S1678.sG S1678.gn r1705

abbrev N_MotionGrid__vector_at : List Str := ["self", "x", "y", "place", "motion"]
theorem sc_MotionGrid__vector_at : FnScope N_MotionGrid__vector_at ["self", "x", "y", "place"] (defScope s_MotionGrid__vector_at) := ⟨rfl, rfl, rfl, by decide +kernel, rfl, by decide +kernel, by decide +kernel⟩
theorem ok_MotionGrid__vector_at (D : MethX K AD.c_MotionGrid "MotionGrid._vector_at" "_vector_at" s_MotionGrid__vector_at ["self", "x", "y", "place"] pats_MotionGrid__vector_at) (T : Txt w K mg AD) (c_MotionGrid_motion_at : MetX P w K mg base 2 AD.c_MotionGrid "motion_at" (sp_MotionGrid_motion_at K AD) pats_MotionGrid_motion_at) : MetX P w K mg base 3 AD.c_MotionGrid "_vector_at" (sp_MotionGrid__vector_at K AD) pats_MotionGrid__vector_at := by
  refine D.ok T.cl_MotionGrid sc_MotionGrid__vector_at (fun vs H Q E h => ?_) (fun f cdv A_ outer s H vs Q E hr h => ?_)
  · obtain ⟨G, p_self, l_self_lines, dx_self, vs_self_lines, L_self_lines, self', x', y', place', rfl, _⟩ := h
    rfl
  · obtain ⟨G, p_self, l_self_lines, dx_self, vs_self_lines, L_self_lines, self', x', y', place', rfl, sG, h_p_self, h_l_self_lines, w_self_lines, hw⟩ := h
    refine ⟨_, (pss_cons (ps_set (i := 4) sc_MotionGrid__vector_at.nd rfl (Or.inl rfl) (vx_methX c_MotionGrid_motion_at pat_MotionGrid_motion_at_0 (.head _) hr (by decide) (takes_of rfl rfl rfl rfl) (pv 0) (pa_cons (pv 1) (pa_cons (pv 2) pa_nil)) pk_nil))
      (pss_cons (ps_if (PW.pt (pw_or (pt_cmpR op_isND (pv 4) pe_non (nomark _)) (pw_or1 (pt_cmpR op_isND (pe_ix (ix_tupK (K := K)) (pv 4) (pv 3) (fun _ _ => rfl)) pe_non (nomark _))))) (pss_one (ps_ret (pe_tup (pa_cons pe_int (pa_cons pe_int pa_nil))))) pss_nil)
      (pss_one (ps_ret (pe_ix (ix_tupK (K := K)) (pv 4) (pv 3) (fun _ _ => rfl)))))), ?_⟩
    obtain ⟨KK, EE, hK0, hE, hw⟩ := cW_gen hw
    have S0 := Sep.startG sG
    unfold F_MotionGrid__vector_at at hw
    refine ⟨_, rfl, _, _, _, rfl, (S0.bM _ _ h_p_self), rfl, _, rfl, _, rfl, rfl, rfl, G, _, _, _, _, L_self_lines, self', _, _, rfl, S0.sG, (hide_nil (S0.bM _ _ h_p_self)), (hide_nil (S0.bM _ _ h_l_self_lines)), (OwAll.mono (Same.refl _) (keeps_same (Sep.bhide S0 all_nil)) w_self_lines), cW_call hw (fun v1706 hw v1709 H1707 G1710 e1708 eG1711 sG1712 hn1713 r1714 => ?_) (fun e he H2 e2 => hE e he H2 (Same.trans S0.b0 e2))⟩
    have S1715 := S0.step e1708 eG1711 sG1712 hn1713
    refine ⟨_, rfl, v1706, rfl, (Rp.mono S1715.sG r1714), _, rfl, ?_⟩
    refine iteB (fun c1716 => ?_) (fun c1716 => ?_)
    · have hw := cW_pos c1716 hw
      refine iteT ?_
      refine ⟨(by show 2 ≤ sizeLine; decide), fun p1717 n1718 => ?_⟩
      generalize g1719 : upd H1707 p1717 _ = H1720
      obtain ⟨e1721, h1722⟩ := gen_new n1718 g1719
      have h1723 : H1720 p1717 = some (.tup [V.int (0), V.int (0)]) := h1722
      have fr1724 := S1715.free n1718
      obtain ⟨G1726, eG1727, hg1728, S1725⟩ := S1715.grow n1718 e1721 h1723 fr1724
      have hw := cW_ok hw
      exact hK0 _ hw _ _ _ S1725.b0 S1725.g0 S1725.sG S1725.gn (rp_mk2 hg1728 (.int _) (.int _))
    · have hw := cW_negB c1716 hw
      obtain ⟨g1729, hw⟩ := cW_grd hw
      obtain ⟨a1730, vs1731, v1732, e1733, h1734, e1735, r1736⟩ := rp_dgetI g1729 r1714
      refine ⟨_, rfl, _, rfl, _, _, _, _, e1733, rfl, (SqT.of (S1715.sG _ _ h1734)), e1735, (dGet (v1706) (Int.toNat (place'))), rfl, (Rp.mono S1715.sG r1736), _, rfl, ?_⟩
      refine iteB (fun c1737 => ?_) (fun c1737 => ?_)
      · have hw := cW_pos c1737 hw
        refine ⟨(by show 2 ≤ sizeLine; decide), fun p1738 n1739 => ?_⟩
        generalize g1740 : upd H1707 p1738 _ = H1741
        obtain ⟨e1742, h1743⟩ := gen_new n1739 g1740
        have h1744 : H1741 p1738 = some (.tup [V.int (0), V.int (0)]) := h1743
        have fr1745 := S1715.free n1739
        obtain ⟨G1747, eG1748, hg1749, S1746⟩ := S1715.grow n1739 e1742 h1744 fr1745
        have hw := cW_ok hw
        exact hK0 _ hw _ _ _ S1746.b0 S1746.g0 S1746.sG S1746.gn (rp_mk2 hg1749 (.int _) (.int _))
      · have hw := cW_negB c1737 hw
        obtain ⟨g1750, hw⟩ := cW_grd hw
        obtain ⟨a1751, vs1752, v1753, e1754, h1755, e1756, r1757⟩ := rp_dgetI g1750 r1714
        obtain ⟨g1758, hw⟩ := cW_grd hw
        have r1759 : Rp G1710 v1753 ((encT2 PyData.int PyData.int) (((cT2 cI cI)).dec ((dGet (v1706) (Int.toNat (place')))))) := rp_dcast (cT2 cI cI) g1758 r1757
        obtain ⟨a1760, v1762, v1763, rfl, h1761, r1764, r1765⟩ := rp_tup2 r1759
        obtain rfl := rp_int r1764
        obtain rfl := rp_int r1765
        refine ⟨_, rfl, _, rfl, _, _, _, _, e1754, rfl, (SqT.of (S1715.sG _ _ h1755)), e1756, ?_⟩
        have hw := cW_ok hw
        exact hK0 _ hw _ _ _ S1715.b0 S1715.g0 S1715.sG S1715.gn (rp_mk2 h1761 (.int _) (.int _))

abbrev N_MotionGrid_predicted : List Str := ["self", "x", "y", "second", "place", "near", "vector"]
theorem sc_MotionGrid_predicted : FnScope N_MotionGrid_predicted ["self", "x", "y", "second"] (defScope s_MotionGrid_predicted) := ⟨rfl, rfl, rfl, by decide +kernel, rfl, by decide +kernel, by decide +kernel⟩
theorem ok_MotionGrid_predicted (D : MethX K AD.c_MotionGrid "MotionGrid.predicted" "predicted" s_MotionGrid_predicted ["self", "x", "y", "second"] pats_MotionGrid_predicted) (T : Txt w K mg AD) (c_MotionGrid__vector_at : MetX P w K mg base 3 AD.c_MotionGrid "_vector_at" (sp_MotionGrid__vector_at K AD) pats_MotionGrid__vector_at) (c__median : CalX P w K mg base 1 "_median" (sp__median K AD) pats__median) : MetX P w K mg base 4 AD.c_MotionGrid "predicted" (sp_MotionGrid_predicted K AD) pats_MotionGrid_predicted := by
  refine D.ok T.cl_MotionGrid sc_MotionGrid_predicted (fun vs H Q E h => ?_) (fun f cdv A_ outer s H vs Q E hr h => ?_)
  · obtain ⟨G, p_self, l_self_lines, dx_self, vs_self_lines, L_self_lines, self', x', y', second', rfl, _⟩ := h
    rfl
  · obtain ⟨G, p_self, l_self_lines, dx_self, vs_self_lines, L_self_lines, self', x', y', second', rfl, sG, h_p_self, h_l_self_lines, w_self_lines, hw⟩ := h
    refine ⟨_, (pss_cons (ps_set (i := 4) sc_MotionGrid_predicted.nd rfl (Or.inl rfl) (pe_ifExp (pt_val (pv 3)) (C8.pe_gc rfl T.g_SECOND) (C8.pe_gc rfl T.g_FIRST)))
      (pss_cons (ps_set (i := 5) sc_MotionGrid_predicted.nd rfl (Or.inl rfl) (pe_lst (pa_cons (vx_methX c_MotionGrid__vector_at pat_MotionGrid__vector_at_0 (.head _) hr (by decide) (takes_of rfl rfl rfl rfl) (pv 0) (pa_cons (pe_op op_sub (pv 1) pe_int) (pa_cons (pv 2) (pa_cons (pv 4) pa_nil))) pk_nil) (pa_cons (vx_methX c_MotionGrid__vector_at pat_MotionGrid__vector_at_0 (.head _) hr (by decide) (takes_of rfl rfl rfl rfl) (pv 0) (pa_cons (pv 1) (pa_cons (pe_op op_sub (pv 2) pe_int) (pa_cons (pv 4) pa_nil))) pk_nil) (pa_cons (vx_methX c_MotionGrid__vector_at pat_MotionGrid__vector_at_0 (.head _) hr (by decide) (takes_of rfl rfl rfl rfl) (pv 0) (pa_cons (pe_op op_sub (pv 1) pe_int) (pa_cons (pe_op op_sub (pv 2) pe_int) (pa_cons (pv 4) pa_nil))) pk_nil) pa_nil)))))
      (pss_one (ps_ret (pe_tup (pa_cons (vx_callX c__median pat__median_0 (.head _) hr (by decide) (takes_of rfl rfl rfl rfl) rfl (pa_cons (pe_lc (own := [("vector", 6)]) (g := gName 6) (by rfl) sc_MotionGrid_predicted.nd (pi_listK (K := K) (pv 5)) (blkOk_by (own := [("vector", 6)]) (N := N_MotionGrid_predicted) (sc := defScope s_MotionGrid_predicted) (by decide +kernel)) (fun _ _ _ _ _ => (pg_name (i := 6) sc_MotionGrid_predicted.nd rfl (Or.inl rfl))) (fun _ _ _ _ _ => pts_nil) (fun _ _ _ _ _ => (pe_ix (ix_tupK (K := K)) (pv 6) pe_int (fun _ _ => rfl)))) pa_nil) pk_nil) (pa_cons (vx_callX c__median pat__median_0 (.head _) hr (by decide) (takes_of rfl rfl rfl rfl) rfl (pa_cons (pe_lc (own := [("vector", 6)]) (g := gName 6) (by rfl) sc_MotionGrid_predicted.nd (pi_listK (K := K) (pv 5)) (blkOk_by (own := [("vector", 6)]) (N := N_MotionGrid_predicted) (sc := defScope s_MotionGrid_predicted) (by decide +kernel)) (fun _ _ _ _ _ => (pg_name (i := 6) sc_MotionGrid_predicted.nd rfl (Or.inl rfl))) (fun _ _ _ _ _ => pts_nil) (fun _ _ _ _ _ => (pe_ix (ix_tupK (K := K)) (pv 6) pe_int (fun _ _ => rfl)))) pa_nil) pk_nil) pa_nil))))))), ?_⟩
    obtain ⟨KK, EE, hK0, hE, hw⟩ := cW_gen hw
    have S0 := Sep.startG sG
    unfold F_MotionGrid_predicted at hw
    refine vv_ifb (vt_val (val_var rfl)) val_c val_c _ ?_
    have hw := cW_bnd hw
    refine ⟨_, rfl, _, _, _, rfl, (S0.bM _ _ h_p_self), rfl, _, rfl, _, _, rfl, rfl, _, rfl, _, rfl, rfl, rfl, G, _, _, _, _, L_self_lines, self', _, _, _, rfl, S0.sG, (hide_nil (S0.bM _ _ h_p_self)), (hide_nil (S0.bM _ _ h_l_self_lines)), (OwAll.mono (Same.refl _) (keeps_same (Sep.bhide S0 all_nil)) w_self_lines), cW_call hw (fun v1770 hw v1773 H1771 G1774 e1772 eG1775 sG1776 hn1777 r1778 => ?_) (fun e he H2 e2 => hE e he H2 (Same.trans S0.b0 e2))⟩
    have S1779 := S0.step e1772 eG1775 sG1776 hn1777
    obtain ⟨a1780, v1782, v1783, rfl, h1781, r1784, r1785⟩ := rp_tup2 r1778
    obtain rfl := rp_int r1784
    obtain rfl := rp_int r1785
    refine ⟨_, rfl, _, _, _, rfl, (S1779.bM _ _ h_p_self), rfl, _, rfl, _, rfl, _, _, rfl, rfl, _, rfl, rfl, rfl, G1774, _, _, _, _, L_self_lines, self', _, _, _, rfl, S1779.sG, (hide_nil (S1779.bM _ _ h_p_self)), (hide_nil (S1779.bM _ _ h_l_self_lines)), (OwAll.mono eG1775 (keeps_same (Sep.bhide S1779 all_nil)) w_self_lines), cW_call hw (fun v1786 hw v1789 H1787 G1790 e1788 eG1791 sG1792 hn1793 r1794 => ?_) (fun e he H2 e2 => hE e he H2 (Same.trans S1779.b0 e2))⟩
    have S1795 := S1779.step e1788 eG1791 sG1792 hn1793
    obtain ⟨a1796, v1798, v1799, rfl, h1797, r1800, r1801⟩ := rp_tup2 r1794
    obtain rfl := rp_int r1800
    obtain rfl := rp_int r1801
    refine ⟨_, rfl, _, _, _, rfl, (S1795.bM _ _ h_p_self), rfl, _, rfl, _, _, rfl, rfl, _, rfl, _, _, rfl, rfl, _, rfl, rfl, rfl, G1790, _, _, _, _, L_self_lines, self', _, _, _, rfl, S1795.sG, (hide_nil (S1795.bM _ _ h_p_self)), (hide_nil (S1795.bM _ _ h_l_self_lines)), (OwAll.mono (Same.trans eG1775 eG1791) (keeps_same (Sep.bhide S1795 all_nil)) w_self_lines), cW_call hw (fun v1802 hw v1805 H1803 G1806 e1804 eG1807 sG1808 hn1809 r1810 => ?_) (fun e he H2 e2 => hE e he H2 (Same.trans S1795.b0 e2))⟩
    have S1811 := S1795.step e1804 eG1807 sG1808 hn1809
    obtain ⟨a1812, v1814, v1815, rfl, h1813, r1816, r1817⟩ := rp_tup2 r1810
    obtain rfl := rp_int r1816
    obtain rfl := rp_int r1817
    refine ⟨(by show 3 ≤ sizeLine; decide), fun p1818 n1819 => ?_⟩
    generalize g1820 : upd H1803 p1818 _ = H1821
    obtain ⟨e1822, h1823⟩ := gen_new n1819 g1820
    have h1824 : H1821 p1818 = some (.lst ([V.ref a1780, V.ref a1796, V.ref a1812])) := h1823
    have fr1825 := S1811.free n1819
    have S1826 := S1811.new n1819 e1822 h1824 fr1825
    have d1827 : RpAll G1806 ([V.ref a1780, V.ref a1796, V.ref a1812]) (([v1770, v1786, v1802] : (List (Int × Int))).map (encT2 PyData.int PyData.int)) := (RpAll.cons (rp_mk2 (eG1807 _ _ (eG1791 _ _ h1781)) (.int _) (.int _)) (RpAll.cons (rp_mk2 (eG1807 _ _ h1797) (.int _) (.int _)) (RpAll.cons (rp_mk2 h1813 (.int _) (.int _)) RpAll.nil)))
    obtain ⟨K1829, hK1830, hw⟩ := cW_push hw
    refine ⟨_, rfl, _, rfl, ⟨_, (SqL.of h1824)⟩, fun D1831 n1832 => lc_list (K := K) (a := p1818) (xs := [V.ref a1780, V.ref a1796, V.ref a1812]) (fun i H' => ∃ (G' : Hp) (acc1834 : (List Int)), Same G1806 G' ∧ Sep [] H G G' H' [D1831, p1818] ∧ H' p1818 = some (.lst ([V.ref a1780, V.ref a1796, V.ref a1812])) ∧ H' D1831 = some (.lst ((acc1834 : (List Int)).map V.int)) ∧ Same H1821 H' ∧ cW (mapA (List.drop i ([v1770, v1786, v1802])) acc1834 (fun x => noEr (F_MotionGrid_predicted_c1  x))) K1829 EE) ?_ ?_ ?_ ?_⟩
    · generalize g1836 : upd H1821 D1831 _ = H1837
      obtain ⟨e1838, h1839⟩ := gen_new n1832 g1836
      have fr1840 := S1826.free n1832
      have S1841 := S1826.new n1832 e1838 h1839 fr1840
      have h1842 := (e1838 _ _ h1824)
      exact ⟨_, [], Same.refl _, S1841, h1842, h1839, e1838, hw⟩
    · intro i H1843 _ hw
      obtain ⟨G1846, acc1848, eG1847, S1844, h1855, h1845, eo1854, hw⟩ := hw
      exact (SqL.of h1855)
    · intro i x H1856 hj hw
      obtain ⟨G1859, acc1861, eG1860, S1857, h1868, h1858, eo1867, hw⟩ := hw
      obtain ⟨x1869, hx, r1870⟩ := RpAll.get (RpAll.mono eG1860 d1827) hj
      obtain ⟨a1871, v1873, v1874, rfl, h1872, r1875, r1876⟩ := rp_tup2 r1870
      obtain rfl := rp_int r1875
      obtain rfl := rp_int r1876
      obtain ⟨z1877, hw⟩ := cW_mapA hx hw
      have hw := cW_noEr hw
      have hw : cW (F_MotionGrid_predicted_c1  (x1869)) _ (fun _ => False) := hw
      unfold F_MotionGrid_predicted_c1 at hw
      refine ⟨rfl, ?_⟩
      refine tyes_go ?_
      refine ⟨_, rfl, _, _, _, _, rfl, rfl, (SqT.of (S1857.sG _ _ h1872)), rfl, _, h1858, (app_lenM z1877), ?_⟩
      generalize g1879 : upd H1856 D1831 _ = H1880
      obtain ⟨x1881, h1882⟩ := gen_mut g1879
      have S1883 := S1857.mut1 x1881 (.head _) h1882
      have hw := cW_ok hw
      have h1884 := (x1881 _ _ h1868 (ne_of_none h1824 n1832))
      exact ⟨_, (acc1861 ++ [x1869.1]), eG1860, S1883, h1884, (snoc_map h1882), (same_mut eo1867 x1881 n1832), hw⟩
    intro H1885 hw
    obtain ⟨G1888, acc1890, eG1889, S1886, h1897, h1887, eo1896, hw⟩ := hw
    have hw := hK1830 _ (cW_mapA0 (by rw [(RpAll.mono eG1889 d1827).len, List.length_map]) hw)
    have fr1898 := S1826.free n1832
    refine ⟨rfl, rfl, G1888, _, _, rfl, S1886.sG, (hide_nil h1887), cW_call hw (fun v1899 hw H1900 e1901 => ?_) (fun e he H2 e2 => hE e he H2 (Same.trans S1886.b0 e2))⟩
    have S1902 := S1886.same e1901
    have h1903 := (e1901 _ _ h1897)
    obtain ⟨K1905, hK1906, hw⟩ := cW_push hw
    refine ⟨_, rfl, _, rfl, ⟨_, (SqL.of h1903)⟩, fun D1907 n1908 => lc_list (K := K) (a := p1818) (xs := [V.ref a1780, V.ref a1796, V.ref a1812]) (fun i H' => ∃ (G' : Hp) (acc1910 : (List Int)), Same G1888 G' ∧ Sep [] H G G' H' [D1907, p1818] ∧ H' p1818 = some (.lst ([V.ref a1780, V.ref a1796, V.ref a1812])) ∧ H' D1907 = some (.lst ((acc1910 : (List Int)).map V.int)) ∧ Same H1900 H' ∧ cW (mapA (List.drop i ([v1770, v1786, v1802])) acc1910 (fun x => noEr (F_MotionGrid_predicted_c2  x))) K1905 EE) ?_ ?_ ?_ ?_⟩
    · generalize g1912 : upd H1900 D1907 _ = H1913
      obtain ⟨e1914, h1915⟩ := gen_new n1908 g1912
      have fr1916 := S1902.free n1908
      have S1917 := S1902.new n1908 e1914 h1915 fr1916
      have h1918 := (e1914 _ _ h1903)
      exact ⟨_, [], Same.refl _, (S1917.sub (all_cons (.head _) (all_cons (.tail _ (.tail _ (.head _))) all_nil))), h1918, h1915, e1914, hw⟩
    · intro i H1919 _ hw
      obtain ⟨G1922, acc1924, eG1923, S1920, h1931, h1921, eo1930, hw⟩ := hw
      exact (SqL.of h1931)
    · intro i x H1932 hj hw
      obtain ⟨G1935, acc1937, eG1936, S1933, h1944, h1934, eo1943, hw⟩ := hw
      obtain ⟨x1945, hx, r1946⟩ := RpAll.get (RpAll.mono eG1936 (RpAll.mono eG1889 d1827)) hj
      obtain ⟨a1947, v1949, v1950, rfl, h1948, r1951, r1952⟩ := rp_tup2 r1946
      obtain rfl := rp_int r1951
      obtain rfl := rp_int r1952
      obtain ⟨z1953, hw⟩ := cW_mapA hx hw
      have hw := cW_noEr hw
      have hw : cW (F_MotionGrid_predicted_c2  (x1945)) _ (fun _ => False) := hw
      unfold F_MotionGrid_predicted_c2 at hw
      refine ⟨rfl, ?_⟩
      refine tyes_go ?_
      refine ⟨_, rfl, _, _, _, _, rfl, rfl, (SqT.of (S1933.sG _ _ h1948)), rfl, _, h1934, (app_lenM z1953), ?_⟩
      generalize g1955 : upd H1932 D1907 _ = H1956
      obtain ⟨x1957, h1958⟩ := gen_mut g1955
      have S1959 := S1933.mut1 x1957 (.head _) h1958
      have hw := cW_ok hw
      have h1960 := (x1957 _ _ h1944 (ne_of_none h1903 n1908))
      exact ⟨_, (acc1937 ++ [x1945.2]), eG1936, S1959, h1960, (snoc_map h1958), (same_mut eo1943 x1957 n1908), hw⟩
    intro H1961 hw
    obtain ⟨G1964, acc1966, eG1965, S1962, h1973, h1963, eo1972, hw⟩ := hw
    have hw := hK1906 _ (cW_mapA0 (by rw [(RpAll.mono eG1965 (RpAll.mono eG1889 d1827)).len, List.length_map]) hw)
    have fr1974 := S1902.free n1908
    refine ⟨rfl, rfl, G1964, _, _, rfl, S1962.sG, (hide_nil h1963), cW_call hw (fun v1975 hw H1976 e1977 => ?_) (fun e he H2 e2 => hE e he H2 (Same.trans S1962.b0 e2))⟩
    have S1978 := S1962.same e1977
    refine ⟨(by show 2 ≤ sizeLine; decide), fun p1979 n1980 => ?_⟩
    generalize g1981 : upd H1976 p1979 _ = H1982
    obtain ⟨e1983, h1984⟩ := gen_new n1980 g1981
    have h1985 : H1982 p1979 = some (.tup [V.int (v1899), V.int (v1975)]) := h1984
    have fr1986 := S1978.free n1980
    obtain ⟨G1988, eG1989, hg1990, S1987⟩ := S1978.grow n1980 e1983 h1985 fr1986
    have hw := cW_ok hw
    exact hK0 _ hw _ _ _ S1987.b0 S1987.g0 S1987.sG S1987.gn (rp_mk2 hg1990 (.int _) (.int _))

abbrev N_read_motion : List Str := ["reader", "header", "grid", "x", "y", "direction", "index", "first", "second"]
theorem sc_read_motion : FnScope N_read_motion ["reader", "header", "grid", "x", "y"] (defScope s_read_motion) := ⟨rfl, rfl, rfl, by decide +kernel, rfl, by decide +kernel, by decide +kernel⟩
theorem ok_read_motion (D : DefX K mg "read_motion" s_read_motion ["reader", "header", "grid", "x", "y"] pats_read_motion) (T : Txt w K mg AD) (c_SymbolReader_choice : MetX P w K mg base 4 AD.c_SymbolReader "choice" (sp_SymbolReader_choice K AD) pats_SymbolReader_choice) (c__read_vector : CalX P w K mg base 7 "_read_vector" (sp__read_vector K AD) pats__read_vector) (c_MotionGrid_predicted : MetX P w K mg base 4 AD.c_MotionGrid "predicted" (sp_MotionGrid_predicted K AD) pats_MotionGrid_predicted) : CalX P w K mg base 8 "read_motion" (sp_read_motion K AD) pats_read_motion := by
  refine D.ok sc_read_motion (fun vs H Q E h => ?_) (fun f cdv A_ outer s H vs Q E hr h => ?_)
  · obtain ⟨G, p_reader, p_reader_dec, l_reader_dec_probs, l_reader_dec_octs, dx_reader, dx_reader_dec, reader', p_header, l_header_store, l_header_refs, dx_header, header', p_grid, l_grid_lines, dx_grid, vs_grid_lines, L_grid_lines, grid', x', y', rfl, _⟩ := h
    rfl
  · obtain ⟨G, p_reader, p_reader_dec, l_reader_dec_probs, l_reader_dec_octs, dx_reader, dx_reader_dec, reader', p_header, l_header_store, l_header_refs, dx_header, header', p_grid, l_grid_lines, dx_grid, vs_grid_lines, L_grid_lines, grid', x', y', rfl, sG, gM, h_p_reader, h_p_reader_dec, h_l_reader_dec_probs, h_l_reader_dec_octs, ne_reader_0, ne_reader_1, h_p_header, h_l_header_store, h_l_header_refs, h_p_grid, h_l_grid_lines, w_grid_lines, hw⟩ := h
    refine ⟨_, (pss_cons (ps_set (i := 5) sc_read_motion.nd rfl (Or.inl rfl) pe_int)
      (pss_cons (ps_set (i := 6) sc_read_motion.nd rfl (Or.inl rfl) pe_int)
      (C8.pss_cut (ps_if (pt_cmpR op_eq (fldK (K := K) (pv 1)) pe_str (nomark _)) (pss_one (ps_set (i := 5) sc_read_motion.nd rfl (Or.inl rfl) (vx_methX c_SymbolReader_choice pat_SymbolReader_choice_0 (.head _) hr (by decide) (takes_of rfl rfl rfl rfl) (pv 0) (pa_cons (C8.pe_gc rfl T.g_DIRECTION) pa_nil) (pk_cons pe_int pk_nil)))) (pss_one (ps_if (pt_cmp (pc_eqI (pe_callB (call_lenLiK (K := K)) (by rfl) T.b_len (by decide +kernel) (pa_cons (fldK (K := K) (pv 1)) pa_nil)) pe_int)) (pss_one (ps_set (i := 6) sc_read_motion.nd rfl (Or.inl rfl) (vx_methX c_SymbolReader_choice pat_SymbolReader_choice_0 (.head _) hr (by decide) (takes_of rfl rfl rfl rfl) (pv 0) (pa_cons (C8.pe_gc rfl T.g_INDEX) pa_nil) (pk_cons pe_int pk_nil)))) pss_nil)))
      (pss_cons (ps_set (i := 7) sc_read_motion.nd rfl (Or.inl rfl) pe_non)
      (pss_cons (ps_set (i := 8) sc_read_motion.nd rfl (Or.inl rfl) pe_non)
      (C8.pss_cut (ps_if (pt_cmp (pc_neI (pv 5) pe_int)) (pss_one (ps_set (i := 7) sc_read_motion.nd rfl (Or.inl rfl) (vx_callX c__read_vector pat__read_vector_0 (.head _) hr (by decide) (takes_of rfl rfl rfl rfl) rfl (pa_cons (pv 0) (pa_cons (vx_methX c_MotionGrid_predicted pat_MotionGrid_predicted_0 (.head _) hr (by decide) (takes_of rfl rfl rfl rfl) (pv 2) (pa_cons (pv 3) (pa_cons (pv 4) pa_nil)) pk_nil) pa_nil)) pk_nil))) pss_nil)
      (C8.pss_cut (ps_if (pt_cmp (pc_neI (pv 5) pe_int)) (pss_one (ps_set (i := 8) sc_read_motion.nd rfl (Or.inl rfl) (vx_callX c__read_vector pat__read_vector_0 (.head _) hr (by decide) (takes_of rfl rfl rfl rfl) rfl (pa_cons (pv 0) (pa_cons (vx_methX c_MotionGrid_predicted pat_MotionGrid_predicted_1 (.tail _ (.head _)) hr (by decide) (takes_of rfl rfl rfl rfl) (pv 2) (pa_cons (pv 3) (pa_cons (pv 4) pa_nil)) (pk_cons pe_bl pk_nil)) pa_nil)) pk_nil))) pss_nil)
      (pss_one (ps_ret (pe_tup (pa_cons (pv 5) (pa_cons (pv 6) (pa_cons (pv 7) (pa_cons (pv 8) pa_nil)))))))))))))), ?_⟩
    obtain ⟨KK, EE, hK0, hE, hw⟩ := cW_gen hw
    have S0 := Sep.startM (M := [p_reader, p_reader_dec, l_reader_dec_probs, l_reader_dec_octs]) sG (all_cons (some_ne h_p_reader) (all_cons (some_ne h_p_reader_dec) (all_cons (some_ne h_l_reader_dec_probs) (all_cons (some_ne h_l_reader_dec_octs) all_nil)))) gM
    unfold F_read_motion at hw
    refine ⟨fun σ H' => ∃ (reader_1997 : St_SymbolReader) (direction_1998 : Int) (index_1999 : Int) (G' : Hp), σ = [some (V.ref p_reader), some (V.ref p_header), some (V.ref p_grid), some (V.int (x')), some (V.int (y')), some (V.int direction_1998), some (V.int index_1999), none, none] ∧ Same G G' ∧ Sep [p_reader, p_reader_dec, l_reader_dec_probs, l_reader_dec_octs] H G G' H' [p_reader, p_reader_dec, l_reader_dec_probs, l_reader_dec_octs] ∧ H' p_reader = some (.ins AD.c_SymbolReader dx_reader [("_decoder", V.ref p_reader_dec)]) ∧ H' p_reader_dec = some (.ins AD.c_Decoder dx_reader_dec [("_probabilities", V.ref l_reader_dec_probs), ("_octets", V.ref l_reader_dec_octs), ("_place", V.int (reader_1997.dec.place)), ("_span", V.int (reader_1997.dec.span)), ("_value", V.int (reader_1997.dec.value))]) ∧ H' l_reader_dec_probs = some (.lst ((reader_1997.dec.probs : (List Int)).map V.int)) ∧ H' l_reader_dec_octs = some (.lst ((reader_1997.dec.octs : (List Int)).map V.int)) ∧ cW (F_read_motion_k1 (grid') (x') (y') reader_1997 direction_1998 index_1999) KK EE, ?_, ?_⟩
    · obtain ⟨K2000, hK2001, hw⟩ := cW_push hw
      refine ⟨_, rfl, _, _, _, _, _, rfl, (S0.bM _ _ h_p_header), T.cl_PictureHeader, T.n_PictureHeader_kind, rfl, rfl, _, rfl, ?_⟩
      refine iteD (fun c2002 => ?_) (fun c2002 => ?_)
      · have hw := cW_pos c2002 hw
        refine ⟨_, rfl, _, _, _, rfl, h_p_reader, rfl, rfl, rfl, G, _, _, _, _, _, _, reader', _, _, rfl, S0.sG, (S0.gno (all_cons (.head _) (all_cons (.tail _ (.head _)) (all_cons (.tail _ (.tail _ (.head _))) (all_cons (.tail _ (.tail _ (.tail _ (.head _)))) all_nil))))), h_p_reader, h_p_reader_dec, h_l_reader_dec_probs, h_l_reader_dec_octs, ne_reader_0, ne_reader_1, cW_call hw (fun v2003 hw H2004 x2005 h2007 h2008 h2009 h2010  => ?_) (fun e he H2 e2 => hE e he H2 (Same.trans (Same.refl _) e2))⟩
        have S2006 := S0.mut x2005 (all_cons (.head _) (all_cons (.tail _ (.head _)) (all_cons (.tail _ (.tail _ (.head _))) (all_cons (.tail _ (.tail _ (.tail _ (.head _)))) all_nil)))) (all_cons (some_ne h2007) (all_cons (some_ne h2008) (all_cons (some_ne h2009) (all_cons (some_ne h2010) all_nil))))
        have hw := cW_ok hw
        have hw := hK2001 _ hw
        exact ⟨(v2003.2), (v2003.1), (0), _, rfl, (Same.refl _), S2006, h2007, h2008, h2009, h2010, hw⟩
      · have hw := cW_neg c2002 hw
        refine ⟨_, rfl, _, _, _, _, _, rfl, (S0.bM _ _ h_p_header), T.cl_PictureHeader, T.n_PictureHeader_refs, rfl, _, _, rfl, (SqL.of (S0.bM _ _ h_l_header_refs)), _, _, rfl, rfl, _, rfl, ?_⟩
        refine iteD (fun c2015 => ?_) (fun c2015 => ?_)
        · have hw := cW_pos c2015 hw
          refine ⟨_, rfl, _, _, _, rfl, h_p_reader, rfl, rfl, rfl, G, _, _, _, _, _, _, reader', _, _, rfl, S0.sG, (S0.gno (all_cons (.head _) (all_cons (.tail _ (.head _)) (all_cons (.tail _ (.tail _ (.head _))) (all_cons (.tail _ (.tail _ (.tail _ (.head _)))) all_nil))))), h_p_reader, h_p_reader_dec, h_l_reader_dec_probs, h_l_reader_dec_octs, ne_reader_0, ne_reader_1, cW_call hw (fun v2016 hw H2017 x2018 h2020 h2021 h2022 h2023  => ?_) (fun e he H2 e2 => hE e he H2 (Same.trans (Same.refl _) e2))⟩
          have S2019 := S0.mut x2018 (all_cons (.head _) (all_cons (.tail _ (.head _)) (all_cons (.tail _ (.tail _ (.head _))) (all_cons (.tail _ (.tail _ (.tail _ (.head _)))) all_nil)))) (all_cons (some_ne h2020) (all_cons (some_ne h2021) (all_cons (some_ne h2022) (all_cons (some_ne h2023) all_nil))))
          have hw := cW_ok hw
          have hw := hK2001 _ hw
          exact ⟨(v2016.2), (0), (v2016.1), _, rfl, (Same.refl _), S2019, h2020, h2021, h2022, h2023, hw⟩
        · have hw := cW_neg c2015 hw
          have hw := cW_ok hw
          have hw := hK2001 _ hw
          exact ⟨(reader'), (0), (0), _, rfl, (Same.refl _), S0, h_p_reader, h_p_reader_dec, h_l_reader_dec_probs, h_l_reader_dec_octs, hw⟩
    · intro σ H2028 hw
      obtain ⟨reader_1997, direction_1998, index_1999, G2034, rfl, eG2035, S2029, h2030, h2031, h2032, h2033, hw⟩ := hw
      unfold F_read_motion_k1 at hw
      have r2036 : Rp G2034 (V.non) (encD (encN (()))) := .non
      have r2037 : Rp G2034 (V.non) (encD (encN (()))) := .non
      refine ⟨fun σ H' => ∃ (reader_2046 : St_SymbolReader) (first_2047 : PyData) (u2048 : V) (G' : Hp), σ = [some (V.ref p_reader), some (V.ref p_header), some (V.ref p_grid), some (V.int (x')), some (V.int (y')), some (V.int (direction_1998)), some (V.int (index_1999)), some u2048, some ((V.non))] ∧ Same G2034 G' ∧ Sep [p_reader, p_reader_dec, l_reader_dec_probs, l_reader_dec_octs] H G G' H' [p_reader, p_reader_dec, l_reader_dec_probs, l_reader_dec_octs] ∧ H' p_reader = some (.ins AD.c_SymbolReader dx_reader [("_decoder", V.ref p_reader_dec)]) ∧ H' p_reader_dec = some (.ins AD.c_Decoder dx_reader_dec [("_probabilities", V.ref l_reader_dec_probs), ("_octets", V.ref l_reader_dec_octs), ("_place", V.int (reader_2046.dec.place)), ("_span", V.int (reader_2046.dec.span)), ("_value", V.int (reader_2046.dec.value))]) ∧ H' l_reader_dec_probs = some (.lst ((reader_2046.dec.probs : (List Int)).map V.int)) ∧ H' l_reader_dec_octs = some (.lst ((reader_2046.dec.octs : (List Int)).map V.int)) ∧ Rp G' u2048 (encD first_2047) ∧ cW (F_read_motion_k2 (grid') (x') (y') (direction_1998) (index_1999) ((encN (()))) reader_2046 first_2047) KK EE, ?_, ?_⟩
      · obtain ⟨K2049, hK2050, hw⟩ := cW_push hw
        refine ⟨_, rfl, _, _, rfl, rfl, _, rfl, ?_⟩
        refine iteN (fun c2051 => ?_) (fun c2051 => ?_)
        · have hw := cW_neg c2051 hw
          refine ⟨_, rfl, _, rfl, _, _, _, rfl, (S2029.bM _ _ h_p_grid), rfl, _, rfl, _, rfl, rfl, rfl, G2034, _, _, _, _, L_grid_lines, grid', _, _, _, rfl, S2029.sG, (hide_nil (S2029.bM _ _ h_p_grid)), (hide_nil (S2029.bM _ _ h_l_grid_lines)), (OwAll.mono eG2035 (keeps_same (Sep.bhide S2029 all_nil)) w_grid_lines), cW_callN hw (fun v2052 hw v2055 H2053 G2056 e2054 eG2057 sG2058 hn2059 r2060 => ?_) trivial⟩
          have S2061 := S2029.step e2054 eG2057 sG2058 hn2059
          obtain ⟨a2062, v2064, v2065, rfl, h2063, r2066, r2067⟩ := rp_tup2 r2060
          obtain rfl := rp_int r2066
          obtain rfl := rp_int r2067
          have h2068 := (e2054 _ _ h2030)
          have h2069 := (e2054 _ _ h2031)
          have h2070 := (e2054 _ _ h2032)
          have h2071 := (e2054 _ _ h2033)
          refine ⟨rfl, rfl, G2056, _, _, _, _, _, _, reader_1997, _, _, rfl, S2061.sG, (S2061.gno (all_cons (.head _) (all_cons (.tail _ (.head _)) (all_cons (.tail _ (.tail _ (.head _))) (all_cons (.tail _ (.tail _ (.tail _ (.head _)))) all_nil))))), h2068, h2069, h2070, h2071, ne_reader_0, ne_reader_1, (Rp.mono (S2061.hid (all_cons (.head _) (all_cons (.tail _ (.head _)) (all_cons (.tail _ (.tail _ (.head _))) (all_cons (.tail _ (.tail _ (.tail _ (.head _)))) all_nil))))) (rp_mk2 h2063 (.int _) (.int _))), cW_callN hw (fun v2072 hw H2073 x2074 h2076 h2077 h2078 h2079 v2080 G2081 eG2082 sG2083 hn2084 r2085 => ?_) trivial⟩
          have S2075 := S2061.mutstep x2074 (all_cons (.head _) (all_cons (.tail _ (.head _)) (all_cons (.tail _ (.tail _ (.head _))) (all_cons (.tail _ (.tail _ (.tail _ (.head _)))) all_nil)))) (all_cons (some_ne h2076) (all_cons (some_ne h2077) (all_cons (some_ne h2078) (all_cons (some_ne h2079) all_nil)))) eG2082 sG2083 hn2084
          obtain ⟨a2086, v2088, v2089, rfl, h2087, r2090, r2091⟩ := rp_tup2 r2085
          obtain rfl := rp_int r2090
          obtain rfl := rp_int r2091
          have r2092 : Rp G2081 (V.ref a2086) (encD ((encT2 PyData.int PyData.int) (v2072.1))) := (rp_mk2 h2087 (.int _) (.int _))
          have hw := cW_ok hw
          have hw := hK2050 _ hw
          exact ⟨(v2072.2), (((encT2 PyData.int PyData.int) (v2072.1))), _, _, rfl, (Same.trans eG2057 eG2082), S2075, h2076, h2077, h2078, h2079, r2092, hw⟩
        · have hw := cW_pos c2051 hw
          have hw := cW_ok hw
          have hw := hK2050 _ hw
          exact ⟨(reader_1997), ((encN (()))), _, _, rfl, (Same.refl _), S2029, h2030, h2031, h2032, h2033, r2037, hw⟩
      · intro σ H2093 hw
        obtain ⟨reader_2046, first_2047, u2048, G2100, rfl, eG2101, S2094, h2095, h2096, h2097, h2098, r2099, hw⟩ := hw
        unfold F_read_motion_k2 at hw
        refine ⟨fun σ H' => ∃ (reader_2107 : St_SymbolReader) (second_2108 : PyData) (u2109 : V) (G' : Hp), σ = [some (V.ref p_reader), some (V.ref p_header), some (V.ref p_grid), some (V.int (x')), some (V.int (y')), some (V.int (direction_1998)), some (V.int (index_1999)), some (u2048), some u2109] ∧ Same G2100 G' ∧ Sep [p_reader, p_reader_dec, l_reader_dec_probs, l_reader_dec_octs] H G G' H' [p_reader, p_reader_dec, l_reader_dec_probs, l_reader_dec_octs] ∧ H' p_reader = some (.ins AD.c_SymbolReader dx_reader [("_decoder", V.ref p_reader_dec)]) ∧ H' p_reader_dec = some (.ins AD.c_Decoder dx_reader_dec [("_probabilities", V.ref l_reader_dec_probs), ("_octets", V.ref l_reader_dec_octs), ("_place", V.int (reader_2107.dec.place)), ("_span", V.int (reader_2107.dec.span)), ("_value", V.int (reader_2107.dec.value))]) ∧ H' l_reader_dec_probs = some (.lst ((reader_2107.dec.probs : (List Int)).map V.int)) ∧ H' l_reader_dec_octs = some (.lst ((reader_2107.dec.octs : (List Int)).map V.int)) ∧ Rp G' u2109 (encD second_2108) ∧ cW (F_read_motion_k3 (direction_1998) (index_1999) (first_2047) reader_2107 second_2108) KK EE, ?_, ?_⟩
        · obtain ⟨K2110, hK2111, hw⟩ := cW_push hw
          refine ⟨_, rfl, _, _, rfl, rfl, _, rfl, ?_⟩
          refine iteN (fun c2112 => ?_) (fun c2112 => ?_)
          · have hw := cW_neg c2112 hw
            refine ⟨_, rfl, _, rfl, _, _, _, rfl, (S2094.bM _ _ h_p_grid), rfl, _, rfl, _, rfl, rfl, rfl, G2100, _, _, _, _, L_grid_lines, grid', _, _, _, rfl, S2094.sG, (hide_nil (S2094.bM _ _ h_p_grid)), (hide_nil (S2094.bM _ _ h_l_grid_lines)), (OwAll.mono (Same.trans eG2035 eG2101) (keeps_same (Sep.bhide S2094 all_nil)) w_grid_lines), cW_callN hw (fun v2113 hw v2116 H2114 G2117 e2115 eG2118 sG2119 hn2120 r2121 => ?_) trivial⟩
            have S2122 := S2094.step e2115 eG2118 sG2119 hn2120
            obtain ⟨a2123, v2125, v2126, rfl, h2124, r2127, r2128⟩ := rp_tup2 r2121
            obtain rfl := rp_int r2127
            obtain rfl := rp_int r2128
            have h2129 := (e2115 _ _ h2095)
            have h2130 := (e2115 _ _ h2096)
            have h2131 := (e2115 _ _ h2097)
            have h2132 := (e2115 _ _ h2098)
            refine ⟨rfl, rfl, G2117, _, _, _, _, _, _, reader_2046, _, _, rfl, S2122.sG, (S2122.gno (all_cons (.head _) (all_cons (.tail _ (.head _)) (all_cons (.tail _ (.tail _ (.head _))) (all_cons (.tail _ (.tail _ (.tail _ (.head _)))) all_nil))))), h2129, h2130, h2131, h2132, ne_reader_0, ne_reader_1, (Rp.mono (S2122.hid (all_cons (.head _) (all_cons (.tail _ (.head _)) (all_cons (.tail _ (.tail _ (.head _))) (all_cons (.tail _ (.tail _ (.tail _ (.head _)))) all_nil))))) (rp_mk2 h2124 (.int _) (.int _))), cW_callN hw (fun v2133 hw H2134 x2135 h2137 h2138 h2139 h2140 v2141 G2142 eG2143 sG2144 hn2145 r2146 => ?_) trivial⟩
            have S2136 := S2122.mutstep x2135 (all_cons (.head _) (all_cons (.tail _ (.head _)) (all_cons (.tail _ (.tail _ (.head _))) (all_cons (.tail _ (.tail _ (.tail _ (.head _)))) all_nil)))) (all_cons (some_ne h2137) (all_cons (some_ne h2138) (all_cons (some_ne h2139) (all_cons (some_ne h2140) all_nil)))) eG2143 sG2144 hn2145
            obtain ⟨a2147, v2149, v2150, rfl, h2148, r2151, r2152⟩ := rp_tup2 r2146
            obtain rfl := rp_int r2151
            obtain rfl := rp_int r2152
            have r2153 : Rp G2142 (V.ref a2147) (encD ((encT2 PyData.int PyData.int) (v2133.1))) := (rp_mk2 h2148 (.int _) (.int _))
            have hw := cW_ok hw
            have hw := hK2111 _ hw
            exact ⟨(v2133.2), (((encT2 PyData.int PyData.int) (v2133.1))), _, _, rfl, (Same.trans eG2118 eG2143), S2136, h2137, h2138, h2139, h2140, r2153, hw⟩
          · have hw := cW_pos c2112 hw
            have hw := cW_ok hw
            have hw := hK2111 _ hw
            exact ⟨(reader_2046), ((encN (()))), _, _, rfl, (Same.refl _), S2094, h2095, h2096, h2097, h2098, (Rp.mono eG2101 r2037), hw⟩
        · intro σ H2154 hw
          obtain ⟨reader_2107, second_2108, u2109, G2161, rfl, eG2162, S2155, h2156, h2157, h2158, h2159, r2160, hw⟩ := hw
          unfold F_read_motion_k3 at hw
          refine ⟨_, rfl, _, rfl, _, rfl, _, rfl, (by show 4 ≤ sizeLine; decide), fun p2163 n2164 => ?_⟩
          generalize g2165 : upd H2154 p2163 _ = H2166
          obtain ⟨e2167, h2168⟩ := gen_new n2164 g2165
          have h2169 : H2166 p2163 = some (.tup [V.int (direction_1998), V.int (index_1999), u2048, u2109]) := h2168
          have fr2170 := S2155.free n2164
          obtain ⟨G2172, eG2173, hg2174, S2171⟩ := S2155.grow n2164 e2167 h2169 fr2170
          have h2175 := (e2167 _ _ h2156)
          have h2176 := (e2167 _ _ h2157)
          have h2177 := (e2167 _ _ h2158)
          have h2178 := (e2167 _ _ h2159)
          have hw := cW_ok hw
          exact hK0 _ hw _ S2171.base h2175 h2176 h2177 h2178 _ _ S2171.g0 S2171.sG S2171.gn (rp_mk4 hg2174 (.int _) (.int _) (Rp.mono eG2173 (Rp.mono eG2162 r2099)) (Rp.mono eG2173 r2160))

abbrev N_MotionGrid_keep_quarter : List Str := ["self", "x", "y", "motion"]
theorem sc_MotionGrid_keep_quarter : FnScope N_MotionGrid_keep_quarter ["self", "x", "y", "motion"] (defScope s_MotionGrid_keep_quarter) := ⟨rfl, rfl, rfl, by decide +kernel, rfl, by decide +kernel, by decide +kernel⟩
theorem ok_MotionGrid_keep_quarter (D : MethX K AD.c_MotionGrid "MotionGrid.keep_quarter" "keep_quarter" s_MotionGrid_keep_quarter ["self", "x", "y", "motion"] pats_MotionGrid_keep_quarter) (T : Txt w K mg AD) (c_MotionGrid__has : MetX P w K mg base 1 AD.c_MotionGrid "_has" (sp_MotionGrid__has K AD) pats_MotionGrid__has) : MetX P w K mg base 2 AD.c_MotionGrid "keep_quarter" (sp_MotionGrid_keep_quarter K AD) pats_MotionGrid_keep_quarter := by
  refine D.ok T.cl_MotionGrid sc_MotionGrid_keep_quarter (fun vs H Q E h => ?_) (fun f cdv A_ outer s H vs Q E hr h => ?_)
  · obtain ⟨G, p_self, l_self_lines, dx_self, vs_self_lines, L_self_lines, self', x', y', v_motion, motion', rfl, _⟩ := h
    rfl
  · obtain ⟨G, p_self, l_self_lines, dx_self, vs_self_lines, L_self_lines, self', x', y', v_motion, motion', rfl, sG, gM, h_p_self, h_l_self_lines, w_self_lines, nw_self_lines_0, nw_self_lines_1, r_motion, hw⟩ := h
    refine ⟨_, (pss_one (ps_if (pt_val (vx_methX c_MotionGrid__has pat_MotionGrid__has_0 (.head _) hr (by decide) (takes_of rfl rfl rfl rfl) (pv 0) (pa_cons (pv 1) (pa_cons (pv 2) pa_nil)) pk_nil)) (pss_one (ps_asg (pv 3) (pg_sub (pe_ix (ix_listK (K := K)) (fldK (K := K) (pv 0)) (pv 2) (fun _ _ => rfl)) (pv 1) set_list))) pss_nil)), ?_⟩
    obtain ⟨KK, EE, hK0, hE, hw⟩ := cW_gen hw
    have S0 := Sep.startM (M := (p_self :: (l_self_lines :: (L_self_lines ++ [])))) sG (all_cons (some_ne h_p_self) (all_cons (some_ne h_l_self_lines) (all_app (OwAll.there w_self_lines) all_nil))) gM
    unfold F_MotionGrid_keep_quarter at hw
    refine ⟨_, rfl, _, _, _, rfl, h_p_self, rfl, _, rfl, _, rfl, rfl, rfl, G, _, _, _, _, L_self_lines, self', _, _, rfl, S0.sG, (hide_nil h_p_self), (hide_nil h_l_self_lines), (OwAll.mono (Same.refl _) (keeps_hide (((fun b hb => nm_nil) : ∀ b ∈ L_self_lines, b ∉ []))) w_self_lines), cW_call hw (fun v2179 hw H2180 e2181 => ?_) (fun e he H2 e2 => hE e he H2 (Same.trans (Same.refl _) e2))⟩
    have S2182 := S0.same e2181
    refine ⟨_, rfl, ?_⟩
    refine iteB (fun c2183 => ?_) (fun c2183 => ?_)
    · have hw := cW_pos c2183 hw
      refine ⟨_, rfl, ?_⟩
      have h2184 := (e2181 _ _ h_p_self)
      obtain ⟨g2185, hw⟩ := cW_grd hw
      have w2186 : OwAll G H2180 L_self_lines (vs_self_lines) ((self'.lines : (List (List PyData))).map (oL (oF encD))) := (OwAll.mono (Same.refl _) (keeps_same e2181) w_self_lines)
      obtain ⟨v2187, L2188, a2189, w2190, hs2191, up2192, gr2193⟩ := OwAll.partM (k := y') w2186 g2185
      have h2194 := (e2181 _ _ h_l_self_lines)
      obtain ⟨b2195, vs2196, L2197, rfl, rfl, h2198, w2199, nb2200⟩ := Ow.toList w2190
      obtain ⟨g2201, hw⟩ := cW_grd hw
      refine ⟨_, rfl, _, _, _, _, _, rfl, h2184, T.cl_MotionGrid, T.n_MotionGrid__lines, rfl, _, rfl, _, _, _, _, rfl, rfl, (SqL.of h2194), a2189, _, rfl, _, _, _, _, rfl, rfl, h2198, (ixN_len w2199.lenM g2201), ?_⟩
      obtain ⟨L2202, hL2203, w2204⟩ := OwAll.setM w2199 g2201 (Ow.frz r_motion) (all_nil : ∀ b ∈ ([] : List Addr), b ∉ L2197)
      generalize g2206 : upd H2180 b2195 _ = H2207
      obtain ⟨x2208, h2209⟩ := gen_mut g2206
      have h2210 : H2207 b2195 = some (.lst ((vs2196).set ((ixN (vs2196).length (x')).getD 0) (v_motion))) := h2209
      have S2211 := S2182.mut1 x2208 ((((fun b hb => (.tail _ (.tail _ (List.mem_append_left _ hb)))) : ∀ b ∈ L_self_lines, b ∈ (p_self :: (l_self_lines :: (L_self_lines ++ [])))) : ∀ b ∈ L_self_lines, b ∈ (p_self :: (l_self_lines :: (L_self_lines ++ [])))) _ (hs2191 _ List.mem_cons_self)) h2210
      have w2205 : OwAll G H2207 L2202 ((vs2196).set ((ixN (vs2196).length (x')).getD 0) (v_motion)) ((setL ((itD (self'.lines) (y'))) (x') (motion') : (List PyData)).map (oF encD)) := OwAll.mono (Same.refl _) (keeps_mut x2208 ((fun b hb => ((all_app nb2200 all_nil) : ∀ b ∈ (L2197 ++ ([] : List Addr)), b ≠ b2195) b (hL2203 b hb)) : ∀ b ∈ L2202, b ≠ b2195)) w2204
      obtain ⟨L2212, hL2213, w2214⟩ := gr2193 H2207 _ ([] : List Addr) (b2195 :: L2202) (grow_keeps (Same.refl _) x2208 List.mem_cons_self) (grow_sub hL2203) (all_nil : ∀ b ∈ ([] : List Addr), b ∉ L_self_lines) (Ow.list h2210 w2205 ((fun b hb => ((all_app nb2200 all_nil) : ∀ b ∈ (L2197 ++ ([] : List Addr)), b ≠ b2195) b (hL2203 b hb)) : ∀ b ∈ L2202, b ≠ b2195))
      have w2215 : OwAll G H2207 L2212 (vs_self_lines) ((setL (self'.lines) (y') (setL ((itD (self'.lines) (y'))) (x') (motion')) : (List (List PyData))).map (oL (oF encD))) := w2214
      have hw := cW_bnd hw
      have h2217 := (x2208 _ _ h2184 (nw_self_lines_0 _ (hs2191 _ List.mem_cons_self)).symm)
      have h2218 := (x2208 _ _ h2194 (nw_self_lines_1 _ (hs2191 _ List.mem_cons_self)).symm)
      have hw := cW_ok hw
      exact hK0 _ hw _ _ _ L2212 S2211.base S2211.g0 S2211.sG S2211.gn S2211.pm h2217 h2218 ((fun b hb => ((all_app (fun b hb => .inl hb) all_nil) : ∀ b ∈ (L_self_lines ++ ([] : List Addr)), b ∈ L_self_lines ∨ H b = none) b (hL2213 b hb)) : ∀ b ∈ L2212, b ∈ L_self_lines ∨ H b = none) ((fun b hb => (S2211.ow b ((fun b hb => ((all_app ((fun b hb => (.tail _ (.tail _ (List.mem_append_left _ hb)))) : ∀ b ∈ L_self_lines, b ∈ (p_self :: (l_self_lines :: (L_self_lines ++ [])))) all_nil) : ∀ b ∈ (L_self_lines ++ ([] : List Addr)), b ∈ (p_self :: (l_self_lines :: (L_self_lines ++ [])))) b (hL2213 b hb)) b hb)).1) : ∀ b ∈ L2212, G b = none) ((fun b hb => ((all_app nw_self_lines_0 all_nil) : ∀ b ∈ (L_self_lines ++ ([] : List Addr)), b ≠ p_self) b (hL2213 b hb)) : ∀ b ∈ L2212, b ≠ p_self) ((fun b hb => ((all_app nw_self_lines_1 all_nil) : ∀ b ∈ (L_self_lines ++ ([] : List Addr)), b ≠ l_self_lines) b (hL2213 b hb)) : ∀ b ∈ L2212, b ≠ l_self_lines) w2215
    · have hw := cW_negB c2183 hw
      have h2219 := (e2181 _ _ h_p_self)
      have h2220 := (e2181 _ _ h_l_self_lines)
      have w2221 : OwAll G H2180 L_self_lines (vs_self_lines) ((self'.lines : (List (List PyData))).map (oL (oF encD))) := (OwAll.mono (Same.refl _) (keeps_same e2181) w_self_lines)
      have hw := cW_ok hw
      exact hK0 _ hw _ _ _ L_self_lines S2182.base S2182.g0 S2182.sG S2182.gn S2182.pm h2219 h2220 ((fun b hb => .inl hb) : ∀ b ∈ L_self_lines, b ∈ L_self_lines ∨ H b = none) ((fun b hb => (S2182.ow b (((fun b hb => (.tail _ (.tail _ (List.mem_append_left _ hb)))) : ∀ b ∈ L_self_lines, b ∈ (p_self :: (l_self_lines :: (L_self_lines ++ [])))) b hb)).1) : ∀ b ∈ L_self_lines, G b = none) (nw_self_lines_0 : ∀ b ∈ L_self_lines, b ≠ p_self) (nw_self_lines_1 : ∀ b ∈ L_self_lines, b ≠ l_self_lines) w2221

abbrev N__law_is_vector : List Str := ["vector", "number"]
theorem sc__law_is_vector : FnScope N__law_is_vector ["vector"] (defScope s__law_is_vector) := ⟨rfl, rfl, rfl, by decide +kernel, rfl, by decide +kernel, by decide +kernel⟩
theorem ok__law_is_vector (D : DefX K mg "_law_is_vector" s__law_is_vector ["vector"] pats__law_is_vector) (T : Txt w K mg AD)  : CalX P w K mg base 1 "_law_is_vector" (sp__law_is_vector K AD) pats__law_is_vector := by
  refine D.ok sc__law_is_vector (fun vs H Q E h => ?_) (fun f cdv A_ outer s H vs Q E hr h => ?_)
  · obtain ⟨G, v_vector, vector', rfl, _⟩ := h
    rfl
  · obtain ⟨G, v_vector, vector', rfl, sG, r_vector, hw⟩ := h
    refine ⟨_, (pss_cons (ps_if (PW.pt (pw_or (pt_not (pt_val (pe_callB (call_isiD kit_dTup) (by rfl) T.b_isinstance (by decide +kernel) (pa_cons (pv 0) (pa_cons (pe_bltn (v := V.ty "tuple") (u := Value.type "tuple") (by rfl) T.b_tuple (by decide +kernel) rfl) pa_nil))))) (pw_or1 (pt_cmp (pc_neI (pe_callB (call_lenTK (K := K)) (by rfl) T.b_len (by decide +kernel) (pa_cons (pv 0) pa_nil)) pe_int))))) (pss_one (ps_ret pe_bl)) pss_nil)
      (pss_cons (ps_for (passes_of rfl) rfl (pi_tupK (K := K) (pv 0)) (pg_name (i := 1) sc__law_is_vector.nd rfl (Or.inl rfl)) (pss_one (ps_if (PW.pt (pw_or (pt_not (pt_val (pe_callB call_isi (by rfl) T.b_isinstance (by decide +kernel) (pa_cons (pv 1) (pa_cons (pe_bltn (v := V.ty "int") (u := Value.type "int") (by rfl) T.b_int (by decide +kernel) rfl) pa_nil))))) (pw_or (pt_val (pe_callB call_isi (by rfl) T.b_isinstance (by decide +kernel) (pa_cons (pv 1) (pa_cons (pe_bltn (v := V.ty "bool") (u := Value.type "bool") (by rfl) T.b_bool (by decide +kernel) rfl) pa_nil)))) (pw_or1 (pt_not (pt_chain op_le op_le (pe_un un_neg pe_int) (pv 1) pe_int)))))) (pss_one (ps_ret pe_bl)) pss_nil)))
      (pss_one (ps_ret pe_bl)))), ?_⟩
    obtain ⟨KK, EE, hK0, hE, hw⟩ := cW_gen hw
    have S0 := Sep.startG sG
    unfold F__law_is_vector at hw
    refine ⟨_, rfl, _, vector', rfl, (Rp.mono S0.bM r_vector), _, rfl, ?_⟩
    refine iteBN (fun c2222 => ?_) (fun c2222 => ?_)
    · have hw := cW_negB c2222 hw
      refine iteT ?_
      have hw := cW_ok hw
      exact hK0 _ hw _ S0.b0
    · have hw := cW_pos c2222 hw
      obtain ⟨g2223, hw⟩ := cW_grd hw
      have r2224 : Rp (hideL [] H) v_vector ((encT2 PyData.int PyData.int) (((cT2 cI cI)).dec (vector'))) := rp_dcast (cT2 cI cI) g2223 r_vector
      obtain ⟨a2225, v2227, v2228, rfl, h2226, r2229, r2230⟩ := rp_tup2 r2224
      obtain rfl := rp_int r2229
      obtain rfl := rp_int r2230
      refine ⟨_, rfl, _, _, _, rfl, (SqT.of (S0.bM _ _ h2226)), rfl, _, _, rfl, rfl, _, rfl, ?_⟩
      refine iteN (fun c2231 => ?_) (fun c2231 => ?_)
      · have hw := cW_neg c2231 hw
        have hw := cW_ok hw
        exact hK0 _ hw _ S0.b0
      · have hw := cW_pos c2231 hw
        obtain ⟨K2232, hK2233, hw⟩ := cW_push hw
        refine ⟨_, rfl, _, rfl, ⟨_, (SqT.of (S0.bM _ _ h2226))⟩, for_tup (K := K) (a := a2225) (xs := (([(((cT2 cI cI)).dec (vector')).1, (((cT2 cI cI)).dec (vector')).2] : List Int).map V.int)) (fun i σ H' => ∃ (u2234 : Option V) (G' : Hp), σ = [some (V.ref a2225), u2234] ∧ Same G G' ∧ Sep [] H G G' H' [] ∧ cW (forR (List.drop i ([(((cT2 cI cI)).dec (vector')).1, (((cT2 cI cI)).dec (vector')).2])) () (fun s x => F__law_is_vector_b1   x)) K2232 EE) ?_ ?_ ?_ ?_⟩
        · exact ⟨_, _, rfl, (Same.refl _), S0, hw⟩
        · intro i σ H2235 _ hw
          obtain ⟨u2234, G2237, rfl, eG2238, S2236, hw⟩ := hw
          exact (SqT.of (S2236.bM _ _ h2226))
        · intro i x σ H2239 hj hw
          obtain ⟨u2234, G2241, rfl, eG2242, S2240, hw⟩ := hw
          obtain ⟨x2243, hx, rfl⟩ := map_get hj
          have hw := cW_forR hx hw
          have hw : cW (F__law_is_vector_b1   (x2243)) _ EE := hw
          unfold F__law_is_vector_b1 at hw
          obtain ⟨K2244, hK2245, hw⟩ := cW_name hw
          refine ⟨_, rfl, _, _, _, _, _, rfl, (.ty _), (.base (.int _)), rfl, _, rfl, ?_⟩
          refine iteF ?_
          refine ⟨_, rfl, _, _, _, _, _, rfl, (.ty _), (.base (.int _)), rfl, _, rfl, ?_⟩
          refine iteF ?_
          refine ⟨_, rfl, _, rfl, _, _, rfl, rfl, _, rfl, ?_⟩
          refine iteD (fun c2247 => ?_) (fun c2247 => ?_)
          · have hw := cW_pos c2247 hw
            refine ⟨_, _, rfl, rfl, _, rfl, ?_⟩
            refine iteN (fun c2248 => ?_) (fun c2248 => ?_)
            · have hw := cW_neg c2248 hw
              have hw := cW_ok hw
              have hw := hK2245 (.rt _) hw
              have hw := hK2233 (.rt _) hw
              have hw := cW_ok hw
              exact hK0 _ hw _ S2240.b0
            · have hw := cW_pos c2248 hw
              have hw := cW_ok hw
              have hw := hK2245 _ hw
              exact ⟨_, _, rfl, eG2242, S2240, hw⟩
          · have hw := cW_neg c2247 hw
            refine ⟨_, rfl, ?_⟩
            refine iteT ?_
            have hw := cW_ok hw
            have hw := hK2245 (.rt _) hw
            have hw := hK2233 (.rt _) hw
            have hw := cW_ok hw
            exact hK0 _ hw _ S2240.b0
        · intro σ H2249 hw
          obtain ⟨u2234, G2251, rfl, eG2252, S2250, hw⟩ := hw
          have hw := cW_aftgo (hK2233 _ (cW_forR0 (by rw [List.length_map]) hw))
          have hw : cW (F__law_is_vector_r1  ) _ EE := hw
          unfold F__law_is_vector_r1 at hw
          have hw := cW_ok hw
          exact hK0 _ hw _ S2250.b0

abbrev N__law_is_motion : List Str := ["motion", "kind", "refs"]
theorem sc__law_is_motion : FnScope N__law_is_motion ["motion", "kind", "refs"] (defScope s__law_is_motion) := ⟨rfl, rfl, rfl, by decide +kernel, rfl, by decide +kernel, by decide +kernel⟩
theorem ok__law_is_motion (D : DefX K mg "_law_is_motion" s__law_is_motion ["motion", "kind", "refs"] pats__law_is_motion) (T : Txt w K mg AD) (c__law_is_vector : CalX P w K mg base 1 "_law_is_vector" (sp__law_is_vector K AD) pats__law_is_vector) : CalX P w K mg base 2 "_law_is_motion" (sp__law_is_motion K AD) pats__law_is_motion := by
  refine D.ok sc__law_is_motion (fun vs H Q E h => ?_) (fun f cdv A_ outer s H vs Q E hr h => ?_)
  · obtain ⟨G, v_motion, motion', kind', refs', rfl, _⟩ := h
    rfl
  · obtain ⟨G, v_motion, motion', kind', refs', rfl, sG, r_motion, hw⟩ := h
    refine ⟨_, (pss_cons (ps_if (PW.pt (pw_or (pt_not (pt_val (pe_callB call_isi (by rfl) T.b_isinstance (by decide +kernel) (pa_cons (pv 0) (pa_cons (pe_bltn (v := V.ty "tuple") (u := Value.type "tuple") (by rfl) T.b_tuple (by decide +kernel) rfl) pa_nil))))) (pw_or1 (pt_cmp (pc_neI (pe_callB (call_lenTK (K := K)) (by rfl) T.b_len (by decide +kernel) (pa_cons (pv 0) pa_nil)) pe_int))))) (pss_one (ps_ret pe_bl)) pss_nil)
      (pss_cons (ps_if (pt_cmp (pc_eqI (pv 1) pe_int)) (pss_one (ps_ret (pe_and (pe_cmp (pc_eqI (pe_ix (ix_tupK (K := K)) (pv 0) pe_int (fun _ _ => rfl)) pe_int)) (pe_and (pe_chain op_le op_lt pe_int (pe_ix (ix_tupK (K := K)) (pv 0) pe_int (fun _ _ => rfl)) (pv 2)) (pe_and (vx_callX c__law_is_vector pat__law_is_vector_0 (.head _) hr (by decide) (takes_of rfl rfl rfl rfl) rfl (pa_cons (pe_ix (ix_tupK (K := K)) (pv 0) pe_int (fun _ _ => rfl)) pa_nil) pk_nil) (pe_one (pe_cmpR op_isND (pe_ix (ix_tupK (K := K)) (pv 0) pe_int (fun _ _ => rfl)) pe_non (nomark _)))))))) pss_nil)
      (pss_cons (ps_if (PW.pt (pw_or (pt_cmp (pc_neI (pe_ix (ix_tupK (K := K)) (pv 0) pe_int (fun _ _ => rfl)) pe_int)) (pw_or1 (pt_not (pt_chain op_le op_le pe_int (pe_ix (ix_tupK (K := K)) (pv 0) pe_int (fun _ _ => rfl)) pe_int))))) (pss_one (ps_ret pe_bl)) pss_nil)
      (pss_cons (ps_if (pt_cmp (pc_eqI (pe_ix (ix_tupK (K := K)) (pv 0) pe_int (fun _ _ => rfl)) pe_int)) (pss_one (ps_ret (pe_and (vx_callX c__law_is_vector pat__law_is_vector_0 (.head _) hr (by decide) (takes_of rfl rfl rfl rfl) rfl (pa_cons (pe_ix (ix_tupK (K := K)) (pv 0) pe_int (fun _ _ => rfl)) pa_nil) pk_nil) (pe_one (pe_cmpR op_isND (pe_ix (ix_tupK (K := K)) (pv 0) pe_int (fun _ _ => rfl)) pe_non (nomark _)))))) pss_nil)
      (pss_cons (ps_if (pt_cmp (pc_eqI (pe_ix (ix_tupK (K := K)) (pv 0) pe_int (fun _ _ => rfl)) pe_int)) (pss_one (ps_ret (pe_and (pe_cmpR op_isND (pe_ix (ix_tupK (K := K)) (pv 0) pe_int (fun _ _ => rfl)) pe_non (nomark _)) (pe_one (vx_callX c__law_is_vector pat__law_is_vector_0 (.head _) hr (by decide) (takes_of rfl rfl rfl rfl) rfl (pa_cons (pe_ix (ix_tupK (K := K)) (pv 0) pe_int (fun _ _ => rfl)) pa_nil) pk_nil))))) pss_nil)
      (pss_one (ps_ret (pe_and (vx_callX c__law_is_vector pat__law_is_vector_0 (.head _) hr (by decide) (takes_of rfl rfl rfl rfl) rfl (pa_cons (pe_ix (ix_tupK (K := K)) (pv 0) pe_int (fun _ _ => rfl)) pa_nil) pk_nil) (pe_one (vx_callX c__law_is_vector pat__law_is_vector_0 (.head _) hr (by decide) (takes_of rfl rfl rfl rfl) rfl (pa_cons (pe_ix (ix_tupK (K := K)) (pv 0) pe_int (fun _ _ => rfl)) pa_nil) pk_nil)))))))))), ?_⟩
    obtain ⟨KK, EE, hK0, hE, hw⟩ := cW_gen hw
    have S0 := Sep.startG sG
    unfold F__law_is_motion at hw
    obtain ⟨a2253, v2255, v2256, v2257, v2258, rfl, h2254, r2259, r2260, r2261, r2262⟩ := rp_tup4 r_motion
    obtain rfl := rp_int r2259
    obtain rfl := rp_int r2260
    refine ⟨_, rfl, _, _, _, _, _, rfl, (.ty _), (.base (.tup (S0.bM _ _ h2254))), rfl, _, rfl, ?_⟩
    refine iteF ?_
    refine ⟨_, rfl, _, _, _, rfl, (SqT.of (S0.bM _ _ h2254)), rfl, _, _, rfl, rfl, _, rfl, ?_⟩
    refine iteN (fun c2263 => ?_) (fun c2263 => ?_)
    · have hw := cW_neg c2263 hw
      have hw := cW_ok hw
      exact hK0 _ hw _ S0.b0
    · have hw := cW_pos c2263 hw
      refine ⟨_, rfl, _, _, rfl, rfl, _, rfl, ?_⟩
      refine iteD (fun c2264 => ?_) (fun c2264 => ?_)
      · have hw := cW_pos c2264 hw
        refine ⟨_, rfl, _, _, _, _, rfl, rfl, (SqT.of (S0.bM _ _ h2254)), rfl, _, _, rfl, rfl, _, rfl, ?_⟩
        refine iteB (fun c2265 => ?_) (fun c2265 => ?_)
        · have hw := cW_pos c2265 hw
          refine ⟨_, rfl, _, _, _, _, rfl, rfl, (SqT.of (S0.bM _ _ h2254)), rfl, _, _, rfl, rfl, _, rfl, ?_⟩
          refine iteD (fun c2266 => ?_) (fun c2266 => ?_)
          · have hw := cW_pos c2266 hw
            refine ⟨_, rfl, _, _, rfl, rfl, _, rfl, ?_⟩
            refine iteB (fun c2267 => ?_) (fun c2267 => ?_)
            · have hw := cW_pos c2267 hw
              refine ⟨_, rfl, _, _, _, _, rfl, rfl, (SqT.of (S0.bM _ _ h2254)), rfl, rfl, rfl, G, _, motion'.2.2.1, rfl, S0.sG, (Rp.hide_nil (Rp.mono S0.bM r2261)), cW_call hw (fun v2268 hw H2269 e2270 => ?_) (fun e he H2 e2 => hE e he H2 (Same.trans S0.b0 e2))⟩
              have S2271 := S0.same e2270
              refine ⟨_, rfl, ?_⟩
              refine iteB (fun c2272 => ?_) (fun c2272 => ?_)
              · have hw := cW_pos c2272 hw
                refine ⟨_, rfl, _, _, _, _, rfl, rfl, (SqT.of (S2271.bM _ _ h2254)), rfl, motion'.2.2.2, rfl, (Rp.mono S2271.bM r2262), ?_⟩
                have hw := cW_ok hw
                exact hK0 _ hw _ S2271.b0
              · have hw := cW_negB c2272 hw
                have hw := cW_ok hw
                exact hK0 _ hw _ S2271.b0
            · have hw := cW_negB c2267 hw
              have hw := cW_ok hw
              exact hK0 _ hw _ S0.b0
          · have hw := cW_neg c2266 hw
            refine ⟨_, rfl, ?_⟩
            refine iteF ?_
            have hw := cW_ok hw
            exact hK0 _ hw _ S0.b0
        · have hw := cW_negB c2265 hw
          have hw := cW_ok hw
          exact hK0 _ hw _ S0.b0
      · have hw := cW_neg c2264 hw
        refine ⟨_, rfl, _, _, _, _, rfl, rfl, (SqT.of (S0.bM _ _ h2254)), rfl, _, _, rfl, rfl, _, rfl, ?_⟩
        refine iteN (fun c2273 => ?_) (fun c2273 => ?_)
        · have hw := cW_neg c2273 hw
          refine iteT ?_
          have hw := cW_ok hw
          exact hK0 _ hw _ S0.b0
        · have hw := cW_pos c2273 hw
          refine ⟨_, rfl, _, _, _, _, rfl, rfl, (SqT.of (S0.bM _ _ h2254)), rfl, _, _, rfl, rfl, _, rfl, ?_⟩
          refine iteD (fun c2274 => ?_) (fun c2274 => ?_)
          · have hw := cW_pos c2274 hw
            refine ⟨_, _, rfl, rfl, _, rfl, ?_⟩
            refine iteN (fun c2275 => ?_) (fun c2275 => ?_)
            · have hw := cW_neg c2275 hw
              have hw := cW_ok hw
              exact hK0 _ hw _ S0.b0
            · have hw := cW_pos c2275 hw
              refine ⟨_, rfl, _, _, _, _, rfl, rfl, (SqT.of (S0.bM _ _ h2254)), rfl, _, _, rfl, rfl, _, rfl, ?_⟩
              refine iteD (fun c2276 => ?_) (fun c2276 => ?_)
              · have hw := cW_pos c2276 hw
                refine ⟨_, rfl, _, _, _, _, rfl, rfl, (SqT.of (S0.bM _ _ h2254)), rfl, rfl, rfl, G, _, motion'.2.2.1, rfl, S0.sG, (Rp.hide_nil (Rp.mono S0.bM r2261)), cW_call hw (fun v2277 hw H2278 e2279 => ?_) (fun e he H2 e2 => hE e he H2 (Same.trans S0.b0 e2))⟩
                have S2280 := S0.same e2279
                refine ⟨_, rfl, ?_⟩
                refine iteB (fun c2281 => ?_) (fun c2281 => ?_)
                · have hw := cW_pos c2281 hw
                  refine ⟨_, rfl, _, _, _, _, rfl, rfl, (SqT.of (S2280.bM _ _ h2254)), rfl, motion'.2.2.2, rfl, (Rp.mono S2280.bM r2262), ?_⟩
                  have hw := cW_ok hw
                  exact hK0 _ hw _ S2280.b0
                · have hw := cW_negB c2281 hw
                  have hw := cW_ok hw
                  exact hK0 _ hw _ S2280.b0
              · have hw := cW_neg c2276 hw
                refine ⟨_, rfl, _, _, _, _, rfl, rfl, (SqT.of (S0.bM _ _ h2254)), rfl, _, _, rfl, rfl, _, rfl, ?_⟩
                refine iteD (fun c2282 => ?_) (fun c2282 => ?_)
                · have hw := cW_pos c2282 hw
                  refine ⟨_, rfl, _, _, _, _, rfl, rfl, (SqT.of (S0.bM _ _ h2254)), rfl, motion'.2.2.1, rfl, (Rp.mono S0.bM r2261), _, rfl, ?_⟩
                  refine iteB (fun c2283 => ?_) (fun c2283 => ?_)
                  · have hw := cW_pos c2283 hw
                    refine ⟨_, rfl, _, _, _, _, rfl, rfl, (SqT.of (S0.bM _ _ h2254)), rfl, rfl, rfl, G, _, motion'.2.2.2, rfl, S0.sG, (Rp.hide_nil (Rp.mono S0.bM r2262)), cW_call hw (fun v2284 hw H2285 e2286 => ?_) (fun e he H2 e2 => hE e he H2 (Same.trans S0.b0 e2))⟩
                    have S2287 := S0.same e2286
                    have hw := cW_ok hw
                    exact hK0 _ hw _ S2287.b0
                  · have hw := cW_negB c2283 hw
                    have hw := cW_ok hw
                    exact hK0 _ hw _ S0.b0
                · have hw := cW_neg c2282 hw
                  refine ⟨_, rfl, _, _, _, _, rfl, rfl, (SqT.of (S0.bM _ _ h2254)), rfl, rfl, rfl, G, _, motion'.2.2.1, rfl, S0.sG, (Rp.hide_nil (Rp.mono S0.bM r2261)), cW_call hw (fun v2288 hw H2289 e2290 => ?_) (fun e he H2 e2 => hE e he H2 (Same.trans S0.b0 e2))⟩
                  have S2291 := S0.same e2290
                  refine ⟨_, rfl, ?_⟩
                  refine iteB (fun c2292 => ?_) (fun c2292 => ?_)
                  · have hw := cW_pos c2292 hw
                    refine ⟨_, rfl, _, _, _, _, rfl, rfl, (SqT.of (S2291.bM _ _ h2254)), rfl, rfl, rfl, G, _, motion'.2.2.2, rfl, S2291.sG, (Rp.hide_nil (Rp.mono S2291.bM r2262)), cW_call hw (fun v2293 hw H2294 e2295 => ?_) (fun e he H2 e2 => hE e he H2 (Same.trans S2291.b0 e2))⟩
                    have S2296 := S2291.same e2295
                    have hw := cW_ok hw
                    exact hK0 _ hw _ S2296.b0
                  · have hw := cW_negB c2292 hw
                    have hw := cW_ok hw
                    exact hK0 _ hw _ S2291.b0
          · have hw := cW_neg c2274 hw
            refine ⟨_, rfl, ?_⟩
            refine iteT ?_
            have hw := cW_ok hw
            exact hK0 _ hw _ S0.b0

abbrev N_law : List Str := ["script", "draws", "kind", "refs", "settings", "header", "octets", "grid", "kept", "reader", "twin", "cell", "place", "due", "motion", "line", "y"]
theorem sc_law : FnScope N_law ["script"] (defScope s_law) := ⟨rfl, rfl, rfl, by decide +kernel, rfl, by decide +kernel, by decide +kernel⟩
theorem ok_law {f : Addr} {fd : FuncData} (F : FunD K "law" "law" (defArgs s_law) (defBody s_law) (defScope s_law) [] [] f fd) (T : Txt w K mg AD) (c__law_draws : CalX P w K mg base 1 "_law_draws" (sp__law_draws K AD) pats__law_draws) (c__law_cell : CalX P w K mg base 1 "_law_cell" (sp__law_cell K AD) pats__law_cell) (c_Settings___init__ : MakX P w K mg base 2 "Settings" AD.c_Settings (sp_Settings___init__ K AD) pats_Settings___init__) (c_Format___init__ : MakX P w K mg base 1 "Format" AD.c_Format (sp_Format___init__ K AD) pats_Format___init__) (c_PictureHeader___init__ : MakX P w K mg base 3 "PictureHeader" AD.c_PictureHeader (sp_PictureHeader___init__ K AD) (pats_PictureHeader___init__ AD)) (c_MotionGrid___init__ : MakX P w K mg base 1 "MotionGrid" AD.c_MotionGrid (sp_MotionGrid___init__ K AD) pats_MotionGrid___init__) (c_SymbolReader___init__ : MakX P w K mg base 1 "SymbolReader" AD.c_SymbolReader (sp_SymbolReader___init__ K AD) pats_SymbolReader___init__) (c_Decoder___init__ : MakX P w K mg base 2 "Decoder" AD.c_Decoder (sp_Decoder___init__ K AD) pats_Decoder___init__) (c__law_due : CalX P w K mg base 7 "_law_due" (sp__law_due K AD) pats__law_due) (c_read_motion : CalX P w K mg base 8 "read_motion" (sp_read_motion K AD) pats_read_motion) (c__law_is_motion : CalX P w K mg base 2 "_law_is_motion" (sp__law_is_motion K AD) pats__law_is_motion) (c_MotionGrid_motion_at : MetX P w K mg base 2 AD.c_MotionGrid "motion_at" (sp_MotionGrid_motion_at K AD) pats_MotionGrid_motion_at) (c_MotionGrid_keep_quarter : MetX P w K mg base 2 AD.c_MotionGrid "keep_quarter" (sp_MotionGrid_keep_quarter K AD) pats_MotionGrid_keep_quarter) : FnG P w K mg base CX0 9 f fd ["script"] (sp_law K AD) := by
  refine FnG.bodyN F sc_law (fun vs H Q E h => ?_) (fun cdv A_ outer s H vs Q E hr h => ?_)
  · obtain ⟨a_script, script, rfl, _⟩ := h
    rfl
  · obtain ⟨a_script, script', rfl, q_script, hw, k⟩ := h
    refine ⟨_, (pss_cons (ps_set (i := 1) sc_law.nd rfl (Or.inl rfl) (vx_callX c__law_draws pat__law_draws_0 (.head _) hr (by decide) takes0 rfl (pa_cons (vx_callX c__law_cell pat__law_cell_0 (.head _) hr (by decide) takes0 rfl (pa_cons (pv 0) (pa_cons pe_int pa_nil)) pk_nil) (pa_cons (pe_lst (pa_cons pe_int (pa_cons pe_int (pa_cons pe_int (pa_cons pe_int pa_nil))))) pa_nil)) pk_nil))
      (pss_cons (ps_set (i := 2) sc_law.nd rfl (Or.inl rfl) (pe_op op_add pe_int (pe_ix (ix_listK (K := K)) (pv 1) pe_int (fun _ _ => rfl))))
      (pss_cons (ps_set (i := 3) sc_law.nd rfl (Or.inl rfl) (pe_ix (ix_listK (K := K)) (pe_lst (pa_cons (pe_op op_add pe_int (pe_ix (ix_listK (K := K)) (pv 1) pe_int (fun _ _ => rfl))) (pa_cons pe_int pa_nil))) (pe_ix (ix_listK (K := K)) (pv 1) pe_int (fun _ _ => rfl)) (fun _ _ => rfl)))
      (pss_cons (ps_set (i := 4) sc_law.nd rfl (Or.inl rfl) (vx_makeX c_Settings___init__ pat_Settings___init___0 (.head _) hr (by decide) takes0 rfl (pa_cons (vx_makeX c_Format___init__ pat_Format___init___0 (.head _) hr (by decide) takes0 rfl (pa_cons pe_int (pa_cons pe_int pa_nil)) pk_nil) pa_nil) (pk_cons pe_int pk_nil)))
      (pss_cons (ps_set (i := 5) sc_law.nd rfl (Or.inl rfl) (vx_makeX c_PictureHeader___init__ (pat_PictureHeader___init___0 AD) (.head _) hr (by decide) takes0 rfl (pa_cons (pv 4) pa_nil) (pk_cons pe_int (pk_cons (pe_ix (ix_listK (K := K)) (pe_lst (pa_cons pe_str (pa_cons pe_str (pa_cons pe_str pa_nil)))) (pv 2) (fun _ _ => rfl)) (pk_cons (pe_slice (sl_listK (K := K)) (pe_lst (pa_cons pe_int (pa_cons pe_int pa_nil))) po_none (po_some (pv 3))) pk_nil)))))
      (pss_cons (ps_set (i := 6) sc_law.nd rfl (Or.inl rfl) (vx_callX c__law_draws pat__law_draws_0 (.head _) hr (by decide) takes0 rfl (pa_cons (vx_callX c__law_cell pat__law_cell_0 (.head _) hr (by decide) takes0 rfl (pa_cons (pv 0) (pa_cons pe_int pa_nil)) pk_nil) (pa_cons (pe_op op_rep (pe_lst (pa_cons pe_int pa_nil)) (pe_ix (ix_listK (K := K)) (pv 1) pe_int (fun _ _ => rfl))) pa_nil)) pk_nil))
      (C8.pss_cut (ps_if (pt_cmp (pc_eqI (pe_ix (ix_listK (K := K)) (pv 1) pe_int (fun _ _ => rfl)) pe_int)) (pss_one (ps_set (i := 6) sc_law.nd rfl (Or.inl rfl) (pe_op op_rep (pe_lst (pa_cons pe_int pa_nil)) (pe_ix (ix_listK (K := K)) (pv 1) pe_int (fun _ _ => rfl))))) pss_nil)
      (C8.pss_cut (ps_if (pt_cmp (pc_eqI (pe_ix (ix_listK (K := K)) (pv 1) pe_int (fun _ _ => rfl)) pe_int)) (pss_one (ps_set (i := 6) sc_law.nd rfl (Or.inl rfl) (pe_op op_rep (pe_lst (pa_cons pe_int pa_nil)) (pe_ix (ix_listK (K := K)) (pv 1) pe_int (fun _ _ => rfl))))) pss_nil)
      (pss_cons (ps_set (i := 7) sc_law.nd rfl (Or.inl rfl) (vx_makeX c_MotionGrid___init__ pat_MotionGrid___init___0 (.head _) hr (by decide) takes0 rfl (pa_cons pe_int (pa_cons pe_int pa_nil)) pk_nil))
      (pss_cons (ps_setLc (i := 8) (y := "kept") rfl sc_law.nd rfl rfl (sw_true rfl rfl rfl (by decide +kernel)) (own := [("y", 16)]) (g := gName 16) (pi_range1 rfl T.b_range (pa_cons pe_int pa_nil)) (blkOk_by (own := [("y", 16)]) (N := N_law) (sc := defScope s_law) (by decide +kernel)) (fun _ _ _ _ _ => (pg_name (i := 16) sc_law.nd rfl (Or.inl rfl))) (fun _ _ _ _ _ => pts_nil) (fun _ _ _ _ _ => (pe_op op_rep (pe_lst (pa_cons pe_non pa_nil)) pe_int)))
      (pss_cons (ps_set (i := 9) sc_law.nd rfl (Or.inl rfl) (vx_makeX c_SymbolReader___init__ pat_SymbolReader___init___0 (.head _) hr (by decide) takes0 rfl (pa_cons (vx_makeX c_Decoder___init__ pat_Decoder___init___0 (.head _) hr (by decide) takes0 rfl (pa_cons (pe_callTy (call_listLK (K := K)) (by rfl) T.b_list (by decide +kernel) (pa_cons (pv 6) pa_nil)) pa_nil) pk_nil) pa_nil) pk_nil))
      (pss_cons (ps_set (i := 10) sc_law.nd rfl (Or.inl rfl) (vx_makeX c_SymbolReader___init__ pat_SymbolReader___init___0 (.head _) hr (by decide) takes0 rfl (pa_cons (vx_makeX c_Decoder___init__ pat_Decoder___init___0 (.head _) hr (by decide) takes0 rfl (pa_cons (pe_callTy (call_listLK (K := K)) (by rfl) T.b_list (by decide +kernel) (pa_cons (pv 6) pa_nil)) pa_nil) pk_nil) pa_nil) pk_nil))
      (pss_cons (ps_for PassesOwn.never rfl (pi_listK (K := K) (pe_slice (sl_listK (K := K)) (pv 0) (po_some pe_int) po_none)) (pg_name (i := 11) sc_law.nd rfl (Or.inl rfl)) (pss_cons (ps_set (i := 12) sc_law.nd rfl (Or.inl rfl) (pe_tup (pa_cons (pe_op op_mod (pe_callTy call_int1 (by rfl) T.b_int (by decide +kernel) (pa_cons (pv 11) pa_nil)) pe_int) (pa_cons (pe_op op_mod (pe_op op_fdivW (pe_callTy call_int1 (by rfl) T.b_int (by decide +kernel) (pa_cons (pv 11) pa_nil)) pe_int) pe_int) pa_nil))))
      (pss_cons (ps_set (i := 13) sc_law.nd rfl (Or.inl rfl) (vx_callX c__law_due pat__law_due_0 (.head _) hr (by decide) takes0 rfl (pa_cons (pv 10) (pa_cons (pv 8) (pa_cons (pv 12) (pa_cons (pv 2) (pa_cons (pv 3) pa_nil))))) pk_nil))
      (pss_cons (ps_set (i := 14) sc_law.nd rfl (Or.inl rfl) (vx_callX c_read_motion pat_read_motion_0 (.head _) hr (by decide) takes0 rfl (pa_cons (pv 9) (pa_cons (pv 5) (pa_cons (pv 7) (pa_cons (pe_ix (ix_tupK (K := K)) (pv 12) pe_int (fun _ _ => rfl)) (pa_cons (pe_ix (ix_tupK (K := K)) (pv 12) pe_int (fun _ _ => rfl)) pa_nil))))) pk_nil))
      (pss_cons (ps_if (PW.pt (pw_or (pt_not (pt_val (vx_callX c__law_is_motion pat__law_is_motion_0 (.head _) hr (by decide) takes0 rfl (pa_cons (pv 14) (pa_cons (pv 2) (pa_cons (pv 3) pa_nil))) pk_nil))) (pw_or1 (pt_cmpR (op_neDD hr.units) (pv 14) (pv 13) (nomark _))))) (pss_one (ps_ret pe_bl)) pss_nil)
      (pss_cons (ps_if (pt_cmpR (op_neDD hr.units) (vx_methX c_MotionGrid_motion_at pat_MotionGrid_motion_at_0 (.head _) hr (by decide) takes0 (pv 7) (pa_cons (pe_ix (ix_tupK (K := K)) (pv 12) pe_int (fun _ _ => rfl)) (pa_cons (pe_ix (ix_tupK (K := K)) (pv 12) pe_int (fun _ _ => rfl)) pa_nil)) pk_nil) (pe_ix (ix_listK (K := K)) (pe_ix (ix_listK (K := K)) (pv 8) (pe_ix (ix_tupK (K := K)) (pv 12) pe_int (fun _ _ => rfl)) (fun _ _ => rfl)) (pe_ix (ix_tupK (K := K)) (pv 12) pe_int (fun _ _ => rfl)) (fun _ _ => rfl)) (nomark _)) (pss_one (ps_ret pe_bl)) pss_nil)
      (pss_cons (ps_expr (vx_methX c_MotionGrid_keep_quarter pat_MotionGrid_keep_quarter_0 (.head _) hr (by decide) takes0 (pv 7) (pa_cons (pe_ix (ix_tupK (K := K)) (pv 12) pe_int (fun _ _ => rfl)) (pa_cons (pe_ix (ix_tupK (K := K)) (pv 12) pe_int (fun _ _ => rfl)) (pa_cons (pv 14) pa_nil))) pk_nil))
      (pss_cons (ps_set (i := 15) sc_law.nd rfl (Or.inl rfl) (pe_ix (ix_listK (K := K)) (pv 8) (pe_ix (ix_tupK (K := K)) (pv 12) pe_int (fun _ _ => rfl)) (fun _ _ => rfl)))
      (pss_one (ps_asg (pv 14) (pg_sub (pv 15) (pe_ix (ix_tupK (K := K)) (pv 12) pe_int (fun _ _ => rfl)) set_list)))))))))))
      (pss_one (ps_ret pe_bl))))))))))))))), ?_⟩
    obtain ⟨KK, EE, hK0, hE, hw⟩ := cW_gen hw
    have S0 := Sep.start0 H
    unfold F_law at hw
    refine ⟨_, rfl, rfl, rfl, H, _, _, _, rfl, S0.sG, (S0.b0.seq q_script), cW_call hw (fun v2297 hw => ?_) (fun e he => (hE e he).elim)⟩
    refine ⟨(by show 4 ≤ sizeLine; decide), fun p2298 n2299 => ?_⟩
    generalize g2300 : upd H p2298 _ = H2301
    obtain ⟨e2302, h2303⟩ := gen_new n2299 g2300
    have h2304 : H2301 p2298 = some (.lst (([2, 2, 31, 4] : (List Int)).map V.int)) := h2303
    have fr2305 := S0.free n2299
    have S2306 := S0.new n2299 e2302 h2304 fr2305
    refine ⟨rfl, rfl, H, _, _, _, rfl, S2306.sG, (hide_nil h2304), cW_call hw (fun v2307 hw p2310 H2308 n2311 e2309 h2312 => ?_) (fun e he => (hE e he).elim)⟩
    have h2313 : H2308 p2310 = some (.lst ((v2307 : (List Int)).map V.int)) := h2312
    have fr2314 := S2306.free n2311
    have S2315 := S2306.new n2311 e2309 h2313 fr2314
    obtain ⟨g2316, hw⟩ := cW_grd hw
    refine ⟨_, rfl, _, _, _, _, rfl, rfl, (SqL.of h2313), (atI_map g2316), _, _, rfl, rfl, ?_⟩
    have hw := cW_bnd hw
    obtain ⟨g2318, hw⟩ := cW_grd hw
    refine ⟨_, rfl, _, _, _, _, rfl, rfl, (SqL.of h2313), (atI_map g2318), _, _, rfl, rfl, (by show 2 ≤ sizeLine; decide), fun p2319 n2320 => ?_⟩
    generalize g2321 : upd H2308 p2319 _ = H2322
    obtain ⟨e2323, h2324⟩ := gen_new n2320 g2321
    have h2325 : H2322 p2319 = some (.lst (([(1 + (itD (v2307) (1))), 2] : (List Int)).map V.int)) := h2324
    have fr2326 := S2315.free n2320
    have S2327 := S2315.new n2320 e2323 h2325 fr2326
    obtain ⟨g2328, hw⟩ := cW_grd hw
    have h2329 := (e2323 _ _ h2313)
    obtain ⟨g2330, hw⟩ := cW_grd hw
    refine ⟨_, rfl, _, _, _, _, rfl, rfl, (SqL.of h2329), (atI_map g2328), _, _, _, _, rfl, rfl, (SqL.of h2325), (atI_map g2330), ?_⟩
    have hw := cW_bnd hw
    refine ⟨rfl, rfl, fun x2332 dx2333 n2334 n2335 n2336 => ?_⟩
    generalize g2337 : upd (upd H2322 dx2333 _) x2332 _ = H2338
    obtain ⟨e2339, h2340⟩ := gen_obj n2334 n2335 n2336 g2337
    have fr2341 := S2327.free n2334
    have S2342 := S2327.new n2334 e2339 h2340 fr2341
    refine ⟨H, _, _, _, _, _, _, rfl, S2342.sG, (S2342.gno (all_cons (.head _) all_nil)), h2340, cW_call hw (fun v2343 hw H2344 x2345 h2346 => ⟨rfl, ?_⟩) (fun e he => (hE e he).elim)⟩
    have S2347 : Sep _ _ _ _ H2344 [x2332, p2319, p2310, p2298] := Sep.init S2342 x2345 (.head _) h2346 [] all_nil
    refine ⟨rfl, rfl, fun x2348 dx2349 n2350 n2351 n2352 => ?_⟩
    generalize g2353 : upd (upd H2344 dx2349 _) x2348 _ = H2354
    obtain ⟨e2355, h2356⟩ := gen_obj n2350 n2351 n2352 g2353
    have fr2357 := S2347.free n2350
    have S2358 := S2347.new n2350 e2355 h2356 fr2357
    have h2359 := (e2355 _ _ h2346)
    refine ⟨H, _, _, _, _, v2343, _, _, _, _, _, rfl, S2358.sG, (S2358.gno (all_cons (.head _) all_nil)), h2356, ((hideL_out (ni1 (ne_of_none h2346 n2350))).trans h2359), cW_call hw (fun v2360 hw H2361 x2362 h2363 => ⟨rfl, ?_⟩) (fun e he => (hE e he).elim)⟩
    have S2364 : Sep _ _ _ _ H2361 [x2348, x2332, p2319, p2310, p2298] := Sep.init S2358 x2362 (.head _) h2363 [] all_nil
    refine ⟨_, rfl, (by show 3 ≤ sizeLine; decide), fun p2365 n2366 => ?_⟩
    generalize g2367 : upd H2361 p2365 _ = H2368
    obtain ⟨e2369, h2370⟩ := gen_new n2366 g2367
    have h2371 : H2368 p2365 = some (.lst (([("I" : Str), ("P" : Str), ("B" : Str)] : (List Str)).map V.str)) := h2370
    have fr2372 := S2364.free n2366
    have S2373 := S2364.new n2366 e2369 h2371 fr2372
    obtain ⟨g2374, hw⟩ := cW_grd hw
    refine ⟨_, rfl, _, _, _, _, rfl, rfl, (SqL.of h2371), (atI_map g2374), (by show 2 ≤ sizeLine; decide), fun p2375 n2376 => ?_⟩
    generalize g2377 : upd H2368 p2375 _ = H2378
    obtain ⟨e2379, h2380⟩ := gen_new n2376 g2377
    have h2381 : H2378 p2375 = some (.lst (([3, 2] : (List Int)).map V.int)) := h2380
    have fr2382 := S2373.free n2376
    have S2383 := S2373.new n2376 e2379 h2381 fr2382
    refine ⟨_, rfl, _, rfl, _, _, rfl, (SqL.of h2381), fun p2384 n2385 => ?_⟩
    generalize g2386 : upd H2378 p2384 _ = H2387
    obtain ⟨e2388, h2389⟩ := gen_new n2385 g2386
    have h2390 : H2387 p2384 = some (.lst ((cutL ([3, 2]) none (some ((itD ([(1 + (itD (v2307) (1))), 2]) ((itD (v2307) (0)))))) : (List Int)).map V.int)) := cut_map h2389
    have fr2391 := S2383.free n2385
    have S2392 := S2383.new n2385 e2388 h2390 fr2391
    refine ⟨rfl, rfl, fun x2393 dx2394 n2395 n2396 n2397 => ?_⟩
    generalize g2398 : upd (upd H2387 dx2394 _) x2393 _ = H2399
    obtain ⟨e2400, h2401⟩ := gen_obj n2395 n2396 n2397 g2398
    have fr2402 := S2392.free n2395
    have S2403 := S2392.new n2395 e2400 h2401 fr2402
    have h2404 := (e2400 _ _ (e2388 _ _ (e2379 _ _ (e2369 _ _ h2363))))
    have h2405 := (e2400 _ _ (e2388 _ _ (e2379 _ _ (e2369 _ _ ((SameXs.of x2362) _ _ h2359 (ni1 (ne_of_none h2346 n2350)))))))
    have h2406 := (e2400 _ _ h2390)
    refine ⟨H, _, _, _, _, _, _, (⟨v2343, v2360.slots, v2360.rows, v2360.deblock, v2360.offset, v2360.layers⟩ : St_Settings), _, _, _, _, _, _, _, _, _, _, _, rfl, S2403.sG, (S2403.gno (all_cons (.head _) all_nil)), h2401, ((hideL_out (ni1 (ne_of_none (e2388 _ _ (e2379 _ _ (e2369 _ _ h2363))) n2395))).trans h2404), ((hideL_out (ni1 (ne_of_none (e2388 _ _ (e2379 _ _ (e2369 _ _ ((SameXs.of x2362) _ _ h2359 (ni1 (ne_of_none h2346 n2350)))))) n2395))).trans h2405), ⟨_, rfl, .inr (.inr T.td_PictureHeader___init___store)⟩, ⟨_, rfl, .inl ((hideL_out (ni1 (ne_of_none h2390 n2395))).trans h2406)⟩, cW_call hw (fun v2407 hw H2410 l2408 l2409 x2411 n2416 n2417 ne2418 h2412 h2414 h2415 => ⟨rfl, ?_⟩) (fun e he => (hE e he).elim)⟩
    have fr2419 := S2403.free n2416
    have fr2420 := S2403.free n2417
    have S2413 : Sep _ _ _ _ H2410 [l2408, l2409, x2393, p2384, p2375, p2365, x2348, x2332, p2319, p2310, p2298] := Sep.init S2403 x2411 (.head _) h2412 [l2408, l2409] (all_cons ⟨n2416, some_ne h2414, fr2419⟩ (all_cons ⟨n2417, some_ne h2415, fr2420⟩ all_nil))
    refine ⟨_, rfl, rfl, rfl, H, _, _, _, rfl, S2413.sG, (S2413.b0.seq q_script), cW_call hw (fun v2421 hw => ?_) (fun e he => (hE e he).elim)⟩
    refine ⟨(by show 1 ≤ sizeLine; decide), fun p2422 n2423 => ?_⟩
    generalize g2424 : upd H2410 p2422 _ = H2425
    obtain ⟨e2426, h2427⟩ := gen_new n2423 g2424
    have h2428 : H2425 p2422 = some (.lst (([256] : (List Int)).map V.int)) := h2427
    have fr2429 := S2413.free n2423
    have S2430 := S2413.new n2423 e2426 h2428 fr2429
    obtain ⟨g2431, hw⟩ := cW_grd hw
    have h2432 := (e2426 _ _ ((SameXs.of x2411) _ _ (e2400 _ _ (e2388 _ _ (e2379 _ _ (e2369 _ _ ((SameXs.of x2362) _ _ (e2355 _ _ ((SameXs.of x2345) _ _ (e2339 _ _ h2329) (ni1 (ne_of_none h2329 n2334)))) (ni1 (ne_of_none ((SameXs.of x2345) _ _ (e2339 _ _ h2329) (ni1 (ne_of_none h2329 n2334))) n2350))))))) (ni1 (ne_of_none (e2388 _ _ (e2379 _ _ (e2369 _ _ ((SameXs.of x2362) _ _ (e2355 _ _ ((SameXs.of x2345) _ _ (e2339 _ _ h2329) (ni1 (ne_of_none h2329 n2334)))) (ni1 (ne_of_none ((SameXs.of x2345) _ _ (e2339 _ _ h2329) (ni1 (ne_of_none h2329 n2334))) n2350)))))) n2395))))
    obtain ⟨g2433, hw⟩ := cW_grd hw
    refine ⟨_, rfl, _, _, _, _, rfl, rfl, (SqL.of h2432), (atI_map g2431), _, _, _, rfl, rfl, h2428, g2433.1, g2433.2.1, (rep_lenM g2433.2.2), fun p2434 n2435 => ?_⟩
    generalize g2436 : upd H2425 p2434 _ = H2437
    obtain ⟨e2438, h2439⟩ := gen_new n2435 g2436
    have h2440 : H2437 p2434 = some (.lst ((repL ([256]) ((itD (v2307) (2))) : (List Int)).map V.int)) := rep_map h2439
    have fr2441 := S2430.free n2435
    have S2442 := S2430.new n2435 e2438 h2440 fr2441
    refine ⟨rfl, rfl, H, _, _, _, rfl, S2442.sG, (hide_nil h2440), cW_call hw (fun v2443 hw p2446 H2444 n2447 e2445 h2448 => ?_) (fun e he => (hE e he).elim)⟩
    have h2449 : H2444 p2446 = some (.lst ((v2443 : (List Int)).map V.int)) := h2448
    have fr2450 := S2442.free n2447
    have S2451 := S2442.new n2447 e2445 h2449 fr2450
    refine ⟨fun σ H' => ∃ (p2459 : Addr) (octets_2458 : (List Int)) (G' : Hp), σ = [some (V.ref a_script), some (V.ref p2310), some (V.int ((1 + (itD (v2307) (0))))), some (V.int ((itD ([(1 + (itD (v2307) (1))), 2]) ((itD (v2307) (0)))))), some (V.ref x2348), some (V.ref x2393), some (V.ref p2459), none, none, none, none, none, none, none, none, none, none] ∧ Same H G' ∧ Sep [] H H G' H' [p2310, x2348, x2332, x2393, l2408, l2409, p2459] ∧ H' p2310 = some (.lst ((v2307 : (List Int)).map V.int)) ∧ H' x2348 = some (.ins AD.c_Settings dx2349 [("fmt", V.ref x2332), ("slots", V.int (v2360.slots)), ("rows", V.int (v2360.rows)), ("deblock", V.bl (v2360.deblock)), ("offset", V.bl (v2360.offset)), ("layers", V.int (v2360.layers))]) ∧ H' x2332 = some (.ins AD.c_Format dx2333 [("width", V.int (v2343.width)), ("height", V.int (v2343.height)), ("depth", V.int (v2343.depth)), ("chroma", V.int (v2343.chroma))]) ∧ H' x2393 = some (.ins AD.c_PictureHeader dx2394 [("number", V.int (v2407.number)), ("kind", V.str (v2407.kind)), ("level", V.int (v2407.level)), ("store", V.ref l2408), ("refs", V.ref l2409), ("weight", V.int (v2407.weight)), ("layer", V.int (v2407.layer)), ("shown", V.bl (v2407.shown)), ("edge", V.int (v2407.edge))]) ∧ H' l2408 = some (.lst ((v2407.store : (List Int)).map V.int)) ∧ H' l2409 = some (.lst ((v2407.refs : (List Int)).map V.int)) ∧ H' p2459 = some (.lst ((octets_2458 : (List Int)).map V.int)) ∧ H p2459 = none ∧ p2459 ≠ p2310 ∧ p2459 ≠ x2348 ∧ p2459 ≠ x2332 ∧ p2459 ≠ x2393 ∧ p2459 ≠ l2408 ∧ p2459 ≠ l2409 ∧ cW (F_law_k1 (script') (v2307) ((1 + (itD (v2307) (0)))) ((itD ([(1 + (itD (v2307) (1))), 2]) ((itD (v2307) (0))))) ((⟨v2407.number, v2407.kind, v2407.level, v2407.store, v2407.refs, v2407.weight, v2407.layer, v2407.shown, v2407.edge⟩ : St_PictureHeader)) octets_2458) KK EE, ?_, ?_⟩
    · obtain ⟨K2460, hK2461, hw⟩ := cW_push hw
      obtain ⟨g2462, hw⟩ := cW_grd hw
      have h2463 := (e2445 _ _ (e2438 _ _ h2432))
      refine ⟨_, rfl, _, _, _, _, rfl, rfl, (SqL.of h2463), (atI_map g2462), _, _, rfl, rfl, _, rfl, ?_⟩
      refine iteD (fun c2464 => ?_) (fun c2464 => ?_)
      · have hw := cW_pos c2464 hw
        refine ⟨(by show 1 ≤ sizeLine; decide), fun p2465 n2466 => ?_⟩
        generalize g2467 : upd H2444 p2465 _ = H2468
        obtain ⟨e2469, h2470⟩ := gen_new n2466 g2467
        have h2471 : H2468 p2465 = some (.lst (([255] : (List Int)).map V.int)) := h2470
        have fr2472 := S2451.free n2466
        have S2473 := S2451.new n2466 e2469 h2471 fr2472
        obtain ⟨g2474, hw⟩ := cW_grd hw
        have h2475 := (e2469 _ _ h2463)
        obtain ⟨g2476, hw⟩ := cW_grd hw
        refine ⟨_, rfl, _, _, _, _, rfl, rfl, (SqL.of h2475), (atI_map g2474), _, _, _, rfl, rfl, h2471, g2476.1, g2476.2.1, (rep_lenM g2476.2.2), fun p2477 n2478 => ?_⟩
        generalize g2479 : upd H2468 p2477 _ = H2480
        obtain ⟨e2481, h2482⟩ := gen_new n2478 g2479
        have h2483 : H2480 p2477 = some (.lst ((repL ([255]) ((itD (v2307) (2))) : (List Int)).map V.int)) := rep_map h2482
        have fr2484 := S2473.free n2478
        have S2485 := S2473.new n2478 e2481 h2483 fr2484
        have hw := cW_ok hw
        have hw := hK2461 _ hw
        have h2486 := (e2481 _ _ h2475)
        have h2487 := (e2481 _ _ (e2469 _ _ (e2445 _ _ (e2438 _ _ (e2426 _ _ ((SameXs.of x2411) _ _ h2404 (ni1 (ne_of_none (e2388 _ _ (e2379 _ _ (e2369 _ _ h2363))) n2395))))))))
        have h2488 := (e2481 _ _ (e2469 _ _ (e2445 _ _ (e2438 _ _ (e2426 _ _ ((SameXs.of x2411) _ _ h2405 (ni1 (ne_of_none (e2388 _ _ (e2379 _ _ (e2369 _ _ ((SameXs.of x2362) _ _ h2359 (ni1 (ne_of_none h2346 n2350)))))) n2395))))))))
        have h2489 := (e2481 _ _ (e2469 _ _ (e2445 _ _ (e2438 _ _ (e2426 _ _ h2412)))))
        have h2490 := (e2481 _ _ (e2469 _ _ (e2445 _ _ (e2438 _ _ (e2426 _ _ h2414)))))
        have h2491 := (e2481 _ _ (e2469 _ _ (e2445 _ _ (e2438 _ _ (e2426 _ _ h2415)))))
        exact ⟨_, (repL ([255]) ((itD (v2307) (2)))), _, rfl, (Same.refl _), (S2485.sub (all_cons (.tail _ (.tail _ (.tail _ (.tail _ (.tail _ (.tail _ (.tail _ (.tail _ (.tail _ (.tail _ (.tail _ (.tail _ (.tail _ (.tail _ (.head _))))))))))))))) (all_cons (.tail _ (.tail _ (.tail _ (.tail _ (.tail _ (.tail _ (.tail _ (.tail _ (.tail _ (.tail _ (.tail _ (.head _)))))))))))) (all_cons (.tail _ (.tail _ (.tail _ (.tail _ (.tail _ (.tail _ (.tail _ (.tail _ (.tail _ (.tail _ (.tail _ (.tail _ (.head _))))))))))))) (all_cons (.tail _ (.tail _ (.tail _ (.tail _ (.tail _ (.tail _ (.tail _ (.head _)))))))) (all_cons (.tail _ (.tail _ (.tail _ (.tail _ (.tail _ (.head _)))))) (all_cons (.tail _ (.tail _ (.tail _ (.tail _ (.tail _ (.tail _ (.head _))))))) (all_cons (.head _) all_nil)))))))), h2486, h2487, h2488, h2489, h2490, h2491, h2483, fr2484, (ne_of_none h2475 n2478).symm, (ne_of_none (e2469 _ _ (e2445 _ _ (e2438 _ _ (e2426 _ _ ((SameXs.of x2411) _ _ h2404 (ni1 (ne_of_none (e2388 _ _ (e2379 _ _ (e2369 _ _ h2363))) n2395))))))) n2478).symm, (ne_of_none (e2469 _ _ (e2445 _ _ (e2438 _ _ (e2426 _ _ ((SameXs.of x2411) _ _ h2405 (ni1 (ne_of_none (e2388 _ _ (e2379 _ _ (e2369 _ _ ((SameXs.of x2362) _ _ h2359 (ni1 (ne_of_none h2346 n2350)))))) n2395))))))) n2478).symm, (ne_of_none (e2469 _ _ (e2445 _ _ (e2438 _ _ (e2426 _ _ h2412)))) n2478).symm, (ne_of_none (e2469 _ _ (e2445 _ _ (e2438 _ _ (e2426 _ _ h2414)))) n2478).symm, (ne_of_none (e2469 _ _ (e2445 _ _ (e2438 _ _ (e2426 _ _ h2415)))) n2478).symm, hw⟩
      · have hw := cW_neg c2464 hw
        have hw := cW_ok hw
        have hw := hK2461 _ hw
        have h2492 := (e2445 _ _ (e2438 _ _ (e2426 _ _ ((SameXs.of x2411) _ _ h2404 (ni1 (ne_of_none (e2388 _ _ (e2379 _ _ (e2369 _ _ h2363))) n2395))))))
        have h2493 := (e2445 _ _ (e2438 _ _ (e2426 _ _ ((SameXs.of x2411) _ _ h2405 (ni1 (ne_of_none (e2388 _ _ (e2379 _ _ (e2369 _ _ ((SameXs.of x2362) _ _ h2359 (ni1 (ne_of_none h2346 n2350)))))) n2395))))))
        have h2494 := (e2445 _ _ (e2438 _ _ (e2426 _ _ h2412)))
        have h2495 := (e2445 _ _ (e2438 _ _ (e2426 _ _ h2414)))
        have h2496 := (e2445 _ _ (e2438 _ _ (e2426 _ _ h2415)))
        exact ⟨_, (v2443), _, rfl, (Same.refl _), (S2451.sub (all_cons (.tail _ (.tail _ (.tail _ (.tail _ (.tail _ (.tail _ (.tail _ (.tail _ (.tail _ (.tail _ (.tail _ (.tail _ (.head _))))))))))))) (all_cons (.tail _ (.tail _ (.tail _ (.tail _ (.tail _ (.tail _ (.tail _ (.tail _ (.tail _ (.head _)))))))))) (all_cons (.tail _ (.tail _ (.tail _ (.tail _ (.tail _ (.tail _ (.tail _ (.tail _ (.tail _ (.tail _ (.head _))))))))))) (all_cons (.tail _ (.tail _ (.tail _ (.tail _ (.tail _ (.head _)))))) (all_cons (.tail _ (.tail _ (.tail _ (.head _)))) (all_cons (.tail _ (.tail _ (.tail _ (.tail _ (.head _))))) (all_cons (.head _) all_nil)))))))), h2463, h2492, h2493, h2494, h2495, h2496, h2449, fr2450, (ne_of_none (e2438 _ _ h2432) n2447).symm, (ne_of_none (e2438 _ _ (e2426 _ _ ((SameXs.of x2411) _ _ h2404 (ni1 (ne_of_none (e2388 _ _ (e2379 _ _ (e2369 _ _ h2363))) n2395))))) n2447).symm, (ne_of_none (e2438 _ _ (e2426 _ _ ((SameXs.of x2411) _ _ h2405 (ni1 (ne_of_none (e2388 _ _ (e2379 _ _ (e2369 _ _ ((SameXs.of x2362) _ _ h2359 (ni1 (ne_of_none h2346 n2350)))))) n2395))))) n2447).symm, (ne_of_none (e2438 _ _ (e2426 _ _ h2412)) n2447).symm, (ne_of_none (e2438 _ _ (e2426 _ _ h2414)) n2447).symm, (ne_of_none (e2438 _ _ (e2426 _ _ h2415)) n2447).symm, hw⟩
    · intro σ H2497 hw
      obtain ⟨p2459, octets_2458, G2513, rfl, eG2514, S2498, h2499, h2500, h2501, h2502, h2503, h2504, h2505, fr2506, ne2507, ne2508, ne2509, ne2510, ne2511, ne2512, hw⟩ := hw
      unfold F_law_k1 at hw
      refine ⟨fun σ H' => ∃ (p2521 : Addr) (octets_2520 : (List Int)) (G' : Hp), σ = [some (V.ref a_script), some (V.ref p2310), some (V.int ((1 + (itD (v2307) (0))))), some (V.int ((itD ([(1 + (itD (v2307) (1))), 2]) ((itD (v2307) (0)))))), some (V.ref x2348), some (V.ref x2393), some (V.ref p2521), none, none, none, none, none, none, none, none, none, none] ∧ Same G2513 G' ∧ Sep [] H H G' H' [p2310, x2348, x2332, x2393, l2408, l2409, p2521] ∧ H' p2310 = some (.lst ((v2307 : (List Int)).map V.int)) ∧ H' x2348 = some (.ins AD.c_Settings dx2349 [("fmt", V.ref x2332), ("slots", V.int (v2360.slots)), ("rows", V.int (v2360.rows)), ("deblock", V.bl (v2360.deblock)), ("offset", V.bl (v2360.offset)), ("layers", V.int (v2360.layers))]) ∧ H' x2332 = some (.ins AD.c_Format dx2333 [("width", V.int (v2343.width)), ("height", V.int (v2343.height)), ("depth", V.int (v2343.depth)), ("chroma", V.int (v2343.chroma))]) ∧ H' x2393 = some (.ins AD.c_PictureHeader dx2394 [("number", V.int (v2407.number)), ("kind", V.str (v2407.kind)), ("level", V.int (v2407.level)), ("store", V.ref l2408), ("refs", V.ref l2409), ("weight", V.int (v2407.weight)), ("layer", V.int (v2407.layer)), ("shown", V.bl (v2407.shown)), ("edge", V.int (v2407.edge))]) ∧ H' l2408 = some (.lst ((v2407.store : (List Int)).map V.int)) ∧ H' l2409 = some (.lst ((v2407.refs : (List Int)).map V.int)) ∧ H' p2521 = some (.lst ((octets_2520 : (List Int)).map V.int)) ∧ H p2521 = none ∧ p2521 ≠ p2310 ∧ p2521 ≠ x2348 ∧ p2521 ≠ x2332 ∧ p2521 ≠ x2393 ∧ p2521 ≠ l2408 ∧ p2521 ≠ l2409 ∧ cW (F_law_k2 (script') ((1 + (itD (v2307) (0)))) ((itD ([(1 + (itD (v2307) (1))), 2]) ((itD (v2307) (0))))) ((⟨v2407.number, v2407.kind, v2407.level, v2407.store, v2407.refs, v2407.weight, v2407.layer, v2407.shown, v2407.edge⟩ : St_PictureHeader)) octets_2520) KK EE, ?_, ?_⟩
      · obtain ⟨K2522, hK2523, hw⟩ := cW_push hw
        obtain ⟨g2524, hw⟩ := cW_grd hw
        refine ⟨_, rfl, _, _, _, _, rfl, rfl, (SqL.of h2499), (atI_map g2524), _, _, rfl, rfl, _, rfl, ?_⟩
        refine iteD (fun c2525 => ?_) (fun c2525 => ?_)
        · have hw := cW_pos c2525 hw
          refine ⟨(by show 1 ≤ sizeLine; decide), fun p2526 n2527 => ?_⟩
          generalize g2528 : upd H2497 p2526 _ = H2529
          obtain ⟨e2530, h2531⟩ := gen_new n2527 g2528
          have h2532 : H2529 p2526 = some (.lst (([0] : (List Int)).map V.int)) := h2531
          have fr2533 := S2498.free n2527
          have S2534 := S2498.new n2527 e2530 h2532 fr2533
          obtain ⟨g2535, hw⟩ := cW_grd hw
          have h2536 := (e2530 _ _ h2499)
          obtain ⟨g2537, hw⟩ := cW_grd hw
          refine ⟨_, rfl, _, _, _, _, rfl, rfl, (SqL.of h2536), (atI_map g2535), _, _, _, rfl, rfl, h2532, g2537.1, g2537.2.1, (rep_lenM g2537.2.2), fun p2538 n2539 => ?_⟩
          generalize g2540 : upd H2529 p2538 _ = H2541
          obtain ⟨e2542, h2543⟩ := gen_new n2539 g2540
          have h2544 : H2541 p2538 = some (.lst ((repL ([0]) ((itD (v2307) (2))) : (List Int)).map V.int)) := rep_map h2543
          have fr2545 := S2534.free n2539
          have S2546 := S2534.new n2539 e2542 h2544 fr2545
          have hw := cW_ok hw
          have hw := hK2523 _ hw
          have h2547 := (e2542 _ _ h2536)
          have h2548 := (e2542 _ _ (e2530 _ _ h2500))
          have h2549 := (e2542 _ _ (e2530 _ _ h2501))
          have h2550 := (e2542 _ _ (e2530 _ _ h2502))
          have h2551 := (e2542 _ _ (e2530 _ _ h2503))
          have h2552 := (e2542 _ _ (e2530 _ _ h2504))
          exact ⟨_, (repL ([0]) ((itD (v2307) (2)))), _, rfl, (Same.refl _), (S2546.sub (all_cons (.tail _ (.tail _ (.head _))) (all_cons (.tail _ (.tail _ (.tail _ (.head _)))) (all_cons (.tail _ (.tail _ (.tail _ (.tail _ (.head _))))) (all_cons (.tail _ (.tail _ (.tail _ (.tail _ (.tail _ (.head _)))))) (all_cons (.tail _ (.tail _ (.tail _ (.tail _ (.tail _ (.tail _ (.head _))))))) (all_cons (.tail _ (.tail _ (.tail _ (.tail _ (.tail _ (.tail _ (.tail _ (.head _)))))))) (all_cons (.head _) all_nil)))))))), h2547, h2548, h2549, h2550, h2551, h2552, h2544, fr2545, (ne_of_none h2536 n2539).symm, (ne_of_none (e2530 _ _ h2500) n2539).symm, (ne_of_none (e2530 _ _ h2501) n2539).symm, (ne_of_none (e2530 _ _ h2502) n2539).symm, (ne_of_none (e2530 _ _ h2503) n2539).symm, (ne_of_none (e2530 _ _ h2504) n2539).symm, hw⟩
        · have hw := cW_neg c2525 hw
          have hw := cW_ok hw
          have hw := hK2523 _ hw
          exact ⟨_, (octets_2458), _, rfl, (Same.refl _), S2498, h2499, h2500, h2501, h2502, h2503, h2504, h2505, fr2506, ne2507, ne2508, ne2509, ne2510, ne2511, ne2512, hw⟩
      · intro σ H2553 hw
        obtain ⟨p2521, octets_2520, G2569, rfl, eG2570, S2554, h2555, h2556, h2557, h2558, h2559, h2560, h2561, fr2562, ne2563, ne2564, ne2565, ne2566, ne2567, ne2568, hw⟩ := hw
        unfold F_law_k2 at hw
        refine ⟨rfl, rfl, fun x2571 dx2572 n2573 n2574 n2575 => ?_⟩
        generalize g2576 : upd (upd H2553 dx2572 _) x2571 _ = H2577
        obtain ⟨e2578, h2579⟩ := gen_obj n2573 n2574 n2575 g2576
        have fr2580 := S2554.free n2573
        have S2581 := S2554.new n2573 e2578 h2579 fr2580
        refine ⟨G2569, _, _, _, _, rfl, S2581.sG, (S2581.gno (all_cons (.head _) all_nil)), h2579, cW_call hw (fun v2582 hw H2584 G2590 l2583 vs2594 L2595 x2585 eG2591 sG2592 hn2593 n2589 gl2599 nb2596 gb2597 ne2600 h2586 h2588 w2598 => ⟨rfl, ?_⟩) (fun e he => (hE e he).elim)⟩
        have fr2601 := S2581.free n2589
        have S2587 : Sep _ _ _ G2590 H2584 (l2583 :: (L2595 ++ (x2571 :: (p2310 :: (x2348 :: (x2332 :: (x2393 :: (l2408 :: (l2409 :: (p2521 :: [])))))))))) := Sep.mutgrow S2581 (SameXs.of x2585) (all_cons (.head _) all_nil) (all_cons (some_ne h2586) all_nil) eG2591 sG2592 hn2593 (all_cons (.inr ⟨n2589, gl2599, some_ne h2588⟩) (all_app (fun b hb => .inr ⟨nb2596 b hb, gb2597 b hb, OwAll.there w2598 b hb⟩) (all_cons (.inl (.head _)) (all_cons (.inl (.tail _ (.head _))) (all_cons (.inl (.tail _ (.tail _ (.head _)))) (all_cons (.inl (.tail _ (.tail _ (.tail _ (.head _))))) (all_cons (.inl (.tail _ (.tail _ (.tail _ (.tail _ (.head _)))))) (all_cons (.inl (.tail _ (.tail _ (.tail _ (.tail _ (.tail _ (.head _))))))) (all_cons (.inl (.tail _ (.tail _ (.tail _ (.tail _ (.tail _ (.tail _ (.head _)))))))) (all_cons (.inl (.tail _ (.tail _ (.tail _ (.tail _ (.tail _ (.tail _ (.tail _ (.head _))))))))) all_nil))))))))))
        obtain ⟨K2603, hK2604, hw⟩ := cW_push hw
        refine ⟨_, rfl, (by decide), (by decide), fun D2605 n2606 => lc_range (lo := 0) (n := Int.toNat (4)) (fun i H' => ∃ (G' : Hp) (acc2608 : (List (List PyData))) (vs2609 : List V) (L2607 : List Addr), Same G2590 G' ∧ Sep [] H H G' H' (D2605 :: (L2607 ++ (p2310 :: (x2348 :: (x2332 :: (x2393 :: (l2408 :: (l2409 :: (p2521 :: (x2571 :: (l2583 :: (L2595 ++ [])))))))))))) ∧ H' p2310 = some (.lst ((v2307 : (List Int)).map V.int)) ∧ H' x2348 = some (.ins AD.c_Settings dx2349 [("fmt", V.ref x2332), ("slots", V.int (v2360.slots)), ("rows", V.int (v2360.rows)), ("deblock", V.bl (v2360.deblock)), ("offset", V.bl (v2360.offset)), ("layers", V.int (v2360.layers))]) ∧ H' x2332 = some (.ins AD.c_Format dx2333 [("width", V.int (v2343.width)), ("height", V.int (v2343.height)), ("depth", V.int (v2343.depth)), ("chroma", V.int (v2343.chroma))]) ∧ H' x2393 = some (.ins AD.c_PictureHeader dx2394 [("number", V.int (v2407.number)), ("kind", V.str (v2407.kind)), ("level", V.int (v2407.level)), ("store", V.ref l2408), ("refs", V.ref l2409), ("weight", V.int (v2407.weight)), ("layer", V.int (v2407.layer)), ("shown", V.bl (v2407.shown)), ("edge", V.int (v2407.edge))]) ∧ H' l2408 = some (.lst ((v2407.store : (List Int)).map V.int)) ∧ H' l2409 = some (.lst ((v2407.refs : (List Int)).map V.int)) ∧ H' p2521 = some (.lst ((octets_2520 : (List Int)).map V.int)) ∧ H' x2571 = some (.ins AD.c_MotionGrid dx2572 [("_width", V.int (v2582.width)), ("_height", V.int (v2582.height)), ("_lines", V.ref l2583)]) ∧ H' l2583 = some (.lst (vs2594)) ∧ H' D2605 = some (.lst vs2609) ∧ OwAll G' H' L2595 (vs2594) ((v2582.lines : (List (List PyData))).map (oL (oF encD))) ∧ OwAll G' H' L2607 vs2609 ((acc2608 : (List (List PyData))).map (oL (oF encD))) ∧ (∀ b ∈ L2607, H2584 b = none) ∧ (∀ b ∈ L2607, b ≠ D2605) ∧ Same H2584 H' ∧ cW (mapA (List.drop i (rng (0) (Int.toNat (4)))) acc2608 (fun x => noEr (F_law_c3  x))) K2603 EE) ?_ ?_ ?_⟩
        · generalize g2610 : upd H2584 D2605 _ = H2611
          obtain ⟨e2612, h2613⟩ := gen_new n2606 g2610
          have fr2614 := S2587.free n2606
          have S2615 := S2587.new n2606 e2612 h2613 fr2614
          have h2616 := (e2612 _ _ ((SameXs.of x2585) _ _ (e2578 _ _ h2555) (ni1 (ne_of_none h2555 n2573))))
          have h2617 := (e2612 _ _ ((SameXs.of x2585) _ _ (e2578 _ _ h2556) (ni1 (ne_of_none h2556 n2573))))
          have h2618 := (e2612 _ _ ((SameXs.of x2585) _ _ (e2578 _ _ h2557) (ni1 (ne_of_none h2557 n2573))))
          have h2619 := (e2612 _ _ ((SameXs.of x2585) _ _ (e2578 _ _ h2558) (ni1 (ne_of_none h2558 n2573))))
          have h2620 := (e2612 _ _ ((SameXs.of x2585) _ _ (e2578 _ _ h2559) (ni1 (ne_of_none h2559 n2573))))
          have h2621 := (e2612 _ _ ((SameXs.of x2585) _ _ (e2578 _ _ h2560) (ni1 (ne_of_none h2560 n2573))))
          have h2622 := (e2612 _ _ ((SameXs.of x2585) _ _ (e2578 _ _ h2561) (ni1 (ne_of_none h2561 n2573))))
          have h2623 := (e2612 _ _ h2586)
          have h2624 := (e2612 _ _ h2588)
          have w2625 : OwAll G2590 H2611 L2595 (vs2594) ((v2582.lines : (List (List PyData))).map (oL (oF encD))) := (OwAll.mono (Same.refl _) (keeps_same e2612) w2598)
          exact ⟨_, [], [], [], Same.refl _, (S2615.sub (all_cons (.head _) (all_app (L := []) all_nil (all_cons (.tail _ (.tail _ (List.mem_append_right _ (.tail _ (.head _))))) (all_cons (.tail _ (.tail _ (List.mem_append_right _ (.tail _ (.tail _ (.head _)))))) (all_cons (.tail _ (.tail _ (List.mem_append_right _ (.tail _ (.tail _ (.tail _ (.head _))))))) (all_cons (.tail _ (.tail _ (List.mem_append_right _ (.tail _ (.tail _ (.tail _ (.tail _ (.head _)))))))) (all_cons (.tail _ (.tail _ (List.mem_append_right _ (.tail _ (.tail _ (.tail _ (.tail _ (.tail _ (.head _))))))))) (all_cons (.tail _ (.tail _ (List.mem_append_right _ (.tail _ (.tail _ (.tail _ (.tail _ (.tail _ (.tail _ (.head _)))))))))) (all_cons (.tail _ (.tail _ (List.mem_append_right _ (.tail _ (.tail _ (.tail _ (.tail _ (.tail _ (.tail _ (.tail _ (.head _))))))))))) (all_cons (.tail _ (.tail _ (List.mem_append_right _ (.head _)))) (all_cons (.tail _ (.head _)) (all_app ((fun b hb => (.tail _ (.tail _ (List.mem_append_left _ hb)))) : ∀ b ∈ L2595, b ∈ (D2605 :: (l2583 :: (L2595 ++ (x2571 :: (p2310 :: (x2348 :: (x2332 :: (x2393 :: (l2408 :: (l2409 :: (p2521 :: [])))))))))))) all_nil))))))))))))), h2616, h2617, h2618, h2619, h2620, h2621, h2622, h2623, h2624, h2613, w2625, OwAll.nil, all_nil, all_nil, e2612, hw⟩
        · intro i H2626 hi hw
          obtain ⟨G2629, acc2631, vs2632, L2634, eG2630, S2627, h2638, h2639, h2640, h2641, h2642, h2643, h2644, h2645, h2646, h2628, w2647, d2633, nb2635, nd2636, eo2637, hw⟩ := hw
          obtain ⟨z2648, hw⟩ := cW_mapA (rng_get hi) hw
          generalize (0 + (i : Int)) = x2649 at hw ⊢
          have hw := cW_noEr hw
          have hw : cW (F_law_c3  (x2649)) _ (fun _ => False) := hw
          unfold F_law_c3 at hw
          refine ⟨rfl, ?_⟩
          refine tyes_go ?_
          have r2651 : Rp G2629 (V.non) (encD (encN (()))) := .non
          refine ⟨(by show 1 ≤ sizeLine; decide), fun p2652 n2653 => ?_⟩
          generalize g2654 : upd H2626 p2652 _ = H2655
          obtain ⟨e2656, h2657⟩ := gen_new n2653 g2654
          have h2658 : H2655 p2652 = some (.lst ([(V.non)])) := h2657
          have fr2659 := S2627.free n2653
          have S2660 := S2627.new n2653 e2656 h2658 fr2659
          have d2661 : RpAll G2629 ([(V.non)]) (([(encN (()))] : (List PyData)).map encD) := (RpAll.cons r2651 RpAll.nil)
          obtain ⟨g2662, hw⟩ := cW_grd hw
          refine ⟨_, _, _, rfl, rfl, h2658, g2662.1, g2662.2.1, (rep_len d2661 g2662.2.2), fun p2663 n2664 => ?_⟩
          generalize g2665 : upd H2655 p2663 _ = H2666
          obtain ⟨e2667, h2668⟩ := gen_new n2664 g2665
          have h2669 : H2666 p2663 = some (.lst ((List.replicate (Int.toNat (4)) ([(V.non)])).flatten)) := h2668
          have fr2670 := S2660.free n2664
          have S2671 := S2660.new n2664 e2667 h2669 fr2670
          have d2672 : RpAll G2629 ((List.replicate (Int.toNat (4)) ([(V.non)])).flatten) ((repL ([(encN (()))]) (4) : (List PyData)).map encD) := rep_all (4) d2661
          have w2673 : OwAll G2629 H2666 L2634 (vs2632) ((acc2631 : (List (List PyData))).map (oL (oF encD))) := (OwAll.mono (Same.refl _) (keeps_same e2667) (OwAll.mono (Same.refl _) (keeps_same e2656) d2633))
          have h2674 := (e2667 _ _ (e2656 _ _ h2628))
          refine ⟨_, h2674, (app_len (OwAll.rpA w2673 (encO_L encO_F) S2671.sG) z2648), ?_⟩
          generalize g2675 : upd H2666 D2605 _ = H2676
          obtain ⟨x2677, h2678⟩ := gen_mut g2675
          have S2679 := S2671.mut1 x2677 (.tail _ (.tail _ (.head _))) h2678
          have hw := cW_ok hw
          have h2680 := (x2677 _ _ (e2667 _ _ (e2656 _ _ h2638)) (ne_of_none ((SameXs.of x2585) _ _ (e2578 _ _ h2555) (ni1 (ne_of_none h2555 n2573))) n2606))
          have h2681 := (x2677 _ _ (e2667 _ _ (e2656 _ _ h2639)) (ne_of_none ((SameXs.of x2585) _ _ (e2578 _ _ h2556) (ni1 (ne_of_none h2556 n2573))) n2606))
          have h2682 := (x2677 _ _ (e2667 _ _ (e2656 _ _ h2640)) (ne_of_none ((SameXs.of x2585) _ _ (e2578 _ _ h2557) (ni1 (ne_of_none h2557 n2573))) n2606))
          have h2683 := (x2677 _ _ (e2667 _ _ (e2656 _ _ h2641)) (ne_of_none ((SameXs.of x2585) _ _ (e2578 _ _ h2558) (ni1 (ne_of_none h2558 n2573))) n2606))
          have h2684 := (x2677 _ _ (e2667 _ _ (e2656 _ _ h2642)) (ne_of_none ((SameXs.of x2585) _ _ (e2578 _ _ h2559) (ni1 (ne_of_none h2559 n2573))) n2606))
          have h2685 := (x2677 _ _ (e2667 _ _ (e2656 _ _ h2643)) (ne_of_none ((SameXs.of x2585) _ _ (e2578 _ _ h2560) (ni1 (ne_of_none h2560 n2573))) n2606))
          have h2686 := (x2677 _ _ (e2667 _ _ (e2656 _ _ h2644)) (ne_of_none ((SameXs.of x2585) _ _ (e2578 _ _ h2561) (ni1 (ne_of_none h2561 n2573))) n2606))
          have h2687 := (x2677 _ _ (e2667 _ _ (e2656 _ _ h2645)) (ne_of_none h2586 n2606))
          have h2688 := (x2677 _ _ (e2667 _ _ (e2656 _ _ h2646)) (ne_of_none h2588 n2606))
          have w2689 : OwAll G2629 H2676 L2595 (vs2594) ((v2582.lines : (List (List PyData))).map (oL (oF encD))) := (OwAll.mono (Same.refl _) (keeps_mut x2677 ((there_ne (fun b_ hb_ => (S2587.ow b_ (((fun b hb => (.tail _ (List.mem_append_left _ hb))) : ∀ b ∈ L2595, b ∈ (l2583 :: (L2595 ++ (x2571 :: (p2310 :: (x2348 :: (x2332 :: (x2393 :: (l2408 :: (l2409 :: (p2521 :: []))))))))))) b_ hb_)).2.1) n2606) : ∀ b ∈ L2595, b ≠ D2605)) (OwAll.mono (Same.refl _) (keeps_same e2667) (OwAll.mono (Same.refl _) (keeps_same e2656) w2647)))
          exact ⟨_, (acc2631 ++ [repL ([(encN (()))]) (4)]), _, (L2634 ++ (p2663 :: ([] : List Addr))), eG2630, (S2679.sub (all_cons (.tail _ (.tail _ (.head _))) (all_app (all_app ((fun b hb => (.tail _ (.tail _ (.tail _ (List.mem_append_left _ hb))))) : ∀ b ∈ L2634, b ∈ (p2663 :: (p2652 :: (D2605 :: (L2634 ++ (p2310 :: (x2348 :: (x2332 :: (x2393 :: (l2408 :: (l2409 :: (p2521 :: (x2571 :: (l2583 :: (L2595 ++ []))))))))))))))) (all_cons (.head _) all_nil)) (all_cons (.tail _ (.tail _ (.tail _ (List.mem_append_right _ (.head _))))) (all_cons (.tail _ (.tail _ (.tail _ (List.mem_append_right _ (.tail _ (.head _)))))) (all_cons (.tail _ (.tail _ (.tail _ (List.mem_append_right _ (.tail _ (.tail _ (.head _))))))) (all_cons (.tail _ (.tail _ (.tail _ (List.mem_append_right _ (.tail _ (.tail _ (.tail _ (.head _)))))))) (all_cons (.tail _ (.tail _ (.tail _ (List.mem_append_right _ (.tail _ (.tail _ (.tail _ (.tail _ (.head _))))))))) (all_cons (.tail _ (.tail _ (.tail _ (List.mem_append_right _ (.tail _ (.tail _ (.tail _ (.tail _ (.tail _ (.head _)))))))))) (all_cons (.tail _ (.tail _ (.tail _ (List.mem_append_right _ (.tail _ (.tail _ (.tail _ (.tail _ (.tail _ (.tail _ (.head _))))))))))) (all_cons (.tail _ (.tail _ (.tail _ (List.mem_append_right _ (.tail _ (.tail _ (.tail _ (.tail _ (.tail _ (.tail _ (.tail _ (.head _)))))))))))) (all_cons (.tail _ (.tail _ (.tail _ (List.mem_append_right _ (.tail _ (.tail _ (.tail _ (.tail _ (.tail _ (.tail _ (.tail _ (.tail _ (.head _))))))))))))) (all_app ((fun b hb => (.tail _ (.tail _ (.tail _ (List.mem_append_right _ (.tail _ (.tail _ (.tail _ (.tail _ (.tail _ (.tail _ (.tail _ (.tail _ (.tail _ (List.mem_append_left _ hb))))))))))))))) : ∀ b ∈ L2595, b ∈ (p2663 :: (p2652 :: (D2605 :: (L2634 ++ (p2310 :: (x2348 :: (x2332 :: (x2393 :: (l2408 :: (l2409 :: (p2521 :: (x2571 :: (l2583 :: (L2595 ++ []))))))))))))))) all_nil))))))))))))), h2680, h2681, h2682, h2683, h2684, h2685, h2686, h2687, h2688, h2678, w2689, (OwAll.mono (Same.refl _) (keeps_mut x2677 ((all_app nd2636 (all_cons (ne_of_none (e2656 _ _ h2628) n2664).symm all_nil)) : ∀ b ∈ (L2634 ++ (p2663 :: ([] : List Addr))), b ≠ D2605)) (OwAll.snocM w2673 (Ow.list h2669 (OwAll.frzs d2672) all_nil) ((fun b hb => (nm_cons ((there_ne (fun b_ hb_ => (S2660.ow b_ (((fun b hb => (.tail _ (.tail _ (List.mem_append_left _ hb)))) : ∀ b ∈ L2634, b ∈ (p2652 :: (D2605 :: (L2634 ++ (p2310 :: (x2348 :: (x2332 :: (x2393 :: (l2408 :: (l2409 :: (p2521 :: (x2571 :: (l2583 :: (L2595 ++ [])))))))))))))) b_ hb_)).2.1) n2664) b hb) nm_nil)) : ∀ b ∈ L2634, b ∉ (p2663 :: ([] : List Addr))))), ((all_app nb2635 (all_cons (none_of_same (Same.trans eo2637 e2656) n2664) all_nil)) : ∀ b ∈ (L2634 ++ (p2663 :: ([] : List Addr))), H2584 b = none), ((all_app nd2636 (all_cons (ne_of_none (e2656 _ _ h2628) n2664).symm all_nil)) : ∀ b ∈ (L2634 ++ (p2663 :: ([] : List Addr))), b ≠ D2605), (same_mut (Same.trans (Same.trans eo2637 e2656) e2667) x2677 n2606), hw⟩
        intro H2690 hw
        obtain ⟨G2693, acc2695, vs2696, L2698, eG2694, S2691, h2702, h2703, h2704, h2705, h2706, h2707, h2708, h2709, h2710, h2692, w2711, d2697, nb2699, nd2700, eo2701, hw⟩ := hw
        have hw := hK2604 _ (cW_mapA0 (rng_len _ _).symm hw)
        have fr2712 := S2587.free n2606
        refine ⟨_, rfl, _, _, rfl, (SqL.of h2708), fun p2713 n2714 => ?_⟩
        generalize g2715 : upd H2690 p2713 _ = H2716
        obtain ⟨e2717, h2718⟩ := gen_new n2714 g2715
        have h2719 : H2716 p2713 = some (.lst ((octets_2520 : (List Int)).map V.int)) := h2718
        have fr2720 := S2691.free n2714
        have S2721 := S2691.new n2714 e2717 h2719 fr2720
        refine ⟨rfl, rfl, fun x2722 dx2723 n2724 n2725 n2726 => ?_⟩
        generalize g2727 : upd (upd H2716 dx2723 _) x2722 _ = H2728
        obtain ⟨e2729, h2730⟩ := gen_obj n2724 n2725 n2726 g2727
        have fr2731 := S2721.free n2724
        have S2732 := S2721.new n2724 e2729 h2730 fr2731
        have h2733 := (e2729 _ _ h2719)
        refine ⟨G2693, _, _, _, _, rfl, S2732.sG, (S2732.gno (all_cons (.head _) all_nil)), h2730, ((hideL_out (ni1 (ne_of_none h2719 n2724))).trans h2733), cW_call hw (fun v2734 hw H2737 l2735 l2736 x2738 n2743 n2744 ne2745 h2739 h2741 h2742 => ⟨rfl, ?_⟩) (fun e he => (hE e he).elim)⟩
        have fr2746 := S2732.free n2743
        have fr2747 := S2732.free n2744
        have S2740 : Sep _ _ _ _ H2737 (l2735 :: (l2736 :: (x2722 :: (p2713 :: (D2605 :: (L2698 ++ (p2310 :: (x2348 :: (x2332 :: (x2393 :: (l2408 :: (l2409 :: (p2521 :: (x2571 :: (l2583 :: (L2595 ++ [])))))))))))))))) := Sep.init S2732 x2738 (.head _) h2739 [l2735, l2736] (all_cons ⟨n2743, some_ne h2741, fr2746⟩ (all_cons ⟨n2744, some_ne h2742, fr2747⟩ all_nil))
        refine ⟨rfl, rfl, fun x2748 dx2749 n2750 n2751 n2752 => ?_⟩
        generalize g2753 : upd (upd H2737 dx2749 _) x2748 _ = H2754
        obtain ⟨e2755, h2756⟩ := gen_obj n2750 n2751 n2752 g2753
        have fr2757 := S2740.free n2750
        have S2758 := S2740.new n2750 e2755 h2756 fr2757
        have h2759 := (e2755 _ _ h2739)
        have h2760 := (e2755 _ _ h2741)
        have h2761 := (e2755 _ _ h2742)
        refine ⟨G2693, _, _, _, _, _, _, v2734, rfl, S2758.sG, (S2758.gno (all_cons (.head _) all_nil)), h2756, ((hideL_out (ni1 (ne_of_none h2739 n2750))).trans h2759), ((hideL_out (ni1 (ne_of_none h2741 n2750))).trans h2760), ((hideL_out (ni1 (ne_of_none h2742 n2750))).trans h2761), cW_call hw (fun v2762 hw H2763 x2764 h2765 => ⟨rfl, ?_⟩) (fun e he => (hE e he).elim)⟩
        have S2766 : Sep _ _ _ _ H2763 (x2748 :: (l2735 :: (l2736 :: (x2722 :: (p2713 :: (D2605 :: (L2698 ++ (p2310 :: (x2348 :: (x2332 :: (x2393 :: (l2408 :: (l2409 :: (p2521 :: (x2571 :: (l2583 :: (L2595 ++ []))))))))))))))))) := Sep.init S2758 x2764 (.head _) h2765 [] all_nil
        have h2767 := ((SameXs.of x2764) _ _ (e2755 _ _ ((SameXs.of x2738) _ _ (e2729 _ _ (e2717 _ _ h2708)) (ni1 (ne_of_none (e2717 _ _ h2708) n2724)))) (ni1 (ne_of_none ((SameXs.of x2738) _ _ (e2729 _ _ (e2717 _ _ h2708)) (ni1 (ne_of_none (e2717 _ _ h2708) n2724))) n2750)))
        refine ⟨_, rfl, _, _, rfl, (SqL.of h2767), fun p2768 n2769 => ?_⟩
        generalize g2770 : upd H2763 p2768 _ = H2771
        obtain ⟨e2772, h2773⟩ := gen_new n2769 g2770
        have h2774 : H2771 p2768 = some (.lst ((octets_2520 : (List Int)).map V.int)) := h2773
        have fr2775 := S2766.free n2769
        have S2776 := S2766.new n2769 e2772 h2774 fr2775
        refine ⟨rfl, rfl, fun x2777 dx2778 n2779 n2780 n2781 => ?_⟩
        generalize g2782 : upd (upd H2771 dx2778 _) x2777 _ = H2783
        obtain ⟨e2784, h2785⟩ := gen_obj n2779 n2780 n2781 g2782
        have fr2786 := S2776.free n2779
        have S2787 := S2776.new n2779 e2784 h2785 fr2786
        have h2788 := (e2784 _ _ h2774)
        refine ⟨G2693, _, _, _, _, rfl, S2787.sG, (S2787.gno (all_cons (.head _) all_nil)), h2785, ((hideL_out (ni1 (ne_of_none h2774 n2779))).trans h2788), cW_call hw (fun v2789 hw H2792 l2790 l2791 x2793 n2798 n2799 ne2800 h2794 h2796 h2797 => ⟨rfl, ?_⟩) (fun e he => (hE e he).elim)⟩
        have fr2801 := S2787.free n2798
        have fr2802 := S2787.free n2799
        have S2795 : Sep _ _ _ _ H2792 (l2790 :: (l2791 :: (x2777 :: (p2768 :: (x2748 :: (l2735 :: (l2736 :: (x2722 :: (p2713 :: (D2605 :: (L2698 ++ (p2310 :: (x2348 :: (x2332 :: (x2393 :: (l2408 :: (l2409 :: (p2521 :: (x2571 :: (l2583 :: (L2595 ++ []))))))))))))))))))))) := Sep.init S2787 x2793 (.head _) h2794 [l2790, l2791] (all_cons ⟨n2798, some_ne h2796, fr2801⟩ (all_cons ⟨n2799, some_ne h2797, fr2802⟩ all_nil))
        refine ⟨rfl, rfl, fun x2803 dx2804 n2805 n2806 n2807 => ?_⟩
        generalize g2808 : upd (upd H2792 dx2804 _) x2803 _ = H2809
        obtain ⟨e2810, h2811⟩ := gen_obj n2805 n2806 n2807 g2808
        have fr2812 := S2795.free n2805
        have S2813 := S2795.new n2805 e2810 h2811 fr2812
        have h2814 := (e2810 _ _ h2794)
        have h2815 := (e2810 _ _ h2796)
        have h2816 := (e2810 _ _ h2797)
        refine ⟨G2693, _, _, _, _, _, _, v2789, rfl, S2813.sG, (S2813.gno (all_cons (.head _) all_nil)), h2811, ((hideL_out (ni1 (ne_of_none h2794 n2805))).trans h2814), ((hideL_out (ni1 (ne_of_none h2796 n2805))).trans h2815), ((hideL_out (ni1 (ne_of_none h2797 n2805))).trans h2816), cW_call hw (fun v2817 hw H2818 x2819 h2820 => ⟨rfl, ?_⟩) (fun e he => (hE e he).elim)⟩
        have S2821 : Sep _ _ _ _ H2818 (x2803 :: (l2790 :: (l2791 :: (x2777 :: (p2768 :: (x2748 :: (l2735 :: (l2736 :: (x2722 :: (p2713 :: (D2605 :: (L2698 ++ (p2310 :: (x2348 :: (x2332 :: (x2393 :: (l2408 :: (l2409 :: (p2521 :: (x2571 :: (l2583 :: (L2595 ++ [])))))))))))))))))))))) := Sep.init S2813 x2819 (.head _) h2820 [] all_nil
        refine ⟨_, rfl, _, rfl, _, _, rfl, (S2821.b0.seq q_script), fun p2822 n2823 => ?_⟩
        generalize g2824 : upd H2818 p2822 _ = H2825
        obtain ⟨e2826, h2827⟩ := gen_new n2823 g2824
        have h2828 : H2825 p2822 = some (.lst ((cutL (script') (some (2)) none : (List Int)).map V.int)) := cut_map h2827
        have fr2829 := S2821.free n2823
        have S2830 := S2821.new n2823 e2826 h2828 fr2829
        obtain ⟨K2834, hK2835, hw⟩ := cW_push hw
        refine ⟨_, rfl, ⟨_, (SqL.of h2828)⟩, for_list (K := K) (a := p2822) (xs := (cutL (script') (some (2)) none : (List Int)).map V.int) (fun i σ H' => ∃ (grid_2836 : St_MotionGrid) (vs2837 : List V) (L2838 : List Addr) (kept_2839 : (List (List PyData))) (vs2840 : List V) (L2841 : List Addr) (reader_2842 : St_SymbolReader) (twin_2843 : St_SymbolReader) (u2844 : Option V) (u2845 : Option V) (u2846 : Option V) (u2847 : Option V) (u2848 : Option V) (G' : Hp), σ = [some (V.ref a_script), some (V.ref p2310), some (V.int ((1 + (itD (v2307) (0))))), some (V.int ((itD ([(1 + (itD (v2307) (1))), 2]) ((itD (v2307) (0)))))), some (V.ref x2348), some (V.ref x2393), some (V.ref p2521), some (V.ref x2571), some (V.ref D2605), some (V.ref x2748), some (V.ref x2803), u2844, u2845, u2846, u2847, u2848, none] ∧ Same G2693 G' ∧ Sep [] H H G' H' (p2310 :: (x2348 :: (x2332 :: (x2393 :: (l2408 :: (l2409 :: (p2521 :: (x2571 :: (l2583 :: (D2605 :: (x2748 :: (x2722 :: (l2735 :: (l2736 :: (x2803 :: (x2777 :: (l2790 :: (l2791 :: (p2822 :: (L2838 ++ (L2841 ++ []))))))))))))))))))))) ∧ H' p2310 = some (.lst ((v2307 : (List Int)).map V.int)) ∧ H' x2348 = some (.ins AD.c_Settings dx2349 [("fmt", V.ref x2332), ("slots", V.int (v2360.slots)), ("rows", V.int (v2360.rows)), ("deblock", V.bl (v2360.deblock)), ("offset", V.bl (v2360.offset)), ("layers", V.int (v2360.layers))]) ∧ H' x2332 = some (.ins AD.c_Format dx2333 [("width", V.int (v2343.width)), ("height", V.int (v2343.height)), ("depth", V.int (v2343.depth)), ("chroma", V.int (v2343.chroma))]) ∧ H' x2393 = some (.ins AD.c_PictureHeader dx2394 [("number", V.int (v2407.number)), ("kind", V.str (v2407.kind)), ("level", V.int (v2407.level)), ("store", V.ref l2408), ("refs", V.ref l2409), ("weight", V.int (v2407.weight)), ("layer", V.int (v2407.layer)), ("shown", V.bl (v2407.shown)), ("edge", V.int (v2407.edge))]) ∧ H' l2408 = some (.lst ((v2407.store : (List Int)).map V.int)) ∧ H' l2409 = some (.lst ((v2407.refs : (List Int)).map V.int)) ∧ H' p2521 = some (.lst ((octets_2520 : (List Int)).map V.int)) ∧ H' x2571 = some (.ins AD.c_MotionGrid dx2572 [("_width", V.int (grid_2836.width)), ("_height", V.int (grid_2836.height)), ("_lines", V.ref l2583)]) ∧ H' l2583 = some (.lst (vs2837)) ∧ H' D2605 = some (.lst (vs2840)) ∧ H' x2748 = some (.ins AD.c_SymbolReader dx2749 [("_decoder", V.ref x2722)]) ∧ H' x2722 = some (.ins AD.c_Decoder dx2723 [("_probabilities", V.ref l2735), ("_octets", V.ref l2736), ("_place", V.int (reader_2842.dec.place)), ("_span", V.int (reader_2842.dec.span)), ("_value", V.int (reader_2842.dec.value))]) ∧ H' l2735 = some (.lst ((reader_2842.dec.probs : (List Int)).map V.int)) ∧ H' l2736 = some (.lst ((reader_2842.dec.octs : (List Int)).map V.int)) ∧ H' x2803 = some (.ins AD.c_SymbolReader dx2804 [("_decoder", V.ref x2777)]) ∧ H' x2777 = some (.ins AD.c_Decoder dx2778 [("_probabilities", V.ref l2790), ("_octets", V.ref l2791), ("_place", V.int (twin_2843.dec.place)), ("_span", V.int (twin_2843.dec.span)), ("_value", V.int (twin_2843.dec.value))]) ∧ H' l2790 = some (.lst ((twin_2843.dec.probs : (List Int)).map V.int)) ∧ H' l2791 = some (.lst ((twin_2843.dec.octs : (List Int)).map V.int)) ∧ H' p2822 = some (.lst ((cutL (script') (some (2)) none : (List Int)).map V.int)) ∧ (∀ b ∈ L2838, b ≠ p2310) ∧ (∀ b ∈ L2838, b ≠ x2348) ∧ (∀ b ∈ L2838, b ≠ x2332) ∧ (∀ b ∈ L2838, b ≠ x2393) ∧ (∀ b ∈ L2838, b ≠ l2408) ∧ (∀ b ∈ L2838, b ≠ l2409) ∧ (∀ b ∈ L2838, b ≠ p2521) ∧ (∀ b ∈ L2838, b ≠ x2571) ∧ (∀ b ∈ L2838, b ≠ l2583) ∧ (∀ b ∈ L2838, b ≠ D2605) ∧ (∀ b ∈ L2838, b ≠ x2748) ∧ (∀ b ∈ L2838, b ≠ x2722) ∧ (∀ b ∈ L2838, b ≠ l2735) ∧ (∀ b ∈ L2838, b ≠ l2736) ∧ (∀ b ∈ L2838, b ≠ x2803) ∧ (∀ b ∈ L2838, b ≠ x2777) ∧ (∀ b ∈ L2838, b ≠ l2790) ∧ (∀ b ∈ L2838, b ≠ l2791) ∧ (∀ b ∈ L2838, b ≠ p2822) ∧ (∀ b ∈ L2838, b ∉ L2841) ∧ (∀ b ∈ L2841, b ≠ p2310) ∧ (∀ b ∈ L2841, b ≠ x2348) ∧ (∀ b ∈ L2841, b ≠ x2332) ∧ (∀ b ∈ L2841, b ≠ x2393) ∧ (∀ b ∈ L2841, b ≠ l2408) ∧ (∀ b ∈ L2841, b ≠ l2409) ∧ (∀ b ∈ L2841, b ≠ p2521) ∧ (∀ b ∈ L2841, b ≠ x2571) ∧ (∀ b ∈ L2841, b ≠ l2583) ∧ (∀ b ∈ L2841, b ≠ D2605) ∧ (∀ b ∈ L2841, b ≠ x2748) ∧ (∀ b ∈ L2841, b ≠ x2722) ∧ (∀ b ∈ L2841, b ≠ l2735) ∧ (∀ b ∈ L2841, b ≠ l2736) ∧ (∀ b ∈ L2841, b ≠ x2803) ∧ (∀ b ∈ L2841, b ≠ x2777) ∧ (∀ b ∈ L2841, b ≠ l2790) ∧ (∀ b ∈ L2841, b ≠ l2791) ∧ (∀ b ∈ L2841, b ≠ p2822) ∧ OwAll G' H' L2838 (vs2837) ((grid_2836.lines : (List (List PyData))).map (oL (oF encD))) ∧ OwAll G' H' L2841 (vs2840) ((kept_2839 : (List (List PyData))).map (oL (oF encD))) ∧ cW (forR (List.drop i (cutL (script') (some (2)) none)) (grid_2836, kept_2839, reader_2842, twin_2843) (fun s x => F_law_b4 ((1 + (itD (v2307) (0)))) ((itD ([(1 + (itD (v2307) (1))), 2]) ((itD (v2307) (0))))) ((⟨v2407.number, v2407.kind, v2407.level, v2407.store, v2407.refs, v2407.weight, v2407.layer, v2407.shown, v2407.edge⟩ : St_PictureHeader)) (s.1) (s.2.1) (s.2.2.1) (s.2.2.2) x)) K2834 EE) ?_ ?_ ?_ ?_⟩
        · have h2849 := (e2826 _ _ ((SameXs.of x2819) _ _ (e2810 _ _ ((SameXs.of x2793) _ _ (e2784 _ _ (e2772 _ _ ((SameXs.of x2764) _ _ (e2755 _ _ ((SameXs.of x2738) _ _ (e2729 _ _ (e2717 _ _ h2702)) (ni1 (ne_of_none (e2717 _ _ h2702) n2724)))) (ni1 (ne_of_none ((SameXs.of x2738) _ _ (e2729 _ _ (e2717 _ _ h2702)) (ni1 (ne_of_none (e2717 _ _ h2702) n2724))) n2750))))) (ni1 (ne_of_none (e2772 _ _ ((SameXs.of x2764) _ _ (e2755 _ _ ((SameXs.of x2738) _ _ (e2729 _ _ (e2717 _ _ h2702)) (ni1 (ne_of_none (e2717 _ _ h2702) n2724)))) (ni1 (ne_of_none ((SameXs.of x2738) _ _ (e2729 _ _ (e2717 _ _ h2702)) (ni1 (ne_of_none (e2717 _ _ h2702) n2724))) n2750)))) n2779)))) (ni1 (ne_of_none ((SameXs.of x2793) _ _ (e2784 _ _ (e2772 _ _ ((SameXs.of x2764) _ _ (e2755 _ _ ((SameXs.of x2738) _ _ (e2729 _ _ (e2717 _ _ h2702)) (ni1 (ne_of_none (e2717 _ _ h2702) n2724)))) (ni1 (ne_of_none ((SameXs.of x2738) _ _ (e2729 _ _ (e2717 _ _ h2702)) (ni1 (ne_of_none (e2717 _ _ h2702) n2724))) n2750))))) (ni1 (ne_of_none (e2772 _ _ ((SameXs.of x2764) _ _ (e2755 _ _ ((SameXs.of x2738) _ _ (e2729 _ _ (e2717 _ _ h2702)) (ni1 (ne_of_none (e2717 _ _ h2702) n2724)))) (ni1 (ne_of_none ((SameXs.of x2738) _ _ (e2729 _ _ (e2717 _ _ h2702)) (ni1 (ne_of_none (e2717 _ _ h2702) n2724))) n2750)))) n2779))) n2805))))
          have h2850 := (e2826 _ _ ((SameXs.of x2819) _ _ (e2810 _ _ ((SameXs.of x2793) _ _ (e2784 _ _ (e2772 _ _ ((SameXs.of x2764) _ _ (e2755 _ _ ((SameXs.of x2738) _ _ (e2729 _ _ (e2717 _ _ h2703)) (ni1 (ne_of_none (e2717 _ _ h2703) n2724)))) (ni1 (ne_of_none ((SameXs.of x2738) _ _ (e2729 _ _ (e2717 _ _ h2703)) (ni1 (ne_of_none (e2717 _ _ h2703) n2724))) n2750))))) (ni1 (ne_of_none (e2772 _ _ ((SameXs.of x2764) _ _ (e2755 _ _ ((SameXs.of x2738) _ _ (e2729 _ _ (e2717 _ _ h2703)) (ni1 (ne_of_none (e2717 _ _ h2703) n2724)))) (ni1 (ne_of_none ((SameXs.of x2738) _ _ (e2729 _ _ (e2717 _ _ h2703)) (ni1 (ne_of_none (e2717 _ _ h2703) n2724))) n2750)))) n2779)))) (ni1 (ne_of_none ((SameXs.of x2793) _ _ (e2784 _ _ (e2772 _ _ ((SameXs.of x2764) _ _ (e2755 _ _ ((SameXs.of x2738) _ _ (e2729 _ _ (e2717 _ _ h2703)) (ni1 (ne_of_none (e2717 _ _ h2703) n2724)))) (ni1 (ne_of_none ((SameXs.of x2738) _ _ (e2729 _ _ (e2717 _ _ h2703)) (ni1 (ne_of_none (e2717 _ _ h2703) n2724))) n2750))))) (ni1 (ne_of_none (e2772 _ _ ((SameXs.of x2764) _ _ (e2755 _ _ ((SameXs.of x2738) _ _ (e2729 _ _ (e2717 _ _ h2703)) (ni1 (ne_of_none (e2717 _ _ h2703) n2724)))) (ni1 (ne_of_none ((SameXs.of x2738) _ _ (e2729 _ _ (e2717 _ _ h2703)) (ni1 (ne_of_none (e2717 _ _ h2703) n2724))) n2750)))) n2779))) n2805))))
          have h2851 := (e2826 _ _ ((SameXs.of x2819) _ _ (e2810 _ _ ((SameXs.of x2793) _ _ (e2784 _ _ (e2772 _ _ ((SameXs.of x2764) _ _ (e2755 _ _ ((SameXs.of x2738) _ _ (e2729 _ _ (e2717 _ _ h2704)) (ni1 (ne_of_none (e2717 _ _ h2704) n2724)))) (ni1 (ne_of_none ((SameXs.of x2738) _ _ (e2729 _ _ (e2717 _ _ h2704)) (ni1 (ne_of_none (e2717 _ _ h2704) n2724))) n2750))))) (ni1 (ne_of_none (e2772 _ _ ((SameXs.of x2764) _ _ (e2755 _ _ ((SameXs.of x2738) _ _ (e2729 _ _ (e2717 _ _ h2704)) (ni1 (ne_of_none (e2717 _ _ h2704) n2724)))) (ni1 (ne_of_none ((SameXs.of x2738) _ _ (e2729 _ _ (e2717 _ _ h2704)) (ni1 (ne_of_none (e2717 _ _ h2704) n2724))) n2750)))) n2779)))) (ni1 (ne_of_none ((SameXs.of x2793) _ _ (e2784 _ _ (e2772 _ _ ((SameXs.of x2764) _ _ (e2755 _ _ ((SameXs.of x2738) _ _ (e2729 _ _ (e2717 _ _ h2704)) (ni1 (ne_of_none (e2717 _ _ h2704) n2724)))) (ni1 (ne_of_none ((SameXs.of x2738) _ _ (e2729 _ _ (e2717 _ _ h2704)) (ni1 (ne_of_none (e2717 _ _ h2704) n2724))) n2750))))) (ni1 (ne_of_none (e2772 _ _ ((SameXs.of x2764) _ _ (e2755 _ _ ((SameXs.of x2738) _ _ (e2729 _ _ (e2717 _ _ h2704)) (ni1 (ne_of_none (e2717 _ _ h2704) n2724)))) (ni1 (ne_of_none ((SameXs.of x2738) _ _ (e2729 _ _ (e2717 _ _ h2704)) (ni1 (ne_of_none (e2717 _ _ h2704) n2724))) n2750)))) n2779))) n2805))))
          have h2852 := (e2826 _ _ ((SameXs.of x2819) _ _ (e2810 _ _ ((SameXs.of x2793) _ _ (e2784 _ _ (e2772 _ _ ((SameXs.of x2764) _ _ (e2755 _ _ ((SameXs.of x2738) _ _ (e2729 _ _ (e2717 _ _ h2705)) (ni1 (ne_of_none (e2717 _ _ h2705) n2724)))) (ni1 (ne_of_none ((SameXs.of x2738) _ _ (e2729 _ _ (e2717 _ _ h2705)) (ni1 (ne_of_none (e2717 _ _ h2705) n2724))) n2750))))) (ni1 (ne_of_none (e2772 _ _ ((SameXs.of x2764) _ _ (e2755 _ _ ((SameXs.of x2738) _ _ (e2729 _ _ (e2717 _ _ h2705)) (ni1 (ne_of_none (e2717 _ _ h2705) n2724)))) (ni1 (ne_of_none ((SameXs.of x2738) _ _ (e2729 _ _ (e2717 _ _ h2705)) (ni1 (ne_of_none (e2717 _ _ h2705) n2724))) n2750)))) n2779)))) (ni1 (ne_of_none ((SameXs.of x2793) _ _ (e2784 _ _ (e2772 _ _ ((SameXs.of x2764) _ _ (e2755 _ _ ((SameXs.of x2738) _ _ (e2729 _ _ (e2717 _ _ h2705)) (ni1 (ne_of_none (e2717 _ _ h2705) n2724)))) (ni1 (ne_of_none ((SameXs.of x2738) _ _ (e2729 _ _ (e2717 _ _ h2705)) (ni1 (ne_of_none (e2717 _ _ h2705) n2724))) n2750))))) (ni1 (ne_of_none (e2772 _ _ ((SameXs.of x2764) _ _ (e2755 _ _ ((SameXs.of x2738) _ _ (e2729 _ _ (e2717 _ _ h2705)) (ni1 (ne_of_none (e2717 _ _ h2705) n2724)))) (ni1 (ne_of_none ((SameXs.of x2738) _ _ (e2729 _ _ (e2717 _ _ h2705)) (ni1 (ne_of_none (e2717 _ _ h2705) n2724))) n2750)))) n2779))) n2805))))
          have h2853 := (e2826 _ _ ((SameXs.of x2819) _ _ (e2810 _ _ ((SameXs.of x2793) _ _ (e2784 _ _ (e2772 _ _ ((SameXs.of x2764) _ _ (e2755 _ _ ((SameXs.of x2738) _ _ (e2729 _ _ (e2717 _ _ h2706)) (ni1 (ne_of_none (e2717 _ _ h2706) n2724)))) (ni1 (ne_of_none ((SameXs.of x2738) _ _ (e2729 _ _ (e2717 _ _ h2706)) (ni1 (ne_of_none (e2717 _ _ h2706) n2724))) n2750))))) (ni1 (ne_of_none (e2772 _ _ ((SameXs.of x2764) _ _ (e2755 _ _ ((SameXs.of x2738) _ _ (e2729 _ _ (e2717 _ _ h2706)) (ni1 (ne_of_none (e2717 _ _ h2706) n2724)))) (ni1 (ne_of_none ((SameXs.of x2738) _ _ (e2729 _ _ (e2717 _ _ h2706)) (ni1 (ne_of_none (e2717 _ _ h2706) n2724))) n2750)))) n2779)))) (ni1 (ne_of_none ((SameXs.of x2793) _ _ (e2784 _ _ (e2772 _ _ ((SameXs.of x2764) _ _ (e2755 _ _ ((SameXs.of x2738) _ _ (e2729 _ _ (e2717 _ _ h2706)) (ni1 (ne_of_none (e2717 _ _ h2706) n2724)))) (ni1 (ne_of_none ((SameXs.of x2738) _ _ (e2729 _ _ (e2717 _ _ h2706)) (ni1 (ne_of_none (e2717 _ _ h2706) n2724))) n2750))))) (ni1 (ne_of_none (e2772 _ _ ((SameXs.of x2764) _ _ (e2755 _ _ ((SameXs.of x2738) _ _ (e2729 _ _ (e2717 _ _ h2706)) (ni1 (ne_of_none (e2717 _ _ h2706) n2724)))) (ni1 (ne_of_none ((SameXs.of x2738) _ _ (e2729 _ _ (e2717 _ _ h2706)) (ni1 (ne_of_none (e2717 _ _ h2706) n2724))) n2750)))) n2779))) n2805))))
          have h2854 := (e2826 _ _ ((SameXs.of x2819) _ _ (e2810 _ _ ((SameXs.of x2793) _ _ (e2784 _ _ (e2772 _ _ ((SameXs.of x2764) _ _ (e2755 _ _ ((SameXs.of x2738) _ _ (e2729 _ _ (e2717 _ _ h2707)) (ni1 (ne_of_none (e2717 _ _ h2707) n2724)))) (ni1 (ne_of_none ((SameXs.of x2738) _ _ (e2729 _ _ (e2717 _ _ h2707)) (ni1 (ne_of_none (e2717 _ _ h2707) n2724))) n2750))))) (ni1 (ne_of_none (e2772 _ _ ((SameXs.of x2764) _ _ (e2755 _ _ ((SameXs.of x2738) _ _ (e2729 _ _ (e2717 _ _ h2707)) (ni1 (ne_of_none (e2717 _ _ h2707) n2724)))) (ni1 (ne_of_none ((SameXs.of x2738) _ _ (e2729 _ _ (e2717 _ _ h2707)) (ni1 (ne_of_none (e2717 _ _ h2707) n2724))) n2750)))) n2779)))) (ni1 (ne_of_none ((SameXs.of x2793) _ _ (e2784 _ _ (e2772 _ _ ((SameXs.of x2764) _ _ (e2755 _ _ ((SameXs.of x2738) _ _ (e2729 _ _ (e2717 _ _ h2707)) (ni1 (ne_of_none (e2717 _ _ h2707) n2724)))) (ni1 (ne_of_none ((SameXs.of x2738) _ _ (e2729 _ _ (e2717 _ _ h2707)) (ni1 (ne_of_none (e2717 _ _ h2707) n2724))) n2750))))) (ni1 (ne_of_none (e2772 _ _ ((SameXs.of x2764) _ _ (e2755 _ _ ((SameXs.of x2738) _ _ (e2729 _ _ (e2717 _ _ h2707)) (ni1 (ne_of_none (e2717 _ _ h2707) n2724)))) (ni1 (ne_of_none ((SameXs.of x2738) _ _ (e2729 _ _ (e2717 _ _ h2707)) (ni1 (ne_of_none (e2717 _ _ h2707) n2724))) n2750)))) n2779))) n2805))))
          have h2855 := (e2826 _ _ ((SameXs.of x2819) _ _ (e2810 _ _ ((SameXs.of x2793) _ _ (e2784 _ _ (e2772 _ _ h2767)) (ni1 (ne_of_none (e2772 _ _ h2767) n2779)))) (ni1 (ne_of_none ((SameXs.of x2793) _ _ (e2784 _ _ (e2772 _ _ h2767)) (ni1 (ne_of_none (e2772 _ _ h2767) n2779))) n2805))))
          have h2856 := (e2826 _ _ ((SameXs.of x2819) _ _ (e2810 _ _ ((SameXs.of x2793) _ _ (e2784 _ _ (e2772 _ _ ((SameXs.of x2764) _ _ (e2755 _ _ ((SameXs.of x2738) _ _ (e2729 _ _ (e2717 _ _ h2709)) (ni1 (ne_of_none (e2717 _ _ h2709) n2724)))) (ni1 (ne_of_none ((SameXs.of x2738) _ _ (e2729 _ _ (e2717 _ _ h2709)) (ni1 (ne_of_none (e2717 _ _ h2709) n2724))) n2750))))) (ni1 (ne_of_none (e2772 _ _ ((SameXs.of x2764) _ _ (e2755 _ _ ((SameXs.of x2738) _ _ (e2729 _ _ (e2717 _ _ h2709)) (ni1 (ne_of_none (e2717 _ _ h2709) n2724)))) (ni1 (ne_of_none ((SameXs.of x2738) _ _ (e2729 _ _ (e2717 _ _ h2709)) (ni1 (ne_of_none (e2717 _ _ h2709) n2724))) n2750)))) n2779)))) (ni1 (ne_of_none ((SameXs.of x2793) _ _ (e2784 _ _ (e2772 _ _ ((SameXs.of x2764) _ _ (e2755 _ _ ((SameXs.of x2738) _ _ (e2729 _ _ (e2717 _ _ h2709)) (ni1 (ne_of_none (e2717 _ _ h2709) n2724)))) (ni1 (ne_of_none ((SameXs.of x2738) _ _ (e2729 _ _ (e2717 _ _ h2709)) (ni1 (ne_of_none (e2717 _ _ h2709) n2724))) n2750))))) (ni1 (ne_of_none (e2772 _ _ ((SameXs.of x2764) _ _ (e2755 _ _ ((SameXs.of x2738) _ _ (e2729 _ _ (e2717 _ _ h2709)) (ni1 (ne_of_none (e2717 _ _ h2709) n2724)))) (ni1 (ne_of_none ((SameXs.of x2738) _ _ (e2729 _ _ (e2717 _ _ h2709)) (ni1 (ne_of_none (e2717 _ _ h2709) n2724))) n2750)))) n2779))) n2805))))
          have h2857 := (e2826 _ _ ((SameXs.of x2819) _ _ (e2810 _ _ ((SameXs.of x2793) _ _ (e2784 _ _ (e2772 _ _ ((SameXs.of x2764) _ _ (e2755 _ _ ((SameXs.of x2738) _ _ (e2729 _ _ (e2717 _ _ h2710)) (ni1 (ne_of_none (e2717 _ _ h2710) n2724)))) (ni1 (ne_of_none ((SameXs.of x2738) _ _ (e2729 _ _ (e2717 _ _ h2710)) (ni1 (ne_of_none (e2717 _ _ h2710) n2724))) n2750))))) (ni1 (ne_of_none (e2772 _ _ ((SameXs.of x2764) _ _ (e2755 _ _ ((SameXs.of x2738) _ _ (e2729 _ _ (e2717 _ _ h2710)) (ni1 (ne_of_none (e2717 _ _ h2710) n2724)))) (ni1 (ne_of_none ((SameXs.of x2738) _ _ (e2729 _ _ (e2717 _ _ h2710)) (ni1 (ne_of_none (e2717 _ _ h2710) n2724))) n2750)))) n2779)))) (ni1 (ne_of_none ((SameXs.of x2793) _ _ (e2784 _ _ (e2772 _ _ ((SameXs.of x2764) _ _ (e2755 _ _ ((SameXs.of x2738) _ _ (e2729 _ _ (e2717 _ _ h2710)) (ni1 (ne_of_none (e2717 _ _ h2710) n2724)))) (ni1 (ne_of_none ((SameXs.of x2738) _ _ (e2729 _ _ (e2717 _ _ h2710)) (ni1 (ne_of_none (e2717 _ _ h2710) n2724))) n2750))))) (ni1 (ne_of_none (e2772 _ _ ((SameXs.of x2764) _ _ (e2755 _ _ ((SameXs.of x2738) _ _ (e2729 _ _ (e2717 _ _ h2710)) (ni1 (ne_of_none (e2717 _ _ h2710) n2724)))) (ni1 (ne_of_none ((SameXs.of x2738) _ _ (e2729 _ _ (e2717 _ _ h2710)) (ni1 (ne_of_none (e2717 _ _ h2710) n2724))) n2750)))) n2779))) n2805))))
          have h2858 := (e2826 _ _ ((SameXs.of x2819) _ _ (e2810 _ _ ((SameXs.of x2793) _ _ (e2784 _ _ (e2772 _ _ ((SameXs.of x2764) _ _ (e2755 _ _ ((SameXs.of x2738) _ _ (e2729 _ _ (e2717 _ _ h2692)) (ni1 (ne_of_none (e2717 _ _ h2692) n2724)))) (ni1 (ne_of_none ((SameXs.of x2738) _ _ (e2729 _ _ (e2717 _ _ h2692)) (ni1 (ne_of_none (e2717 _ _ h2692) n2724))) n2750))))) (ni1 (ne_of_none (e2772 _ _ ((SameXs.of x2764) _ _ (e2755 _ _ ((SameXs.of x2738) _ _ (e2729 _ _ (e2717 _ _ h2692)) (ni1 (ne_of_none (e2717 _ _ h2692) n2724)))) (ni1 (ne_of_none ((SameXs.of x2738) _ _ (e2729 _ _ (e2717 _ _ h2692)) (ni1 (ne_of_none (e2717 _ _ h2692) n2724))) n2750)))) n2779)))) (ni1 (ne_of_none ((SameXs.of x2793) _ _ (e2784 _ _ (e2772 _ _ ((SameXs.of x2764) _ _ (e2755 _ _ ((SameXs.of x2738) _ _ (e2729 _ _ (e2717 _ _ h2692)) (ni1 (ne_of_none (e2717 _ _ h2692) n2724)))) (ni1 (ne_of_none ((SameXs.of x2738) _ _ (e2729 _ _ (e2717 _ _ h2692)) (ni1 (ne_of_none (e2717 _ _ h2692) n2724))) n2750))))) (ni1 (ne_of_none (e2772 _ _ ((SameXs.of x2764) _ _ (e2755 _ _ ((SameXs.of x2738) _ _ (e2729 _ _ (e2717 _ _ h2692)) (ni1 (ne_of_none (e2717 _ _ h2692) n2724)))) (ni1 (ne_of_none ((SameXs.of x2738) _ _ (e2729 _ _ (e2717 _ _ h2692)) (ni1 (ne_of_none (e2717 _ _ h2692) n2724))) n2750)))) n2779))) n2805))))
          have h2859 := (e2826 _ _ ((SameXs.of x2819) _ _ (e2810 _ _ ((SameXs.of x2793) _ _ (e2784 _ _ (e2772 _ _ h2765)) (ni1 (ne_of_none (e2772 _ _ h2765) n2779)))) (ni1 (ne_of_none ((SameXs.of x2793) _ _ (e2784 _ _ (e2772 _ _ h2765)) (ni1 (ne_of_none (e2772 _ _ h2765) n2779))) n2805))))
          have h2860 := (e2826 _ _ ((SameXs.of x2819) _ _ (e2810 _ _ ((SameXs.of x2793) _ _ (e2784 _ _ (e2772 _ _ ((SameXs.of x2764) _ _ h2759 (ni1 (ne_of_none h2739 n2750))))) (ni1 (ne_of_none (e2772 _ _ ((SameXs.of x2764) _ _ h2759 (ni1 (ne_of_none h2739 n2750)))) n2779)))) (ni1 (ne_of_none ((SameXs.of x2793) _ _ (e2784 _ _ (e2772 _ _ ((SameXs.of x2764) _ _ h2759 (ni1 (ne_of_none h2739 n2750))))) (ni1 (ne_of_none (e2772 _ _ ((SameXs.of x2764) _ _ h2759 (ni1 (ne_of_none h2739 n2750)))) n2779))) n2805))))
          have h2861 := (e2826 _ _ ((SameXs.of x2819) _ _ (e2810 _ _ ((SameXs.of x2793) _ _ (e2784 _ _ (e2772 _ _ ((SameXs.of x2764) _ _ h2760 (ni1 (ne_of_none h2741 n2750))))) (ni1 (ne_of_none (e2772 _ _ ((SameXs.of x2764) _ _ h2760 (ni1 (ne_of_none h2741 n2750)))) n2779)))) (ni1 (ne_of_none ((SameXs.of x2793) _ _ (e2784 _ _ (e2772 _ _ ((SameXs.of x2764) _ _ h2760 (ni1 (ne_of_none h2741 n2750))))) (ni1 (ne_of_none (e2772 _ _ ((SameXs.of x2764) _ _ h2760 (ni1 (ne_of_none h2741 n2750)))) n2779))) n2805))))
          have h2862 := (e2826 _ _ ((SameXs.of x2819) _ _ (e2810 _ _ ((SameXs.of x2793) _ _ (e2784 _ _ (e2772 _ _ ((SameXs.of x2764) _ _ h2761 (ni1 (ne_of_none h2742 n2750))))) (ni1 (ne_of_none (e2772 _ _ ((SameXs.of x2764) _ _ h2761 (ni1 (ne_of_none h2742 n2750)))) n2779)))) (ni1 (ne_of_none ((SameXs.of x2793) _ _ (e2784 _ _ (e2772 _ _ ((SameXs.of x2764) _ _ h2761 (ni1 (ne_of_none h2742 n2750))))) (ni1 (ne_of_none (e2772 _ _ ((SameXs.of x2764) _ _ h2761 (ni1 (ne_of_none h2742 n2750)))) n2779))) n2805))))
          have h2863 := (e2826 _ _ h2820)
          have h2864 := (e2826 _ _ ((SameXs.of x2819) _ _ h2814 (ni1 (ne_of_none h2794 n2805))))
          have h2865 := (e2826 _ _ ((SameXs.of x2819) _ _ h2815 (ni1 (ne_of_none h2796 n2805))))
          have h2866 := (e2826 _ _ ((SameXs.of x2819) _ _ h2816 (ni1 (ne_of_none h2797 n2805))))
          have w2867 : OwAll G2693 H2825 L2595 (vs2594) ((v2582.lines : (List (List PyData))).map (oL (oF encD))) := (OwAll.mono (Same.refl _) (keeps_same e2826) (OwAll.mono (Same.refl _) (keeps_muts (SameXs.of x2819) ((fun b hb => (nm_cons ((there_ne (fun b_ hb_ => (S2795.ow b_ (((fun b hb => (.tail _ (.tail _ (.tail _ (.tail _ (.tail _ (.tail _ (.tail _ (.tail _ (.tail _ (.tail _ (List.mem_append_right _ (.tail _ (.tail _ (.tail _ (.tail _ (.tail _ (.tail _ (.tail _ (.tail _ (.tail _ (List.mem_append_left _ hb)))))))))))))))))))))) : ∀ b ∈ L2595, b ∈ (l2790 :: (l2791 :: (x2777 :: (p2768 :: (x2748 :: (l2735 :: (l2736 :: (x2722 :: (p2713 :: (D2605 :: (L2698 ++ (p2310 :: (x2348 :: (x2332 :: (x2393 :: (l2408 :: (l2409 :: (p2521 :: (x2571 :: (l2583 :: (L2595 ++ [])))))))))))))))))))))) b_ hb_)).2.1) n2805) b hb) nm_nil)) : ∀ b ∈ L2595, b ∉ [x2803])) (OwAll.mono (Same.refl _) (keeps_same e2810) (OwAll.mono (Same.refl _) (keeps_muts (SameXs.of x2793) ((fun b hb => (nm_cons ((there_ne (fun b_ hb_ => (S2776.ow b_ (((fun b hb => (.tail _ (.tail _ (.tail _ (.tail _ (.tail _ (.tail _ (.tail _ (List.mem_append_right _ (.tail _ (.tail _ (.tail _ (.tail _ (.tail _ (.tail _ (.tail _ (.tail _ (.tail _ (List.mem_append_left _ hb))))))))))))))))))) : ∀ b ∈ L2595, b ∈ (p2768 :: (x2748 :: (l2735 :: (l2736 :: (x2722 :: (p2713 :: (D2605 :: (L2698 ++ (p2310 :: (x2348 :: (x2332 :: (x2393 :: (l2408 :: (l2409 :: (p2521 :: (x2571 :: (l2583 :: (L2595 ++ []))))))))))))))))))) b_ hb_)).2.1) n2779) b hb) nm_nil)) : ∀ b ∈ L2595, b ∉ [x2777])) (OwAll.mono (Same.refl _) (keeps_same e2784) (OwAll.mono (Same.refl _) (keeps_same e2772) (OwAll.mono (Same.refl _) (keeps_muts (SameXs.of x2764) ((fun b hb => (nm_cons ((there_ne (fun b_ hb_ => (S2740.ow b_ (((fun b hb => (.tail _ (.tail _ (.tail _ (.tail _ (.tail _ (List.mem_append_right _ (.tail _ (.tail _ (.tail _ (.tail _ (.tail _ (.tail _ (.tail _ (.tail _ (.tail _ (List.mem_append_left _ hb))))))))))))))))) : ∀ b ∈ L2595, b ∈ (l2735 :: (l2736 :: (x2722 :: (p2713 :: (D2605 :: (L2698 ++ (p2310 :: (x2348 :: (x2332 :: (x2393 :: (l2408 :: (l2409 :: (p2521 :: (x2571 :: (l2583 :: (L2595 ++ []))))))))))))))))) b_ hb_)).2.1) n2750) b hb) nm_nil)) : ∀ b ∈ L2595, b ∉ [x2748])) (OwAll.mono (Same.refl _) (keeps_same e2755) (OwAll.mono (Same.refl _) (keeps_muts (SameXs.of x2738) ((fun b hb => (nm_cons ((there_ne (fun b_ hb_ => (S2721.ow b_ (((fun b hb => (.tail _ (.tail _ (List.mem_append_right _ (.tail _ (.tail _ (.tail _ (.tail _ (.tail _ (.tail _ (.tail _ (.tail _ (.tail _ (List.mem_append_left _ hb)))))))))))))) : ∀ b ∈ L2595, b ∈ (p2713 :: (D2605 :: (L2698 ++ (p2310 :: (x2348 :: (x2332 :: (x2393 :: (l2408 :: (l2409 :: (p2521 :: (x2571 :: (l2583 :: (L2595 ++ [])))))))))))))) b_ hb_)).2.1) n2724) b hb) nm_nil)) : ∀ b ∈ L2595, b ∉ [x2722])) (OwAll.mono (Same.refl _) (keeps_same e2729) (OwAll.mono (Same.refl _) (keeps_same e2717) w2711)))))))))))
          have w2868 : OwAll G2693 H2825 L2698 (vs2696) ((acc2695 : (List (List PyData))).map (oL (oF encD))) := (OwAll.mono (Same.refl _) (keeps_same e2826) (OwAll.mono (Same.refl _) (keeps_muts (SameXs.of x2819) ((fun b hb => (nm_cons ((there_ne (fun b_ hb_ => (S2795.ow b_ (((fun b hb => (.tail _ (.tail _ (.tail _ (.tail _ (.tail _ (.tail _ (.tail _ (.tail _ (.tail _ (.tail _ (List.mem_append_left _ hb)))))))))))) : ∀ b ∈ L2698, b ∈ (l2790 :: (l2791 :: (x2777 :: (p2768 :: (x2748 :: (l2735 :: (l2736 :: (x2722 :: (p2713 :: (D2605 :: (L2698 ++ (p2310 :: (x2348 :: (x2332 :: (x2393 :: (l2408 :: (l2409 :: (p2521 :: (x2571 :: (l2583 :: (L2595 ++ [])))))))))))))))))))))) b_ hb_)).2.1) n2805) b hb) nm_nil)) : ∀ b ∈ L2698, b ∉ [x2803])) (OwAll.mono (Same.refl _) (keeps_same e2810) (OwAll.mono (Same.refl _) (keeps_muts (SameXs.of x2793) ((fun b hb => (nm_cons ((there_ne (fun b_ hb_ => (S2776.ow b_ (((fun b hb => (.tail _ (.tail _ (.tail _ (.tail _ (.tail _ (.tail _ (.tail _ (List.mem_append_left _ hb))))))))) : ∀ b ∈ L2698, b ∈ (p2768 :: (x2748 :: (l2735 :: (l2736 :: (x2722 :: (p2713 :: (D2605 :: (L2698 ++ (p2310 :: (x2348 :: (x2332 :: (x2393 :: (l2408 :: (l2409 :: (p2521 :: (x2571 :: (l2583 :: (L2595 ++ []))))))))))))))))))) b_ hb_)).2.1) n2779) b hb) nm_nil)) : ∀ b ∈ L2698, b ∉ [x2777])) (OwAll.mono (Same.refl _) (keeps_same e2784) (OwAll.mono (Same.refl _) (keeps_same e2772) (OwAll.mono (Same.refl _) (keeps_muts (SameXs.of x2764) ((fun b hb => (nm_cons ((there_ne (fun b_ hb_ => (S2740.ow b_ (((fun b hb => (.tail _ (.tail _ (.tail _ (.tail _ (.tail _ (List.mem_append_left _ hb))))))) : ∀ b ∈ L2698, b ∈ (l2735 :: (l2736 :: (x2722 :: (p2713 :: (D2605 :: (L2698 ++ (p2310 :: (x2348 :: (x2332 :: (x2393 :: (l2408 :: (l2409 :: (p2521 :: (x2571 :: (l2583 :: (L2595 ++ []))))))))))))))))) b_ hb_)).2.1) n2750) b hb) nm_nil)) : ∀ b ∈ L2698, b ∉ [x2748])) (OwAll.mono (Same.refl _) (keeps_same e2755) (OwAll.mono (Same.refl _) (keeps_muts (SameXs.of x2738) ((fun b hb => (nm_cons ((there_ne (fun b_ hb_ => (S2721.ow b_ (((fun b hb => (.tail _ (.tail _ (List.mem_append_left _ hb)))) : ∀ b ∈ L2698, b ∈ (p2713 :: (D2605 :: (L2698 ++ (p2310 :: (x2348 :: (x2332 :: (x2393 :: (l2408 :: (l2409 :: (p2521 :: (x2571 :: (l2583 :: (L2595 ++ [])))))))))))))) b_ hb_)).2.1) n2724) b hb) nm_nil)) : ∀ b ∈ L2698, b ∉ [x2722])) (OwAll.mono (Same.refl _) (keeps_same e2729) (OwAll.mono (Same.refl _) (keeps_same e2717) d2697)))))))))))
          exact ⟨(v2582), (vs2594), L2595, (acc2695), (vs2696), L2698, ((⟨v2734⟩ : St_SymbolReader)), ((⟨v2789⟩ : St_SymbolReader)), _, _, _, _, _, _, rfl, (Same.refl _), (S2830.sub (all_cons (.tail _ (.tail _ (.tail _ (.tail _ (.tail _ (.tail _ (.tail _ (.tail _ (.tail _ (.tail _ (.tail _ (.tail _ (List.mem_append_right _ (.head _)))))))))))))) (all_cons (.tail _ (.tail _ (.tail _ (.tail _ (.tail _ (.tail _ (.tail _ (.tail _ (.tail _ (.tail _ (.tail _ (.tail _ (List.mem_append_right _ (.tail _ (.head _))))))))))))))) (all_cons (.tail _ (.tail _ (.tail _ (.tail _ (.tail _ (.tail _ (.tail _ (.tail _ (.tail _ (.tail _ (.tail _ (.tail _ (List.mem_append_right _ (.tail _ (.tail _ (.head _)))))))))))))))) (all_cons (.tail _ (.tail _ (.tail _ (.tail _ (.tail _ (.tail _ (.tail _ (.tail _ (.tail _ (.tail _ (.tail _ (.tail _ (List.mem_append_right _ (.tail _ (.tail _ (.tail _ (.head _))))))))))))))))) (all_cons (.tail _ (.tail _ (.tail _ (.tail _ (.tail _ (.tail _ (.tail _ (.tail _ (.tail _ (.tail _ (.tail _ (.tail _ (List.mem_append_right _ (.tail _ (.tail _ (.tail _ (.tail _ (.head _)))))))))))))))))) (all_cons (.tail _ (.tail _ (.tail _ (.tail _ (.tail _ (.tail _ (.tail _ (.tail _ (.tail _ (.tail _ (.tail _ (.tail _ (List.mem_append_right _ (.tail _ (.tail _ (.tail _ (.tail _ (.tail _ (.head _))))))))))))))))))) (all_cons (.tail _ (.tail _ (.tail _ (.tail _ (.tail _ (.tail _ (.tail _ (.tail _ (.tail _ (.tail _ (.tail _ (.tail _ (List.mem_append_right _ (.tail _ (.tail _ (.tail _ (.tail _ (.tail _ (.tail _ (.head _)))))))))))))))))))) (all_cons (.tail _ (.tail _ (.tail _ (.tail _ (.tail _ (.tail _ (.tail _ (.tail _ (.tail _ (.tail _ (.tail _ (.tail _ (List.mem_append_right _ (.tail _ (.tail _ (.tail _ (.tail _ (.tail _ (.tail _ (.tail _ (.head _))))))))))))))))))))) (all_cons (.tail _ (.tail _ (.tail _ (.tail _ (.tail _ (.tail _ (.tail _ (.tail _ (.tail _ (.tail _ (.tail _ (.tail _ (List.mem_append_right _ (.tail _ (.tail _ (.tail _ (.tail _ (.tail _ (.tail _ (.tail _ (.tail _ (.head _)))))))))))))))))))))) (all_cons (.tail _ (.tail _ (.tail _ (.tail _ (.tail _ (.tail _ (.tail _ (.tail _ (.tail _ (.tail _ (.tail _ (.head _)))))))))))) (all_cons (.tail _ (.tail _ (.tail _ (.tail _ (.tail _ (.tail _ (.head _))))))) (all_cons (.tail _ (.tail _ (.tail _ (.tail _ (.tail _ (.tail _ (.tail _ (.tail _ (.tail _ (.head _)))))))))) (all_cons (.tail _ (.tail _ (.tail _ (.tail _ (.tail _ (.tail _ (.tail _ (.head _)))))))) (all_cons (.tail _ (.tail _ (.tail _ (.tail _ (.tail _ (.tail _ (.tail _ (.tail _ (.head _))))))))) (all_cons (.tail _ (.head _)) (all_cons (.tail _ (.tail _ (.tail _ (.tail _ (.head _))))) (all_cons (.tail _ (.tail _ (.head _))) (all_cons (.tail _ (.tail _ (.tail _ (.head _)))) (all_cons (.head _) (all_app ((fun b hb => (.tail _ (.tail _ (.tail _ (.tail _ (.tail _ (.tail _ (.tail _ (.tail _ (.tail _ (.tail _ (.tail _ (.tail _ (List.mem_append_right _ (.tail _ (.tail _ (.tail _ (.tail _ (.tail _ (.tail _ (.tail _ (.tail _ (.tail _ (List.mem_append_left _ hb)))))))))))))))))))))))) : ∀ b ∈ L2595, b ∈ (p2822 :: (x2803 :: (l2790 :: (l2791 :: (x2777 :: (p2768 :: (x2748 :: (l2735 :: (l2736 :: (x2722 :: (p2713 :: (D2605 :: (L2698 ++ (p2310 :: (x2348 :: (x2332 :: (x2393 :: (l2408 :: (l2409 :: (p2521 :: (x2571 :: (l2583 :: (L2595 ++ [])))))))))))))))))))))))) (all_app ((fun b hb => (.tail _ (.tail _ (.tail _ (.tail _ (.tail _ (.tail _ (.tail _ (.tail _ (.tail _ (.tail _ (.tail _ (.tail _ (List.mem_append_left _ hb)))))))))))))) : ∀ b ∈ L2698, b ∈ (p2822 :: (x2803 :: (l2790 :: (l2791 :: (x2777 :: (p2768 :: (x2748 :: (l2735 :: (l2736 :: (x2722 :: (p2713 :: (D2605 :: (L2698 ++ (p2310 :: (x2348 :: (x2332 :: (x2393 :: (l2408 :: (l2409 :: (p2521 :: (x2571 :: (l2583 :: (L2595 ++ [])))))))))))))))))))))))) all_nil)))))))))))))))))))))), h2849, h2850, h2851, h2852, h2853, h2854, h2855, h2856, h2857, h2858, h2859, h2860, h2861, h2862, h2863, h2864, h2865, h2866, h2828, (new_ne2 nb2596 (S2581.ow _ (.tail _ (.head _))).2.1), (new_ne2 nb2596 (S2581.ow _ (.tail _ (.tail _ (.head _)))).2.1), (new_ne2 nb2596 (S2581.ow _ (.tail _ (.tail _ (.tail _ (.head _))))).2.1), (new_ne2 nb2596 (S2581.ow _ (.tail _ (.tail _ (.tail _ (.tail _ (.head _)))))).2.1), (new_ne2 nb2596 (S2581.ow _ (.tail _ (.tail _ (.tail _ (.tail _ (.tail _ (.head _))))))).2.1), (new_ne2 nb2596 (S2581.ow _ (.tail _ (.tail _ (.tail _ (.tail _ (.tail _ (.tail _ (.head _)))))))).2.1), (new_ne2 nb2596 (S2581.ow _ (.tail _ (.tail _ (.tail _ (.tail _ (.tail _ (.tail _ (.tail _ (.head _))))))))).2.1), (new_ne2 nb2596 (S2581.ow _ (.head _)).2.1), ne2600, (there_ne (fun b_ hb_ => (S2587.ow b_ (((fun b hb => (.tail _ (List.mem_append_left _ hb))) : ∀ b ∈ L2595, b ∈ (l2583 :: (L2595 ++ (x2571 :: (p2310 :: (x2348 :: (x2332 :: (x2393 :: (l2408 :: (l2409 :: (p2521 :: []))))))))))) b_ hb_)).2.1) n2606), (there_ne (fun b_ hb_ => (S2740.ow b_ (((fun b hb => (.tail _ (.tail _ (.tail _ (.tail _ (.tail _ (List.mem_append_right _ (.tail _ (.tail _ (.tail _ (.tail _ (.tail _ (.tail _ (.tail _ (.tail _ (.tail _ (List.mem_append_left _ hb))))))))))))))))) : ∀ b ∈ L2595, b ∈ (l2735 :: (l2736 :: (x2722 :: (p2713 :: (D2605 :: (L2698 ++ (p2310 :: (x2348 :: (x2332 :: (x2393 :: (l2408 :: (l2409 :: (p2521 :: (x2571 :: (l2583 :: (L2595 ++ []))))))))))))))))) b_ hb_)).2.1) n2750), (there_ne (fun b_ hb_ => (S2721.ow b_ (((fun b hb => (.tail _ (.tail _ (List.mem_append_right _ (.tail _ (.tail _ (.tail _ (.tail _ (.tail _ (.tail _ (.tail _ (.tail _ (.tail _ (List.mem_append_left _ hb)))))))))))))) : ∀ b ∈ L2595, b ∈ (p2713 :: (D2605 :: (L2698 ++ (p2310 :: (x2348 :: (x2332 :: (x2393 :: (l2408 :: (l2409 :: (p2521 :: (x2571 :: (l2583 :: (L2595 ++ [])))))))))))))) b_ hb_)).2.1) n2724), (there_ne (fun b_ hb_ => (S2732.ow b_ (((fun b hb => (.tail _ (.tail _ (.tail _ (List.mem_append_right _ (.tail _ (.tail _ (.tail _ (.tail _ (.tail _ (.tail _ (.tail _ (.tail _ (.tail _ (List.mem_append_left _ hb))))))))))))))) : ∀ b ∈ L2595, b ∈ (x2722 :: (p2713 :: (D2605 :: (L2698 ++ (p2310 :: (x2348 :: (x2332 :: (x2393 :: (l2408 :: (l2409 :: (p2521 :: (x2571 :: (l2583 :: (L2595 ++ []))))))))))))))) b_ hb_)).2.1) n2743), (there_ne (fun b_ hb_ => (S2732.ow b_ (((fun b hb => (.tail _ (.tail _ (.tail _ (List.mem_append_right _ (.tail _ (.tail _ (.tail _ (.tail _ (.tail _ (.tail _ (.tail _ (.tail _ (.tail _ (List.mem_append_left _ hb))))))))))))))) : ∀ b ∈ L2595, b ∈ (x2722 :: (p2713 :: (D2605 :: (L2698 ++ (p2310 :: (x2348 :: (x2332 :: (x2393 :: (l2408 :: (l2409 :: (p2521 :: (x2571 :: (l2583 :: (L2595 ++ []))))))))))))))) b_ hb_)).2.1) n2744), (there_ne (fun b_ hb_ => (S2795.ow b_ (((fun b hb => (.tail _ (.tail _ (.tail _ (.tail _ (.tail _ (.tail _ (.tail _ (.tail _ (.tail _ (.tail _ (List.mem_append_right _ (.tail _ (.tail _ (.tail _ (.tail _ (.tail _ (.tail _ (.tail _ (.tail _ (.tail _ (List.mem_append_left _ hb)))))))))))))))))))))) : ∀ b ∈ L2595, b ∈ (l2790 :: (l2791 :: (x2777 :: (p2768 :: (x2748 :: (l2735 :: (l2736 :: (x2722 :: (p2713 :: (D2605 :: (L2698 ++ (p2310 :: (x2348 :: (x2332 :: (x2393 :: (l2408 :: (l2409 :: (p2521 :: (x2571 :: (l2583 :: (L2595 ++ [])))))))))))))))))))))) b_ hb_)).2.1) n2805), (there_ne (fun b_ hb_ => (S2776.ow b_ (((fun b hb => (.tail _ (.tail _ (.tail _ (.tail _ (.tail _ (.tail _ (.tail _ (List.mem_append_right _ (.tail _ (.tail _ (.tail _ (.tail _ (.tail _ (.tail _ (.tail _ (.tail _ (.tail _ (List.mem_append_left _ hb))))))))))))))))))) : ∀ b ∈ L2595, b ∈ (p2768 :: (x2748 :: (l2735 :: (l2736 :: (x2722 :: (p2713 :: (D2605 :: (L2698 ++ (p2310 :: (x2348 :: (x2332 :: (x2393 :: (l2408 :: (l2409 :: (p2521 :: (x2571 :: (l2583 :: (L2595 ++ []))))))))))))))))))) b_ hb_)).2.1) n2779), (there_ne (fun b_ hb_ => (S2787.ow b_ (((fun b hb => (.tail _ (.tail _ (.tail _ (.tail _ (.tail _ (.tail _ (.tail _ (.tail _ (List.mem_append_right _ (.tail _ (.tail _ (.tail _ (.tail _ (.tail _ (.tail _ (.tail _ (.tail _ (.tail _ (List.mem_append_left _ hb)))))))))))))))))))) : ∀ b ∈ L2595, b ∈ (x2777 :: (p2768 :: (x2748 :: (l2735 :: (l2736 :: (x2722 :: (p2713 :: (D2605 :: (L2698 ++ (p2310 :: (x2348 :: (x2332 :: (x2393 :: (l2408 :: (l2409 :: (p2521 :: (x2571 :: (l2583 :: (L2595 ++ [])))))))))))))))))))) b_ hb_)).2.1) n2798), (there_ne (fun b_ hb_ => (S2787.ow b_ (((fun b hb => (.tail _ (.tail _ (.tail _ (.tail _ (.tail _ (.tail _ (.tail _ (.tail _ (List.mem_append_right _ (.tail _ (.tail _ (.tail _ (.tail _ (.tail _ (.tail _ (.tail _ (.tail _ (.tail _ (List.mem_append_left _ hb)))))))))))))))))))) : ∀ b ∈ L2595, b ∈ (x2777 :: (p2768 :: (x2748 :: (l2735 :: (l2736 :: (x2722 :: (p2713 :: (D2605 :: (L2698 ++ (p2310 :: (x2348 :: (x2332 :: (x2393 :: (l2408 :: (l2409 :: (p2521 :: (x2571 :: (l2583 :: (L2595 ++ [])))))))))))))))))))) b_ hb_)).2.1) n2799), (there_ne (fun b_ hb_ => (S2821.ow b_ (((fun b hb => (.tail _ (.tail _ (.tail _ (.tail _ (.tail _ (.tail _ (.tail _ (.tail _ (.tail _ (.tail _ (.tail _ (List.mem_append_right _ (.tail _ (.tail _ (.tail _ (.tail _ (.tail _ (.tail _ (.tail _ (.tail _ (.tail _ (List.mem_append_left _ hb))))))))))))))))))))))) : ∀ b ∈ L2595, b ∈ (x2803 :: (l2790 :: (l2791 :: (x2777 :: (p2768 :: (x2748 :: (l2735 :: (l2736 :: (x2722 :: (p2713 :: (D2605 :: (L2698 ++ (p2310 :: (x2348 :: (x2332 :: (x2393 :: (l2408 :: (l2409 :: (p2521 :: (x2571 :: (l2583 :: (L2595 ++ []))))))))))))))))))))))) b_ hb_)).2.1) n2823), (fun b hb => ((nl_symm (new_nl nb2699 (fun b_ hb_ => (S2587.ow b_ (((fun b hb => (.tail _ (List.mem_append_left _ hb))) : ∀ b ∈ L2595, b ∈ (l2583 :: (L2595 ++ (x2571 :: (p2310 :: (x2348 :: (x2332 :: (x2393 :: (l2408 :: (l2409 :: (p2521 :: []))))))))))) b_ hb_)).2.1))) b hb)), (new_ne2 nb2699 (S2587.ow _ (.tail _ (List.mem_append_right _ (.tail _ (.head _))))).2.1), (new_ne2 nb2699 (S2587.ow _ (.tail _ (List.mem_append_right _ (.tail _ (.tail _ (.head _)))))).2.1), (new_ne2 nb2699 (S2587.ow _ (.tail _ (List.mem_append_right _ (.tail _ (.tail _ (.tail _ (.head _))))))).2.1), (new_ne2 nb2699 (S2587.ow _ (.tail _ (List.mem_append_right _ (.tail _ (.tail _ (.tail _ (.tail _ (.head _)))))))).2.1), (new_ne2 nb2699 (S2587.ow _ (.tail _ (List.mem_append_right _ (.tail _ (.tail _ (.tail _ (.tail _ (.tail _ (.head _))))))))).2.1), (new_ne2 nb2699 (S2587.ow _ (.tail _ (List.mem_append_right _ (.tail _ (.tail _ (.tail _ (.tail _ (.tail _ (.tail _ (.head _)))))))))).2.1), (new_ne2 nb2699 (S2587.ow _ (.tail _ (List.mem_append_right _ (.tail _ (.tail _ (.tail _ (.tail _ (.tail _ (.tail _ (.tail _ (.head _))))))))))).2.1), (new_ne2 nb2699 (S2587.ow _ (.tail _ (List.mem_append_right _ (.head _)))).2.1), (new_ne2 nb2699 (S2587.ow _ (.head _)).2.1), nd2700, (there_ne (fun b_ hb_ => (S2740.ow b_ (((fun b hb => (.tail _ (.tail _ (.tail _ (.tail _ (.tail _ (List.mem_append_left _ hb))))))) : ∀ b ∈ L2698, b ∈ (l2735 :: (l2736 :: (x2722 :: (p2713 :: (D2605 :: (L2698 ++ (p2310 :: (x2348 :: (x2332 :: (x2393 :: (l2408 :: (l2409 :: (p2521 :: (x2571 :: (l2583 :: (L2595 ++ []))))))))))))))))) b_ hb_)).2.1) n2750), (there_ne (fun b_ hb_ => (S2721.ow b_ (((fun b hb => (.tail _ (.tail _ (List.mem_append_left _ hb)))) : ∀ b ∈ L2698, b ∈ (p2713 :: (D2605 :: (L2698 ++ (p2310 :: (x2348 :: (x2332 :: (x2393 :: (l2408 :: (l2409 :: (p2521 :: (x2571 :: (l2583 :: (L2595 ++ [])))))))))))))) b_ hb_)).2.1) n2724), (there_ne (fun b_ hb_ => (S2732.ow b_ (((fun b hb => (.tail _ (.tail _ (.tail _ (List.mem_append_left _ hb))))) : ∀ b ∈ L2698, b ∈ (x2722 :: (p2713 :: (D2605 :: (L2698 ++ (p2310 :: (x2348 :: (x2332 :: (x2393 :: (l2408 :: (l2409 :: (p2521 :: (x2571 :: (l2583 :: (L2595 ++ []))))))))))))))) b_ hb_)).2.1) n2743), (there_ne (fun b_ hb_ => (S2732.ow b_ (((fun b hb => (.tail _ (.tail _ (.tail _ (List.mem_append_left _ hb))))) : ∀ b ∈ L2698, b ∈ (x2722 :: (p2713 :: (D2605 :: (L2698 ++ (p2310 :: (x2348 :: (x2332 :: (x2393 :: (l2408 :: (l2409 :: (p2521 :: (x2571 :: (l2583 :: (L2595 ++ []))))))))))))))) b_ hb_)).2.1) n2744), (there_ne (fun b_ hb_ => (S2795.ow b_ (((fun b hb => (.tail _ (.tail _ (.tail _ (.tail _ (.tail _ (.tail _ (.tail _ (.tail _ (.tail _ (.tail _ (List.mem_append_left _ hb)))))))))))) : ∀ b ∈ L2698, b ∈ (l2790 :: (l2791 :: (x2777 :: (p2768 :: (x2748 :: (l2735 :: (l2736 :: (x2722 :: (p2713 :: (D2605 :: (L2698 ++ (p2310 :: (x2348 :: (x2332 :: (x2393 :: (l2408 :: (l2409 :: (p2521 :: (x2571 :: (l2583 :: (L2595 ++ [])))))))))))))))))))))) b_ hb_)).2.1) n2805), (there_ne (fun b_ hb_ => (S2776.ow b_ (((fun b hb => (.tail _ (.tail _ (.tail _ (.tail _ (.tail _ (.tail _ (.tail _ (List.mem_append_left _ hb))))))))) : ∀ b ∈ L2698, b ∈ (p2768 :: (x2748 :: (l2735 :: (l2736 :: (x2722 :: (p2713 :: (D2605 :: (L2698 ++ (p2310 :: (x2348 :: (x2332 :: (x2393 :: (l2408 :: (l2409 :: (p2521 :: (x2571 :: (l2583 :: (L2595 ++ []))))))))))))))))))) b_ hb_)).2.1) n2779), (there_ne (fun b_ hb_ => (S2787.ow b_ (((fun b hb => (.tail _ (.tail _ (.tail _ (.tail _ (.tail _ (.tail _ (.tail _ (.tail _ (List.mem_append_left _ hb)))))))))) : ∀ b ∈ L2698, b ∈ (x2777 :: (p2768 :: (x2748 :: (l2735 :: (l2736 :: (x2722 :: (p2713 :: (D2605 :: (L2698 ++ (p2310 :: (x2348 :: (x2332 :: (x2393 :: (l2408 :: (l2409 :: (p2521 :: (x2571 :: (l2583 :: (L2595 ++ [])))))))))))))))))))) b_ hb_)).2.1) n2798), (there_ne (fun b_ hb_ => (S2787.ow b_ (((fun b hb => (.tail _ (.tail _ (.tail _ (.tail _ (.tail _ (.tail _ (.tail _ (.tail _ (List.mem_append_left _ hb)))))))))) : ∀ b ∈ L2698, b ∈ (x2777 :: (p2768 :: (x2748 :: (l2735 :: (l2736 :: (x2722 :: (p2713 :: (D2605 :: (L2698 ++ (p2310 :: (x2348 :: (x2332 :: (x2393 :: (l2408 :: (l2409 :: (p2521 :: (x2571 :: (l2583 :: (L2595 ++ [])))))))))))))))))))) b_ hb_)).2.1) n2799), (there_ne (fun b_ hb_ => (S2821.ow b_ (((fun b hb => (.tail _ (.tail _ (.tail _ (.tail _ (.tail _ (.tail _ (.tail _ (.tail _ (.tail _ (.tail _ (.tail _ (List.mem_append_left _ hb))))))))))))) : ∀ b ∈ L2698, b ∈ (x2803 :: (l2790 :: (l2791 :: (x2777 :: (p2768 :: (x2748 :: (l2735 :: (l2736 :: (x2722 :: (p2713 :: (D2605 :: (L2698 ++ (p2310 :: (x2348 :: (x2332 :: (x2393 :: (l2408 :: (l2409 :: (p2521 :: (x2571 :: (l2583 :: (L2595 ++ []))))))))))))))))))))))) b_ hb_)).2.1) n2823), w2867, w2868, hw⟩
        · intro i σ H2869 _ hw
          obtain ⟨grid_2836, vs2837, L2838, kept_2839, vs2840, L2841, reader_2842, twin_2843, u2844, u2845, u2846, u2847, u2848, G2931, rfl, eG2932, S2870, h2871, h2872, h2873, h2874, h2875, h2876, h2877, h2878, h2879, h2880, h2881, h2882, h2883, h2884, h2885, h2886, h2887, h2888, h2889, ne2890, ne2891, ne2892, ne2893, ne2894, ne2895, ne2896, ne2897, ne2898, ne2899, ne2900, ne2901, ne2902, ne2903, ne2904, ne2905, ne2906, ne2907, ne2908, ne2909, ne2910, ne2911, ne2912, ne2913, ne2914, ne2915, ne2916, ne2917, ne2918, ne2919, ne2920, ne2921, ne2922, ne2923, ne2924, ne2925, ne2926, ne2927, ne2928, w2929, w2930, hw⟩ := hw
          exact (SqL.of h2889)
        · intro i x σ H2933 hj hw
          obtain ⟨grid_2836, vs2837, L2838, kept_2839, vs2840, L2841, reader_2842, twin_2843, u2844, u2845, u2846, u2847, u2848, G2995, rfl, eG2996, S2934, h2935, h2936, h2937, h2938, h2939, h2940, h2941, h2942, h2943, h2944, h2945, h2946, h2947, h2948, h2949, h2950, h2951, h2952, h2953, ne2954, ne2955, ne2956, ne2957, ne2958, ne2959, ne2960, ne2961, ne2962, ne2963, ne2964, ne2965, ne2966, ne2967, ne2968, ne2969, ne2970, ne2971, ne2972, ne2973, ne2974, ne2975, ne2976, ne2977, ne2978, ne2979, ne2980, ne2981, ne2982, ne2983, ne2984, ne2985, ne2986, ne2987, ne2988, ne2989, ne2990, ne2991, ne2992, w2993, w2994, hw⟩ := hw
          obtain ⟨x2997, hx, rfl⟩ := map_get hj
          have hw := cW_forR hx hw
          have hw : cW (F_law_b4 ((1 + (itD (v2307) (0)))) ((itD ([(1 + (itD (v2307) (1))), 2]) ((itD (v2307) (0))))) ((⟨v2407.number, v2407.kind, v2407.level, v2407.store, v2407.refs, v2407.weight, v2407.layer, v2407.shown, v2407.edge⟩ : St_PictureHeader)) (grid_2836) (kept_2839) (reader_2842) (twin_2843) (x2997)) _ EE := hw
          unfold F_law_b4 at hw
          obtain ⟨K3002, hK3003, hw⟩ := cW_name hw
          refine ⟨_, rfl, .inl ⟨_, rfl, ?_⟩⟩
          refine ⟨_, _, rfl, rfl, (show (0 : Int) < 4 by decide), _, rfl, .inl ⟨_, rfl, ?_⟩⟩
          refine ⟨_, _, rfl, rfl, (divW_lit (by decide) (by decide)), _, _, rfl, rfl, (show (0 : Int) < 4 by decide), (by show 2 ≤ sizeLine; decide), fun p3005 n3006 => ?_⟩
          generalize g3007 : upd H2933 p3005 _ = H3008
          obtain ⟨e3009, h3010⟩ := gen_new n3006 g3007
          have h3011 : H3008 p3005 = some (.tup [V.int ((x2997 % 4)), V.int (((x2997 / 4) % 4))]) := h3010
          have fr3012 := S2934.free n3006
          obtain ⟨G3014, eG3015, hg3016, S3013⟩ := S2934.grow n3006 e3009 h3011 fr3012
          have h3017 := (e3009 _ _ h2949)
          have h3018 := (e3009 _ _ h2950)
          have h3019 := (e3009 _ _ h2951)
          have h3020 := (e3009 _ _ h2952)
          have h3021 := (e3009 _ _ h2944)
          have w3022 : OwAll G3014 H3008 L2841 (vs2840) ((kept_2839 : (List (List PyData))).map (oL (oF encD))) := (OwAll.mono eG3015 keeps_refl (OwAll.mono (Same.refl _) (keeps_same e3009) w2994))
          refine ⟨_, rfl, _, rfl, _, rfl, _, rfl, _, rfl, rfl, rfl, G3014, _, _, _, _, _, _, twin_2843, _, _, L2841, kept_2839, _, _, _, _, rfl, S3013.sG, (S3013.gno (all_cons (.tail _ (.tail _ (.tail _ (.tail _ (.tail _ (.tail _ (.tail _ (.tail _ (.tail _ (.tail _ (.tail _ (.tail _ (.tail _ (.tail _ (.head _))))))))))))))) (all_cons (.tail _ (.tail _ (.tail _ (.tail _ (.tail _ (.tail _ (.tail _ (.tail _ (.tail _ (.tail _ (.tail _ (.tail _ (.tail _ (.tail _ (.tail _ (.head _)))))))))))))))) (all_cons (.tail _ (.tail _ (.tail _ (.tail _ (.tail _ (.tail _ (.tail _ (.tail _ (.tail _ (.tail _ (.tail _ (.tail _ (.tail _ (.tail _ (.tail _ (.tail _ (.head _))))))))))))))))) (all_cons (.tail _ (.tail _ (.tail _ (.tail _ (.tail _ (.tail _ (.tail _ (.tail _ (.tail _ (.tail _ (.tail _ (.tail _ (.tail _ (.tail _ (.tail _ (.tail _ (.tail _ (.head _)))))))))))))))))) all_nil))))), h3017, h3018, h3019, h3020, ne2800, (ne_of_none h2794 n2805).symm, ((hideL_out (ni4 (ne_of_none ((SameXs.of x2793) _ _ (e2784 _ _ (e2772 _ _ ((SameXs.of x2764) _ _ (e2755 _ _ ((SameXs.of x2738) _ _ (e2729 _ _ (e2717 _ _ h2692)) (ni1 (ne_of_none (e2717 _ _ h2692) n2724)))) (ni1 (ne_of_none ((SameXs.of x2738) _ _ (e2729 _ _ (e2717 _ _ h2692)) (ni1 (ne_of_none (e2717 _ _ h2692) n2724))) n2750))))) (ni1 (ne_of_none (e2772 _ _ ((SameXs.of x2764) _ _ (e2755 _ _ ((SameXs.of x2738) _ _ (e2729 _ _ (e2717 _ _ h2692)) (ni1 (ne_of_none (e2717 _ _ h2692) n2724)))) (ni1 (ne_of_none ((SameXs.of x2738) _ _ (e2729 _ _ (e2717 _ _ h2692)) (ni1 (ne_of_none (e2717 _ _ h2692) n2724))) n2750)))) n2779))) n2805) (ne_of_none (e2772 _ _ ((SameXs.of x2764) _ _ (e2755 _ _ ((SameXs.of x2738) _ _ (e2729 _ _ (e2717 _ _ h2692)) (ni1 (ne_of_none (e2717 _ _ h2692) n2724)))) (ni1 (ne_of_none ((SameXs.of x2738) _ _ (e2729 _ _ (e2717 _ _ h2692)) (ni1 (ne_of_none (e2717 _ _ h2692) n2724))) n2750)))) n2779) (ne_of_none (e2784 _ _ (e2772 _ _ ((SameXs.of x2764) _ _ (e2755 _ _ ((SameXs.of x2738) _ _ (e2729 _ _ (e2717 _ _ h2692)) (ni1 (ne_of_none (e2717 _ _ h2692) n2724)))) (ni1 (ne_of_none ((SameXs.of x2738) _ _ (e2729 _ _ (e2717 _ _ h2692)) (ni1 (ne_of_none (e2717 _ _ h2692) n2724))) n2750))))) n2798) (ne_of_none (e2784 _ _ (e2772 _ _ ((SameXs.of x2764) _ _ (e2755 _ _ ((SameXs.of x2738) _ _ (e2729 _ _ (e2717 _ _ h2692)) (ni1 (ne_of_none (e2717 _ _ h2692) n2724)))) (ni1 (ne_of_none ((SameXs.of x2738) _ _ (e2729 _ _ (e2717 _ _ h2692)) (ni1 (ne_of_none (e2717 _ _ h2692) n2724))) n2750))))) n2799))).trans h3021), (OwAll.mono (Same.refl _) (keeps_hide (((fun b hb => (nm_cons (ne2988 b hb) (nm_cons (ne2989 b hb) (nm_cons (ne2990 b hb) (nm_cons (ne2991 b hb) nm_nil))))) : ∀ b ∈ L2841, b ∉ [x2803, x2777, l2790, l2791]))) w3022), (Rp.mono (S3013.hid (all_cons (.tail _ (.tail _ (.tail _ (.tail _ (.tail _ (.tail _ (.tail _ (.tail _ (.tail _ (.tail _ (.tail _ (.tail _ (.tail _ (.tail _ (.head _))))))))))))))) (all_cons (.tail _ (.tail _ (.tail _ (.tail _ (.tail _ (.tail _ (.tail _ (.tail _ (.tail _ (.tail _ (.tail _ (.tail _ (.tail _ (.tail _ (.tail _ (.head _)))))))))))))))) (all_cons (.tail _ (.tail _ (.tail _ (.tail _ (.tail _ (.tail _ (.tail _ (.tail _ (.tail _ (.tail _ (.tail _ (.tail _ (.tail _ (.tail _ (.tail _ (.tail _ (.head _))))))))))))))))) (all_cons (.tail _ (.tail _ (.tail _ (.tail _ (.tail _ (.tail _ (.tail _ (.tail _ (.tail _ (.tail _ (.tail _ (.tail _ (.tail _ (.tail _ (.tail _ (.tail _ (.tail _ (.head _)))))))))))))))))) all_nil))))) (rp_mk2 hg3016 (.int _) (.int _))), cW_call hw (fun v3023 hw H3024 x3025 h3027 h3028 h3029 h3030 v3031 G3032 eG3033 sG3034 hn3035 r3036 => ?_) (fun e he => (hE e he).elim)⟩
          have S3026 := S3013.mutstep x3025 (all_cons (.tail _ (.tail _ (.tail _ (.tail _ (.tail _ (.tail _ (.tail _ (.tail _ (.tail _ (.tail _ (.tail _ (.tail _ (.tail _ (.tail _ (.head _))))))))))))))) (all_cons (.tail _ (.tail _ (.tail _ (.tail _ (.tail _ (.tail _ (.tail _ (.tail _ (.tail _ (.tail _ (.tail _ (.tail _ (.tail _ (.tail _ (.tail _ (.head _)))))))))))))))) (all_cons (.tail _ (.tail _ (.tail _ (.tail _ (.tail _ (.tail _ (.tail _ (.tail _ (.tail _ (.tail _ (.tail _ (.tail _ (.tail _ (.tail _ (.tail _ (.tail _ (.head _))))))))))))))))) (all_cons (.tail _ (.tail _ (.tail _ (.tail _ (.tail _ (.tail _ (.tail _ (.tail _ (.tail _ (.tail _ (.tail _ (.tail _ (.tail _ (.tail _ (.tail _ (.tail _ (.tail _ (.head _)))))))))))))))))) all_nil)))) (all_cons (some_ne h3027) (all_cons (some_ne h3028) (all_cons (some_ne h3029) (all_cons (some_ne h3030) all_nil)))) eG3033 sG3034 hn3035
          obtain ⟨a3037, v3039, v3040, v3041, v3042, rfl, h3038, r3043, r3044, r3045, r3046⟩ := rp_tup4 r3036
          obtain rfl := rp_int r3043
          obtain rfl := rp_int r3044
          have h3047 := (x3025 _ _ (e3009 _ _ h2945) (ni4 (ne_of_none ((SameXs.of x2793) _ _ (e2784 _ _ (e2772 _ _ h2765)) (ni1 (ne_of_none (e2772 _ _ h2765) n2779))) n2805) (ne_of_none (e2772 _ _ h2765) n2779) (ne_of_none (e2784 _ _ (e2772 _ _ h2765)) n2798) (ne_of_none (e2784 _ _ (e2772 _ _ h2765)) n2799)))
          have h3048 := (x3025 _ _ (e3009 _ _ h2946) (ni4 (ne_of_none ((SameXs.of x2793) _ _ (e2784 _ _ (e2772 _ _ ((SameXs.of x2764) _ _ h2759 (ni1 (ne_of_none h2739 n2750))))) (ni1 (ne_of_none (e2772 _ _ ((SameXs.of x2764) _ _ h2759 (ni1 (ne_of_none h2739 n2750)))) n2779))) n2805) (ne_of_none (e2772 _ _ ((SameXs.of x2764) _ _ h2759 (ni1 (ne_of_none h2739 n2750)))) n2779) (ne_of_none (e2784 _ _ (e2772 _ _ ((SameXs.of x2764) _ _ h2759 (ni1 (ne_of_none h2739 n2750))))) n2798) (ne_of_none (e2784 _ _ (e2772 _ _ ((SameXs.of x2764) _ _ h2759 (ni1 (ne_of_none h2739 n2750))))) n2799)))
          have h3049 := (x3025 _ _ (e3009 _ _ h2947) (ni4 (ne_of_none ((SameXs.of x2793) _ _ (e2784 _ _ (e2772 _ _ ((SameXs.of x2764) _ _ h2760 (ni1 (ne_of_none h2741 n2750))))) (ni1 (ne_of_none (e2772 _ _ ((SameXs.of x2764) _ _ h2760 (ni1 (ne_of_none h2741 n2750)))) n2779))) n2805) (ne_of_none (e2772 _ _ ((SameXs.of x2764) _ _ h2760 (ni1 (ne_of_none h2741 n2750)))) n2779) (ne_of_none (e2784 _ _ (e2772 _ _ ((SameXs.of x2764) _ _ h2760 (ni1 (ne_of_none h2741 n2750))))) n2798) (ne_of_none (e2784 _ _ (e2772 _ _ ((SameXs.of x2764) _ _ h2760 (ni1 (ne_of_none h2741 n2750))))) n2799)))
          have h3050 := (x3025 _ _ (e3009 _ _ h2948) (ni4 (ne_of_none ((SameXs.of x2793) _ _ (e2784 _ _ (e2772 _ _ ((SameXs.of x2764) _ _ h2761 (ni1 (ne_of_none h2742 n2750))))) (ni1 (ne_of_none (e2772 _ _ ((SameXs.of x2764) _ _ h2761 (ni1 (ne_of_none h2742 n2750)))) n2779))) n2805) (ne_of_none (e2772 _ _ ((SameXs.of x2764) _ _ h2761 (ni1 (ne_of_none h2742 n2750)))) n2779) (ne_of_none (e2784 _ _ (e2772 _ _ ((SameXs.of x2764) _ _ h2761 (ni1 (ne_of_none h2742 n2750))))) n2798) (ne_of_none (e2784 _ _ (e2772 _ _ ((SameXs.of x2764) _ _ h2761 (ni1 (ne_of_none h2742 n2750))))) n2799)))
          have h3051 := (x3025 _ _ (e3009 _ _ h2938) (ni4 (ne_of_none ((SameXs.of x2793) _ _ (e2784 _ _ (e2772 _ _ ((SameXs.of x2764) _ _ (e2755 _ _ ((SameXs.of x2738) _ _ (e2729 _ _ (e2717 _ _ h2705)) (ni1 (ne_of_none (e2717 _ _ h2705) n2724)))) (ni1 (ne_of_none ((SameXs.of x2738) _ _ (e2729 _ _ (e2717 _ _ h2705)) (ni1 (ne_of_none (e2717 _ _ h2705) n2724))) n2750))))) (ni1 (ne_of_none (e2772 _ _ ((SameXs.of x2764) _ _ (e2755 _ _ ((SameXs.of x2738) _ _ (e2729 _ _ (e2717 _ _ h2705)) (ni1 (ne_of_none (e2717 _ _ h2705) n2724)))) (ni1 (ne_of_none ((SameXs.of x2738) _ _ (e2729 _ _ (e2717 _ _ h2705)) (ni1 (ne_of_none (e2717 _ _ h2705) n2724))) n2750)))) n2779))) n2805) (ne_of_none (e2772 _ _ ((SameXs.of x2764) _ _ (e2755 _ _ ((SameXs.of x2738) _ _ (e2729 _ _ (e2717 _ _ h2705)) (ni1 (ne_of_none (e2717 _ _ h2705) n2724)))) (ni1 (ne_of_none ((SameXs.of x2738) _ _ (e2729 _ _ (e2717 _ _ h2705)) (ni1 (ne_of_none (e2717 _ _ h2705) n2724))) n2750)))) n2779) (ne_of_none (e2784 _ _ (e2772 _ _ ((SameXs.of x2764) _ _ (e2755 _ _ ((SameXs.of x2738) _ _ (e2729 _ _ (e2717 _ _ h2705)) (ni1 (ne_of_none (e2717 _ _ h2705) n2724)))) (ni1 (ne_of_none ((SameXs.of x2738) _ _ (e2729 _ _ (e2717 _ _ h2705)) (ni1 (ne_of_none (e2717 _ _ h2705) n2724))) n2750))))) n2798) (ne_of_none (e2784 _ _ (e2772 _ _ ((SameXs.of x2764) _ _ (e2755 _ _ ((SameXs.of x2738) _ _ (e2729 _ _ (e2717 _ _ h2705)) (ni1 (ne_of_none (e2717 _ _ h2705) n2724)))) (ni1 (ne_of_none ((SameXs.of x2738) _ _ (e2729 _ _ (e2717 _ _ h2705)) (ni1 (ne_of_none (e2717 _ _ h2705) n2724))) n2750))))) n2799)))
          have h3052 := (x3025 _ _ (e3009 _ _ h2939) (ni4 (ne_of_none ((SameXs.of x2793) _ _ (e2784 _ _ (e2772 _ _ ((SameXs.of x2764) _ _ (e2755 _ _ ((SameXs.of x2738) _ _ (e2729 _ _ (e2717 _ _ h2706)) (ni1 (ne_of_none (e2717 _ _ h2706) n2724)))) (ni1 (ne_of_none ((SameXs.of x2738) _ _ (e2729 _ _ (e2717 _ _ h2706)) (ni1 (ne_of_none (e2717 _ _ h2706) n2724))) n2750))))) (ni1 (ne_of_none (e2772 _ _ ((SameXs.of x2764) _ _ (e2755 _ _ ((SameXs.of x2738) _ _ (e2729 _ _ (e2717 _ _ h2706)) (ni1 (ne_of_none (e2717 _ _ h2706) n2724)))) (ni1 (ne_of_none ((SameXs.of x2738) _ _ (e2729 _ _ (e2717 _ _ h2706)) (ni1 (ne_of_none (e2717 _ _ h2706) n2724))) n2750)))) n2779))) n2805) (ne_of_none (e2772 _ _ ((SameXs.of x2764) _ _ (e2755 _ _ ((SameXs.of x2738) _ _ (e2729 _ _ (e2717 _ _ h2706)) (ni1 (ne_of_none (e2717 _ _ h2706) n2724)))) (ni1 (ne_of_none ((SameXs.of x2738) _ _ (e2729 _ _ (e2717 _ _ h2706)) (ni1 (ne_of_none (e2717 _ _ h2706) n2724))) n2750)))) n2779) (ne_of_none (e2784 _ _ (e2772 _ _ ((SameXs.of x2764) _ _ (e2755 _ _ ((SameXs.of x2738) _ _ (e2729 _ _ (e2717 _ _ h2706)) (ni1 (ne_of_none (e2717 _ _ h2706) n2724)))) (ni1 (ne_of_none ((SameXs.of x2738) _ _ (e2729 _ _ (e2717 _ _ h2706)) (ni1 (ne_of_none (e2717 _ _ h2706) n2724))) n2750))))) n2798) (ne_of_none (e2784 _ _ (e2772 _ _ ((SameXs.of x2764) _ _ (e2755 _ _ ((SameXs.of x2738) _ _ (e2729 _ _ (e2717 _ _ h2706)) (ni1 (ne_of_none (e2717 _ _ h2706) n2724)))) (ni1 (ne_of_none ((SameXs.of x2738) _ _ (e2729 _ _ (e2717 _ _ h2706)) (ni1 (ne_of_none (e2717 _ _ h2706) n2724))) n2750))))) n2799)))
          have h3053 := (x3025 _ _ (e3009 _ _ h2940) (ni4 (ne_of_none ((SameXs.of x2793) _ _ (e2784 _ _ (e2772 _ _ ((SameXs.of x2764) _ _ (e2755 _ _ ((SameXs.of x2738) _ _ (e2729 _ _ (e2717 _ _ h2707)) (ni1 (ne_of_none (e2717 _ _ h2707) n2724)))) (ni1 (ne_of_none ((SameXs.of x2738) _ _ (e2729 _ _ (e2717 _ _ h2707)) (ni1 (ne_of_none (e2717 _ _ h2707) n2724))) n2750))))) (ni1 (ne_of_none (e2772 _ _ ((SameXs.of x2764) _ _ (e2755 _ _ ((SameXs.of x2738) _ _ (e2729 _ _ (e2717 _ _ h2707)) (ni1 (ne_of_none (e2717 _ _ h2707) n2724)))) (ni1 (ne_of_none ((SameXs.of x2738) _ _ (e2729 _ _ (e2717 _ _ h2707)) (ni1 (ne_of_none (e2717 _ _ h2707) n2724))) n2750)))) n2779))) n2805) (ne_of_none (e2772 _ _ ((SameXs.of x2764) _ _ (e2755 _ _ ((SameXs.of x2738) _ _ (e2729 _ _ (e2717 _ _ h2707)) (ni1 (ne_of_none (e2717 _ _ h2707) n2724)))) (ni1 (ne_of_none ((SameXs.of x2738) _ _ (e2729 _ _ (e2717 _ _ h2707)) (ni1 (ne_of_none (e2717 _ _ h2707) n2724))) n2750)))) n2779) (ne_of_none (e2784 _ _ (e2772 _ _ ((SameXs.of x2764) _ _ (e2755 _ _ ((SameXs.of x2738) _ _ (e2729 _ _ (e2717 _ _ h2707)) (ni1 (ne_of_none (e2717 _ _ h2707) n2724)))) (ni1 (ne_of_none ((SameXs.of x2738) _ _ (e2729 _ _ (e2717 _ _ h2707)) (ni1 (ne_of_none (e2717 _ _ h2707) n2724))) n2750))))) n2798) (ne_of_none (e2784 _ _ (e2772 _ _ ((SameXs.of x2764) _ _ (e2755 _ _ ((SameXs.of x2738) _ _ (e2729 _ _ (e2717 _ _ h2707)) (ni1 (ne_of_none (e2717 _ _ h2707) n2724)))) (ni1 (ne_of_none ((SameXs.of x2738) _ _ (e2729 _ _ (e2717 _ _ h2707)) (ni1 (ne_of_none (e2717 _ _ h2707) n2724))) n2750))))) n2799)))
          have h3054 := (x3025 _ _ (e3009 _ _ h2942) (ni4 (ne_of_none ((SameXs.of x2793) _ _ (e2784 _ _ (e2772 _ _ ((SameXs.of x2764) _ _ (e2755 _ _ ((SameXs.of x2738) _ _ (e2729 _ _ (e2717 _ _ h2709)) (ni1 (ne_of_none (e2717 _ _ h2709) n2724)))) (ni1 (ne_of_none ((SameXs.of x2738) _ _ (e2729 _ _ (e2717 _ _ h2709)) (ni1 (ne_of_none (e2717 _ _ h2709) n2724))) n2750))))) (ni1 (ne_of_none (e2772 _ _ ((SameXs.of x2764) _ _ (e2755 _ _ ((SameXs.of x2738) _ _ (e2729 _ _ (e2717 _ _ h2709)) (ni1 (ne_of_none (e2717 _ _ h2709) n2724)))) (ni1 (ne_of_none ((SameXs.of x2738) _ _ (e2729 _ _ (e2717 _ _ h2709)) (ni1 (ne_of_none (e2717 _ _ h2709) n2724))) n2750)))) n2779))) n2805) (ne_of_none (e2772 _ _ ((SameXs.of x2764) _ _ (e2755 _ _ ((SameXs.of x2738) _ _ (e2729 _ _ (e2717 _ _ h2709)) (ni1 (ne_of_none (e2717 _ _ h2709) n2724)))) (ni1 (ne_of_none ((SameXs.of x2738) _ _ (e2729 _ _ (e2717 _ _ h2709)) (ni1 (ne_of_none (e2717 _ _ h2709) n2724))) n2750)))) n2779) (ne_of_none (e2784 _ _ (e2772 _ _ ((SameXs.of x2764) _ _ (e2755 _ _ ((SameXs.of x2738) _ _ (e2729 _ _ (e2717 _ _ h2709)) (ni1 (ne_of_none (e2717 _ _ h2709) n2724)))) (ni1 (ne_of_none ((SameXs.of x2738) _ _ (e2729 _ _ (e2717 _ _ h2709)) (ni1 (ne_of_none (e2717 _ _ h2709) n2724))) n2750))))) n2798) (ne_of_none (e2784 _ _ (e2772 _ _ ((SameXs.of x2764) _ _ (e2755 _ _ ((SameXs.of x2738) _ _ (e2729 _ _ (e2717 _ _ h2709)) (ni1 (ne_of_none (e2717 _ _ h2709) n2724)))) (ni1 (ne_of_none ((SameXs.of x2738) _ _ (e2729 _ _ (e2717 _ _ h2709)) (ni1 (ne_of_none (e2717 _ _ h2709) n2724))) n2750))))) n2799)))
          have h3055 := (x3025 _ _ (e3009 _ _ h2943) (ni4 (ne_of_none ((SameXs.of x2793) _ _ (e2784 _ _ (e2772 _ _ ((SameXs.of x2764) _ _ (e2755 _ _ ((SameXs.of x2738) _ _ (e2729 _ _ (e2717 _ _ h2710)) (ni1 (ne_of_none (e2717 _ _ h2710) n2724)))) (ni1 (ne_of_none ((SameXs.of x2738) _ _ (e2729 _ _ (e2717 _ _ h2710)) (ni1 (ne_of_none (e2717 _ _ h2710) n2724))) n2750))))) (ni1 (ne_of_none (e2772 _ _ ((SameXs.of x2764) _ _ (e2755 _ _ ((SameXs.of x2738) _ _ (e2729 _ _ (e2717 _ _ h2710)) (ni1 (ne_of_none (e2717 _ _ h2710) n2724)))) (ni1 (ne_of_none ((SameXs.of x2738) _ _ (e2729 _ _ (e2717 _ _ h2710)) (ni1 (ne_of_none (e2717 _ _ h2710) n2724))) n2750)))) n2779))) n2805) (ne_of_none (e2772 _ _ ((SameXs.of x2764) _ _ (e2755 _ _ ((SameXs.of x2738) _ _ (e2729 _ _ (e2717 _ _ h2710)) (ni1 (ne_of_none (e2717 _ _ h2710) n2724)))) (ni1 (ne_of_none ((SameXs.of x2738) _ _ (e2729 _ _ (e2717 _ _ h2710)) (ni1 (ne_of_none (e2717 _ _ h2710) n2724))) n2750)))) n2779) (ne_of_none (e2784 _ _ (e2772 _ _ ((SameXs.of x2764) _ _ (e2755 _ _ ((SameXs.of x2738) _ _ (e2729 _ _ (e2717 _ _ h2710)) (ni1 (ne_of_none (e2717 _ _ h2710) n2724)))) (ni1 (ne_of_none ((SameXs.of x2738) _ _ (e2729 _ _ (e2717 _ _ h2710)) (ni1 (ne_of_none (e2717 _ _ h2710) n2724))) n2750))))) n2798) (ne_of_none (e2784 _ _ (e2772 _ _ ((SameXs.of x2764) _ _ (e2755 _ _ ((SameXs.of x2738) _ _ (e2729 _ _ (e2717 _ _ h2710)) (ni1 (ne_of_none (e2717 _ _ h2710) n2724)))) (ni1 (ne_of_none ((SameXs.of x2738) _ _ (e2729 _ _ (e2717 _ _ h2710)) (ni1 (ne_of_none (e2717 _ _ h2710) n2724))) n2750))))) n2799)))
          have w3056 : OwAll G3032 H3024 L2838 (vs2837) ((grid_2836.lines : (List (List PyData))).map (oL (oF encD))) := (OwAll.mono (Same.trans eG3015 eG3033) keeps_refl (OwAll.mono (Same.refl _) (keeps_muts x3025 ((fun b hb => (nm_cons (ne2968 b hb) (nm_cons (ne2969 b hb) (nm_cons (ne2970 b hb) (nm_cons (ne2971 b hb) nm_nil))))) : ∀ b ∈ L2838, b ∉ [x2803, x2777, l2790, l2791])) (OwAll.mono (Same.refl _) (keeps_same e3009) w2993)))
          refine ⟨_, rfl, _, rfl, _, rfl, _, rfl, _, _, _, _, rfl, rfl, (SqT.of (S3026.sG _ _ (eG3033 _ _ hg3016))), rfl, _, rfl, _, _, _, _, rfl, rfl, (SqT.of (S3026.sG _ _ (eG3033 _ _ hg3016))), rfl, rfl, rfl, G3032, _, _, _, _, _, _, reader_2842, _, _, _, _, (⟨v2407.number, v2407.kind, v2407.level, v2407.store, v2407.refs, v2407.weight, v2407.layer, v2407.shown, v2407.edge⟩ : St_PictureHeader), _, _, _, _, L2838, grid_2836, _, _, rfl, S3026.sG, (S3026.gno (all_cons (.tail _ (.tail _ (.tail _ (.tail _ (.tail _ (.tail _ (.tail _ (.tail _ (.tail _ (.tail _ (.head _))))))))))) (all_cons (.tail _ (.tail _ (.tail _ (.tail _ (.tail _ (.tail _ (.tail _ (.tail _ (.tail _ (.tail _ (.tail _ (.head _)))))))))))) (all_cons (.tail _ (.tail _ (.tail _ (.tail _ (.tail _ (.tail _ (.tail _ (.tail _ (.tail _ (.tail _ (.tail _ (.tail _ (.head _))))))))))))) (all_cons (.tail _ (.tail _ (.tail _ (.tail _ (.tail _ (.tail _ (.tail _ (.tail _ (.tail _ (.tail _ (.tail _ (.tail _ (.tail _ (.head _)))))))))))))) all_nil))))), h3047, h3048, h3049, h3050, ne2745, (ne_of_none h2739 n2750).symm, ((hideL_out (ni4 (ne_of_none ((SameXs.of x2738) _ _ (e2729 _ _ (e2717 _ _ h2705)) (ni1 (ne_of_none (e2717 _ _ h2705) n2724))) n2750) (ne_of_none (e2717 _ _ h2705) n2724) (ne_of_none (e2729 _ _ (e2717 _ _ h2705)) n2743) (ne_of_none (e2729 _ _ (e2717 _ _ h2705)) n2744))).trans h3051), ((hideL_out (ni4 (ne_of_none ((SameXs.of x2738) _ _ (e2729 _ _ (e2717 _ _ h2706)) (ni1 (ne_of_none (e2717 _ _ h2706) n2724))) n2750) (ne_of_none (e2717 _ _ h2706) n2724) (ne_of_none (e2729 _ _ (e2717 _ _ h2706)) n2743) (ne_of_none (e2729 _ _ (e2717 _ _ h2706)) n2744))).trans h3052), ((hideL_out (ni4 (ne_of_none ((SameXs.of x2738) _ _ (e2729 _ _ (e2717 _ _ h2707)) (ni1 (ne_of_none (e2717 _ _ h2707) n2724))) n2750) (ne_of_none (e2717 _ _ h2707) n2724) (ne_of_none (e2729 _ _ (e2717 _ _ h2707)) n2743) (ne_of_none (e2729 _ _ (e2717 _ _ h2707)) n2744))).trans h3053), ((hideL_out (ni4 (ne_of_none ((SameXs.of x2738) _ _ (e2729 _ _ (e2717 _ _ h2709)) (ni1 (ne_of_none (e2717 _ _ h2709) n2724))) n2750) (ne_of_none (e2717 _ _ h2709) n2724) (ne_of_none (e2729 _ _ (e2717 _ _ h2709)) n2743) (ne_of_none (e2729 _ _ (e2717 _ _ h2709)) n2744))).trans h3054), ((hideL_out (ni4 (ne_of_none ((SameXs.of x2738) _ _ (e2729 _ _ (e2717 _ _ h2710)) (ni1 (ne_of_none (e2717 _ _ h2710) n2724))) n2750) (ne_of_none (e2717 _ _ h2710) n2724) (ne_of_none (e2729 _ _ (e2717 _ _ h2710)) n2743) (ne_of_none (e2729 _ _ (e2717 _ _ h2710)) n2744))).trans h3055), (OwAll.mono (Same.refl _) (keeps_hide (((fun b hb => (nm_cons (ne2964 b hb) (nm_cons (ne2965 b hb) (nm_cons (ne2966 b hb) (nm_cons (ne2967 b hb) nm_nil))))) : ∀ b ∈ L2838, b ∉ [x2748, x2722, l2735, l2736]))) w3056), cW_call hw (fun v3057 hw H3058 x3059 h3061 h3062 h3063 h3064 v3065 G3066 eG3067 sG3068 hn3069 r3070 => ?_) (fun e he => (hE e he).elim)⟩
          have S3060 := S3026.mutstep x3059 (all_cons (.tail _ (.tail _ (.tail _ (.tail _ (.tail _ (.tail _ (.tail _ (.tail _ (.tail _ (.tail _ (.head _))))))))))) (all_cons (.tail _ (.tail _ (.tail _ (.tail _ (.tail _ (.tail _ (.tail _ (.tail _ (.tail _ (.tail _ (.tail _ (.head _)))))))))))) (all_cons (.tail _ (.tail _ (.tail _ (.tail _ (.tail _ (.tail _ (.tail _ (.tail _ (.tail _ (.tail _ (.tail _ (.tail _ (.head _))))))))))))) (all_cons (.tail _ (.tail _ (.tail _ (.tail _ (.tail _ (.tail _ (.tail _ (.tail _ (.tail _ (.tail _ (.tail _ (.tail _ (.tail _ (.head _)))))))))))))) all_nil)))) (all_cons (some_ne h3061) (all_cons (some_ne h3062) (all_cons (some_ne h3063) (all_cons (some_ne h3064) all_nil)))) eG3067 sG3068 hn3069
          obtain ⟨a3071, v3073, v3074, v3075, v3076, rfl, h3072, r3077, r3078, r3079, r3080⟩ := rp_tup4 r3070
          obtain rfl := rp_int r3077
          obtain rfl := rp_int r3078
          refine ⟨_, rfl, _, rfl, _, rfl, rfl, rfl, G3066, _, _, _, _, rfl, S3060.sG, (Rp.hide_nil (rp_mk4 (S3060.sG _ _ h3072) (.int _) (.int _) (Rp.mono S3060.sG r3079) (Rp.mono S3060.sG r3080))), cW_call hw (fun v3081 hw H3082 e3083 => ?_) (fun e he => (hE e he).elim)⟩
          have S3084 := S3060.same e3083
          refine ⟨_, rfl, ?_⟩
          refine iteBN (fun c3085 => ?_) (fun c3085 => ?_)
          · have hw := cW_negB c3085 hw
            refine iteT ?_
            have hw := cW_ok hw
            have hw := hK3003 (.rt _) hw
            have hw := hK2835 (.rt _) hw
            have hw := cW_ok hw
            exact eq_bl (k _) (hK0 _ hw).symm
          · have hw := cW_pos c3085 hw
            obtain ⟨g3086, hw⟩ := cW_grd hw
            refine ⟨_, rfl, _, rfl, ((encT4 PyData.int PyData.int encD encD) (v3057.1)), ((encT4 PyData.int PyData.int encD encD) (v3023.1)), (rp_mk4 (S3084.sG _ _ h3072) (.int _) (.int _) (Rp.mono S3084.sG r3079) (Rp.mono S3084.sG r3080)), (rp_mk4 (S3084.sG _ _ (eG3067 _ _ h3038)) (.int _) (.int _) (Rp.mono S3084.sG (Rp.mono eG3067 r3045)) (Rp.mono S3084.sG (Rp.mono eG3067 r3046))), g3086, _, rfl, ?_⟩
            refine iteB (fun c3087 => ?_) (fun c3087 => ?_)
            · have hw := cW_pos c3087 hw
              have hw := cW_ok hw
              have hw := hK3003 (.rt _) hw
              have hw := hK2835 (.rt _) hw
              have hw := cW_ok hw
              exact eq_bl (k _) (hK0 _ hw).symm
            · have hw := cW_negB c3087 hw
              have h3088 := (e3083 _ _ (x3059 _ _ h3054 (ni4 (ne_of_none ((SameXs.of x2738) _ _ (e2729 _ _ (e2717 _ _ h2709)) (ni1 (ne_of_none (e2717 _ _ h2709) n2724))) n2750) (ne_of_none (e2717 _ _ h2709) n2724) (ne_of_none (e2729 _ _ (e2717 _ _ h2709)) n2743) (ne_of_none (e2729 _ _ (e2717 _ _ h2709)) n2744))))
              have h3089 := (e3083 _ _ (x3059 _ _ h3055 (ni4 (ne_of_none ((SameXs.of x2738) _ _ (e2729 _ _ (e2717 _ _ h2710)) (ni1 (ne_of_none (e2717 _ _ h2710) n2724))) n2750) (ne_of_none (e2717 _ _ h2710) n2724) (ne_of_none (e2729 _ _ (e2717 _ _ h2710)) n2743) (ne_of_none (e2729 _ _ (e2717 _ _ h2710)) n2744))))
              have w3090 : OwAll G3066 H3082 L2838 (vs2837) ((grid_2836.lines : (List (List PyData))).map (oL (oF encD))) := (OwAll.mono eG3067 keeps_refl (OwAll.mono (Same.refl _) (keeps_same e3083) (OwAll.mono (Same.refl _) (keeps_muts x3059 ((fun b hb => (nm_cons (ne2964 b hb) (nm_cons (ne2965 b hb) (nm_cons (ne2966 b hb) (nm_cons (ne2967 b hb) nm_nil))))) : ∀ b ∈ L2838, b ∉ [x2748, x2722, l2735, l2736])) w3056)))
              refine ⟨_, rfl, _, _, _, rfl, h3088, rfl, _, rfl, _, _, _, _, rfl, rfl, (SqT.of (S3084.sG _ _ (eG3067 _ _ (eG3033 _ _ hg3016)))), rfl, _, rfl, _, _, _, _, rfl, rfl, (SqT.of (S3084.sG _ _ (eG3067 _ _ (eG3033 _ _ hg3016)))), rfl, rfl, rfl, G3066, _, _, _, _, L2838, grid_2836, _, _, rfl, S3084.sG, (hide_nil h3088), (hide_nil h3089), (OwAll.mono (Same.refl _) (keeps_hide (((fun b hb => nm_nil) : ∀ b ∈ L2838, b ∉ []))) w3090), cW_call hw (fun v3091 hw v3094 H3092 G3095 e3093 eG3096 sG3097 hn3098 r3099 => ?_) (fun e he => (hE e he).elim)⟩
              have S3100 := S3084.step e3093 eG3096 sG3097 hn3098
              obtain ⟨g3101, hw⟩ := cW_grd hw
              have w3102 : OwAll G3095 H3092 L2841 (vs2840) ((kept_2839 : (List (List PyData))).map (oL (oF encD))) := (OwAll.mono (Same.trans (Same.trans eG3033 eG3067) eG3096) keeps_refl (OwAll.mono (Same.refl _) (keeps_same e3093) (OwAll.mono (Same.refl _) (keeps_same e3083) (OwAll.mono (Same.refl _) (keeps_muts x3059 ((fun b hb => (nm_cons (ne2984 b hb) (nm_cons (ne2985 b hb) (nm_cons (ne2986 b hb) (nm_cons (ne2987 b hb) nm_nil))))) : ∀ b ∈ L2841, b ∉ [x2748, x2722, l2735, l2736])) (OwAll.mono (Same.refl _) (keeps_muts x3025 ((fun b hb => (nm_cons (ne2988 b hb) (nm_cons (ne2989 b hb) (nm_cons (ne2990 b hb) (nm_cons (ne2991 b hb) nm_nil))))) : ∀ b ∈ L2841, b ∉ [x2803, x2777, l2790, l2791])) w3022)))))
              obtain ⟨v3103, L3104, a3105, w3106, hs3107, up3108, gr3109⟩ := OwAll.partM (k := ((x2997 / 4) % 4)) w3102 g3101
              have h3110 := (e3093 _ _ (e3083 _ _ (x3059 _ _ (x3025 _ _ h3021 (ni4 (ne_of_none ((SameXs.of x2793) _ _ (e2784 _ _ (e2772 _ _ ((SameXs.of x2764) _ _ (e2755 _ _ ((SameXs.of x2738) _ _ (e2729 _ _ (e2717 _ _ h2692)) (ni1 (ne_of_none (e2717 _ _ h2692) n2724)))) (ni1 (ne_of_none ((SameXs.of x2738) _ _ (e2729 _ _ (e2717 _ _ h2692)) (ni1 (ne_of_none (e2717 _ _ h2692) n2724))) n2750))))) (ni1 (ne_of_none (e2772 _ _ ((SameXs.of x2764) _ _ (e2755 _ _ ((SameXs.of x2738) _ _ (e2729 _ _ (e2717 _ _ h2692)) (ni1 (ne_of_none (e2717 _ _ h2692) n2724)))) (ni1 (ne_of_none ((SameXs.of x2738) _ _ (e2729 _ _ (e2717 _ _ h2692)) (ni1 (ne_of_none (e2717 _ _ h2692) n2724))) n2750)))) n2779))) n2805) (ne_of_none (e2772 _ _ ((SameXs.of x2764) _ _ (e2755 _ _ ((SameXs.of x2738) _ _ (e2729 _ _ (e2717 _ _ h2692)) (ni1 (ne_of_none (e2717 _ _ h2692) n2724)))) (ni1 (ne_of_none ((SameXs.of x2738) _ _ (e2729 _ _ (e2717 _ _ h2692)) (ni1 (ne_of_none (e2717 _ _ h2692) n2724))) n2750)))) n2779) (ne_of_none (e2784 _ _ (e2772 _ _ ((SameXs.of x2764) _ _ (e2755 _ _ ((SameXs.of x2738) _ _ (e2729 _ _ (e2717 _ _ h2692)) (ni1 (ne_of_none (e2717 _ _ h2692) n2724)))) (ni1 (ne_of_none ((SameXs.of x2738) _ _ (e2729 _ _ (e2717 _ _ h2692)) (ni1 (ne_of_none (e2717 _ _ h2692) n2724))) n2750))))) n2798) (ne_of_none (e2784 _ _ (e2772 _ _ ((SameXs.of x2764) _ _ (e2755 _ _ ((SameXs.of x2738) _ _ (e2729 _ _ (e2717 _ _ h2692)) (ni1 (ne_of_none (e2717 _ _ h2692) n2724)))) (ni1 (ne_of_none ((SameXs.of x2738) _ _ (e2729 _ _ (e2717 _ _ h2692)) (ni1 (ne_of_none (e2717 _ _ h2692) n2724))) n2750))))) n2799))) (ni4 (ne_of_none ((SameXs.of x2738) _ _ (e2729 _ _ (e2717 _ _ h2692)) (ni1 (ne_of_none (e2717 _ _ h2692) n2724))) n2750) (ne_of_none (e2717 _ _ h2692) n2724) (ne_of_none (e2729 _ _ (e2717 _ _ h2692)) n2743) (ne_of_none (e2729 _ _ (e2717 _ _ h2692)) n2744)))))
              obtain ⟨b3111, vs3112, L3113, rfl, rfl, h3114, w3115, nb3116⟩ := Ow.toList w3106
              obtain ⟨g3117, hw⟩ := cW_grd hw
              obtain ⟨v3118, L3119, a3120, w3121, hs3122, up3123, gr3124⟩ := OwAll.partM (k := (x2997 % 4)) w3115 g3117
              obtain ⟨z3126, r3125⟩ := Ow.toFrz w3121
              obtain ⟨g3127, hw⟩ := cW_grd hw
              refine ⟨_, rfl, _, rfl, _, _, _, _, rfl, rfl, (SqT.of (S3100.sG _ _ (eG3096 _ _ (eG3067 _ _ (eG3033 _ _ hg3016))))), rfl, _, _, _, _, rfl, rfl, (SqL.of h3110), a3105, _, rfl, _, _, _, _, rfl, rfl, (SqT.of (S3100.sG _ _ (eG3096 _ _ (eG3067 _ _ (eG3033 _ _ hg3016))))), rfl, _, _, _, _, rfl, rfl, (SqL.of h3114), a3120, v3091, (itD ((itD (kept_2839) (((x2997 / 4) % 4)))) ((x2997 % 4))), (Rp.mono S3100.sG r3099), (Rp.mono S3100.sG r3125), g3127, _, rfl, ?_⟩
              refine iteB (fun c3128 => ?_) (fun c3128 => ?_)
              · have hw := cW_pos c3128 hw
                have hw := cW_ok hw
                have hw := hK3003 (.rt _) hw
                have hw := hK2835 (.rt _) hw
                have hw := cW_ok hw
                exact eq_bl (k _) (hK0 _ hw).symm
              · have hw := cW_negB c3128 hw
                have h3129 := (e3093 _ _ h3088)
                have h3130 := (e3093 _ _ h3089)
                have w3131 : OwAll G3095 H3092 L2838 (vs2837) ((grid_2836.lines : (List (List PyData))).map (oL (oF encD))) := (OwAll.mono eG3096 keeps_refl (OwAll.mono (Same.refl _) (keeps_same e3093) w3090))
                refine ⟨_, rfl, _, _, _, rfl, h3129, rfl, _, rfl, _, _, _, _, rfl, rfl, (SqT.of (S3100.sG _ _ (eG3096 _ _ (eG3067 _ _ (eG3033 _ _ hg3016))))), rfl, _, rfl, _, _, _, _, rfl, rfl, (SqT.of (S3100.sG _ _ (eG3096 _ _ (eG3067 _ _ (eG3033 _ _ hg3016))))), rfl, _, rfl, rfl, rfl, G3095, _, _, _, _, L2838, grid_2836, _, _, _, ((encT4 PyData.int PyData.int encD encD) (v3057.1)), rfl, S3100.sG, (S3100.gno (all_cons (.tail _ (.tail _ (.tail _ (.tail _ (.tail _ (.tail _ (.tail _ (.head _)))))))) (all_cons (.tail _ (.tail _ (.tail _ (.tail _ (.tail _ (.tail _ (.tail _ (.tail _ (.head _))))))))) (all_app ((fun b hb => (.tail _ (.tail _ (.tail _ (.tail _ (.tail _ (.tail _ (.tail _ (.tail _ (.tail _ (.tail _ (.tail _ (.tail _ (.tail _ (.tail _ (.tail _ (.tail _ (.tail _ (.tail _ (.tail _ (List.mem_append_left _ hb))))))))))))))))))))) : ∀ b ∈ L2838, b ∈ (p2310 :: (x2348 :: (x2332 :: (x2393 :: (l2408 :: (l2409 :: (p2521 :: (x2571 :: (l2583 :: (D2605 :: (x2748 :: (x2722 :: (l2735 :: (l2736 :: (x2803 :: (x2777 :: (l2790 :: (l2791 :: (p2822 :: (L2838 ++ (L2841 ++ [])))))))))))))))))))))) all_nil)))), h3129, h3130, w3131, (ne2961 : ∀ b ∈ L2838, b ≠ x2571), (ne2962 : ∀ b ∈ L2838, b ≠ l2583), (rp_mk4 (eG3096 _ _ h3072) (.int _) (.int _) (Rp.mono eG3096 r3079) (Rp.mono eG3096 r3080)), cW_call hw (fun v3132 hw H3136 G3139 vs3146 L3147 x3137 eG3140 sG3141 hn3142 pm3143 h3144 h3145 hs3148 gl3149 ne3151 ne3152 w3150 => ?_) (fun e he => (hE e he).elim)⟩
                have S3138 : Sep _ _ _ G3139 H3136 (L3147 ++ (p2310 :: (x2348 :: (x2332 :: (x2393 :: (l2408 :: (l2409 :: (p2521 :: (x2571 :: (l2583 :: (D2605 :: (x2748 :: (x2722 :: (l2735 :: (l2736 :: (x2803 :: (x2777 :: (l2790 :: (l2791 :: (p2822 :: (L2841 ++ []))))))))))))))))))))) := Sep.mutgrow S3100 x3137 (all_cons (.tail _ (.tail _ (.tail _ (.tail _ (.tail _ (.tail _ (.tail _ (.head _)))))))) (all_cons (.tail _ (.tail _ (.tail _ (.tail _ (.tail _ (.tail _ (.tail _ (.tail _ (.head _))))))))) (all_app ((fun b hb => (.tail _ (.tail _ (.tail _ (.tail _ (.tail _ (.tail _ (.tail _ (.tail _ (.tail _ (.tail _ (.tail _ (.tail _ (.tail _ (.tail _ (.tail _ (.tail _ (.tail _ (.tail _ (.tail _ (List.mem_append_left _ hb))))))))))))))))))))) : ∀ b ∈ L2838, b ∈ (p2310 :: (x2348 :: (x2332 :: (x2393 :: (l2408 :: (l2409 :: (p2521 :: (x2571 :: (l2583 :: (D2605 :: (x2748 :: (x2722 :: (l2735 :: (l2736 :: (x2803 :: (x2777 :: (l2790 :: (l2791 :: (p2822 :: (L2838 ++ (L2841 ++ [])))))))))))))))))))))) all_nil))) pm3143 eG3140 sG3141 hn3142 (all_app (fun b hb => (hs3148 b hb).elim (fun z => .inl ((((fun b hb => (.tail _ (.tail _ (.tail _ (.tail _ (.tail _ (.tail _ (.tail _ (.tail _ (.tail _ (.tail _ (.tail _ (.tail _ (.tail _ (.tail _ (.tail _ (.tail _ (.tail _ (.tail _ (.tail _ (List.mem_append_left _ hb))))))))))))))))))))) : ∀ b ∈ L2838, b ∈ (p2310 :: (x2348 :: (x2332 :: (x2393 :: (l2408 :: (l2409 :: (p2521 :: (x2571 :: (l2583 :: (D2605 :: (x2748 :: (x2722 :: (l2735 :: (l2736 :: (x2803 :: (x2777 :: (l2790 :: (l2791 :: (p2822 :: (L2838 ++ (L2841 ++ [])))))))))))))))))))))) : ∀ b ∈ L2838, b ∈ (p2310 :: (x2348 :: (x2332 :: (x2393 :: (l2408 :: (l2409 :: (p2521 :: (x2571 :: (l2583 :: (D2605 :: (x2748 :: (x2722 :: (l2735 :: (l2736 :: (x2803 :: (x2777 :: (l2790 :: (l2791 :: (p2822 :: (L2838 ++ (L2841 ++ [])))))))))))))))))))))) b z)) (fun z => .inr ⟨z, gl3149 b hb, OwAll.there w3150 b hb⟩)) (all_cons (.inl (.head _)) (all_cons (.inl (.tail _ (.head _))) (all_cons (.inl (.tail _ (.tail _ (.head _)))) (all_cons (.inl (.tail _ (.tail _ (.tail _ (.head _))))) (all_cons (.inl (.tail _ (.tail _ (.tail _ (.tail _ (.head _)))))) (all_cons (.inl (.tail _ (.tail _ (.tail _ (.tail _ (.tail _ (.head _))))))) (all_cons (.inl (.tail _ (.tail _ (.tail _ (.tail _ (.tail _ (.tail _ (.head _)))))))) (all_cons (.inl (.tail _ (.tail _ (.tail _ (.tail _ (.tail _ (.tail _ (.tail _ (.head _))))))))) (all_cons (.inl (.tail _ (.tail _ (.tail _ (.tail _ (.tail _ (.tail _ (.tail _ (.tail _ (.head _)))))))))) (all_cons (.inl (.tail _ (.tail _ (.tail _ (.tail _ (.tail _ (.tail _ (.tail _ (.tail _ (.tail _ (.head _))))))))))) (all_cons (.inl (.tail _ (.tail _ (.tail _ (.tail _ (.tail _ (.tail _ (.tail _ (.tail _ (.tail _ (.tail _ (.head _)))))))))))) (all_cons (.inl (.tail _ (.tail _ (.tail _ (.tail _ (.tail _ (.tail _ (.tail _ (.tail _ (.tail _ (.tail _ (.tail _ (.head _))))))))))))) (all_cons (.inl (.tail _ (.tail _ (.tail _ (.tail _ (.tail _ (.tail _ (.tail _ (.tail _ (.tail _ (.tail _ (.tail _ (.tail _ (.head _)))))))))))))) (all_cons (.inl (.tail _ (.tail _ (.tail _ (.tail _ (.tail _ (.tail _ (.tail _ (.tail _ (.tail _ (.tail _ (.tail _ (.tail _ (.tail _ (.head _))))))))))))))) (all_cons (.inl (.tail _ (.tail _ (.tail _ (.tail _ (.tail _ (.tail _ (.tail _ (.tail _ (.tail _ (.tail _ (.tail _ (.tail _ (.tail _ (.tail _ (.head _)))))))))))))))) (all_cons (.inl (.tail _ (.tail _ (.tail _ (.tail _ (.tail _ (.tail _ (.tail _ (.tail _ (.tail _ (.tail _ (.tail _ (.tail _ (.tail _ (.tail _ (.tail _ (.head _))))))))))))))))) (all_cons (.inl (.tail _ (.tail _ (.tail _ (.tail _ (.tail _ (.tail _ (.tail _ (.tail _ (.tail _ (.tail _ (.tail _ (.tail _ (.tail _ (.tail _ (.tail _ (.tail _ (.head _)))))))))))))))))) (all_cons (.inl (.tail _ (.tail _ (.tail _ (.tail _ (.tail _ (.tail _ (.tail _ (.tail _ (.tail _ (.tail _ (.tail _ (.tail _ (.tail _ (.tail _ (.tail _ (.tail _ (.tail _ (.head _))))))))))))))))))) (all_cons (.inl (.tail _ (.tail _ (.tail _ (.tail _ (.tail _ (.tail _ (.tail _ (.tail _ (.tail _ (.tail _ (.tail _ (.tail _ (.tail _ (.tail _ (.tail _ (.tail _ (.tail _ (.tail _ (.head _)))))))))))))))))))) (all_app (fun b hb => .inl (((fun b hb => (.tail _ (.tail _ (.tail _ (.tail _ (.tail _ (.tail _ (.tail _ (.tail _ (.tail _ (.tail _ (.tail _ (.tail _ (.tail _ (.tail _ (.tail _ (.tail _ (.tail _ (.tail _ (.tail _ (List.mem_append_right _ (List.mem_append_left _ hb)))))))))))))))))))))) : ∀ b ∈ L2841, b ∈ (p2310 :: (x2348 :: (x2332 :: (x2393 :: (l2408 :: (l2409 :: (p2521 :: (x2571 :: (l2583 :: (D2605 :: (x2748 :: (x2722 :: (l2735 :: (l2736 :: (x2803 :: (x2777 :: (l2790 :: (l2791 :: (p2822 :: (L2838 ++ (L2841 ++ [])))))))))))))))))))))) b hb)) all_nil)))))))))))))))))))))
                obtain ⟨g3155, hw⟩ := cW_grd hw
                have w3156 : OwAll G3139 H3136 L2841 (vs2840) ((kept_2839 : (List (List PyData))).map (oL (oF encD))) := (OwAll.mono eG3140 keeps_refl (OwAll.mono (Same.refl _) (keeps_muts x3137 ((fun b hb => (nm_cons (ne2981 b hb) (nm_cons (ne2982 b hb) (nm_app ((fun b hb => ((nl_symm ne2973) b hb)) b hb) nm_nil)))) : ∀ b ∈ L2841, b ∉ (x2571 :: (l2583 :: (L2838 ++ []))))) w3102))
                obtain ⟨v3157, L3158, a3159, w3160, hs3161, up3162, gr3163⟩ := OwAll.partM (k := ((x2997 / 4) % 4)) w3156 g3155
                have h3164 := (x3137 _ _ h3110 (nm_cons (ne_of_none h2586 n2606).symm (nm_cons (ne_of_none h2588 n2606).symm (nm_app (fun z => ne2963 _ z rfl) nm_nil))))
                obtain ⟨b3165, vs3166, L3167, rfl, rfl, h3168, w3169, nb3170⟩ := Ow.toList w3160
                refine ⟨_, rfl, _, rfl, _, _, _, _, rfl, rfl, (SqT.of (S3138.sG _ _ (eG3140 _ _ (eG3096 _ _ (eG3067 _ _ (eG3033 _ _ hg3016)))))), rfl, _, _, _, _, rfl, rfl, (SqL.of h3164), a3159, _, rfl, ?_⟩
                have r3171 : Rp G3139 (V.ref a3071) (encD ((encT4 PyData.int PyData.int encD encD) (v3057.1))) := (rp_mk4 (eG3140 _ _ (eG3096 _ _ h3072)) (.int _) (.int _) (Rp.mono eG3140 (Rp.mono eG3096 r3079)) (Rp.mono eG3140 (Rp.mono eG3096 r3080)))
                obtain ⟨g3172, hw⟩ := cW_grd hw
                refine ⟨_, rfl, _, rfl, _, _, _, _, rfl, rfl, (SqT.of (S3138.sG _ _ (eG3140 _ _ (eG3096 _ _ (eG3067 _ _ (eG3033 _ _ hg3016)))))), rfl, _, _, _, _, rfl, rfl, h3168, (ixN_len w3169.lenM g3172), ?_⟩
                obtain ⟨L3173, hL3174, w3175⟩ := OwAll.setM w3169 g3172 (Ow.frz r3171) (all_nil : ∀ b ∈ ([] : List Addr), b ∉ L3167)
                generalize g3177 : upd H3136 b3165 _ = H3178
                obtain ⟨x3179, h3180⟩ := gen_mut g3177
                have h3181 : H3178 b3165 = some (.lst ((vs3166).set ((ixN (vs3166).length ((x2997 % 4))).getD 0) ((V.ref a3071)))) := h3180
                have S3182 := S3138.mut1 x3179 ((((fun b hb => (List.mem_append_right _ (.tail _ (.tail _ (.tail _ (.tail _ (.tail _ (.tail _ (.tail _ (.tail _ (.tail _ (.tail _ (.tail _ (.tail _ (.tail _ (.tail _ (.tail _ (.tail _ (.tail _ (.tail _ (.tail _ (List.mem_append_left _ hb)))))))))))))))))))))) : ∀ b ∈ L2841, b ∈ (L3147 ++ (p2310 :: (x2348 :: (x2332 :: (x2393 :: (l2408 :: (l2409 :: (p2521 :: (x2571 :: (l2583 :: (D2605 :: (x2748 :: (x2722 :: (l2735 :: (l2736 :: (x2803 :: (x2777 :: (l2790 :: (l2791 :: (p2822 :: (L2841 ++ [])))))))))))))))))))))) : ∀ b ∈ L2841, b ∈ (L3147 ++ (p2310 :: (x2348 :: (x2332 :: (x2393 :: (l2408 :: (l2409 :: (p2521 :: (x2571 :: (l2583 :: (D2605 :: (x2748 :: (x2722 :: (l2735 :: (l2736 :: (x2803 :: (x2777 :: (l2790 :: (l2791 :: (p2822 :: (L2841 ++ [])))))))))))))))))))))) _ (hs3161 _ List.mem_cons_self)) h3181
                have w3176 : OwAll G3139 H3178 L3173 ((vs3166).set ((ixN (vs3166).length ((x2997 % 4))).getD 0) ((V.ref a3071))) ((setL ((itD (kept_2839) (((x2997 / 4) % 4)))) ((x2997 % 4)) (((encT4 PyData.int PyData.int encD encD) (v3057.1))) : (List PyData)).map (oF encD)) := OwAll.mono (Same.refl _) (keeps_mut x3179 ((fun b hb => ((all_app nb3170 all_nil) : ∀ b ∈ (L3167 ++ ([] : List Addr)), b ≠ b3165) b (hL3174 b hb)) : ∀ b ∈ L3173, b ≠ b3165)) w3175
                obtain ⟨L3183, hL3184, w3185⟩ := gr3163 H3178 _ ([] : List Addr) (b3165 :: L3173) (grow_keeps (Same.refl _) x3179 List.mem_cons_self) (grow_sub hL3174) (all_nil : ∀ b ∈ ([] : List Addr), b ∉ L2841) (Ow.list h3181 w3176 ((fun b hb => ((all_app nb3170 all_nil) : ∀ b ∈ (L3167 ++ ([] : List Addr)), b ≠ b3165) b (hL3174 b hb)) : ∀ b ∈ L3173, b ≠ b3165))
                have w3186 : OwAll G3139 H3178 L3183 (vs2840) ((setL (kept_2839) (((x2997 / 4) % 4)) (setL ((itD (kept_2839) (((x2997 / 4) % 4)))) ((x2997 % 4)) (((encT4 PyData.int PyData.int encD encD) (v3057.1)))) : (List (List PyData))).map (oL (oF encD))) := w3185
                have hw := cW_bnd hw
                have hw := cW_ok hw
                have hw := hK3003 _ hw
                have h3188 := (x3179 _ _ (x3137 _ _ (e3093 _ _ (e3083 _ _ (x3059 _ _ (x3025 _ _ (e3009 _ _ h2935) (ni4 (ne_of_none ((SameXs.of x2793) _ _ (e2784 _ _ (e2772 _ _ ((SameXs.of x2764) _ _ (e2755 _ _ ((SameXs.of x2738) _ _ (e2729 _ _ (e2717 _ _ h2702)) (ni1 (ne_of_none (e2717 _ _ h2702) n2724)))) (ni1 (ne_of_none ((SameXs.of x2738) _ _ (e2729 _ _ (e2717 _ _ h2702)) (ni1 (ne_of_none (e2717 _ _ h2702) n2724))) n2750))))) (ni1 (ne_of_none (e2772 _ _ ((SameXs.of x2764) _ _ (e2755 _ _ ((SameXs.of x2738) _ _ (e2729 _ _ (e2717 _ _ h2702)) (ni1 (ne_of_none (e2717 _ _ h2702) n2724)))) (ni1 (ne_of_none ((SameXs.of x2738) _ _ (e2729 _ _ (e2717 _ _ h2702)) (ni1 (ne_of_none (e2717 _ _ h2702) n2724))) n2750)))) n2779))) n2805) (ne_of_none (e2772 _ _ ((SameXs.of x2764) _ _ (e2755 _ _ ((SameXs.of x2738) _ _ (e2729 _ _ (e2717 _ _ h2702)) (ni1 (ne_of_none (e2717 _ _ h2702) n2724)))) (ni1 (ne_of_none ((SameXs.of x2738) _ _ (e2729 _ _ (e2717 _ _ h2702)) (ni1 (ne_of_none (e2717 _ _ h2702) n2724))) n2750)))) n2779) (ne_of_none (e2784 _ _ (e2772 _ _ ((SameXs.of x2764) _ _ (e2755 _ _ ((SameXs.of x2738) _ _ (e2729 _ _ (e2717 _ _ h2702)) (ni1 (ne_of_none (e2717 _ _ h2702) n2724)))) (ni1 (ne_of_none ((SameXs.of x2738) _ _ (e2729 _ _ (e2717 _ _ h2702)) (ni1 (ne_of_none (e2717 _ _ h2702) n2724))) n2750))))) n2798) (ne_of_none (e2784 _ _ (e2772 _ _ ((SameXs.of x2764) _ _ (e2755 _ _ ((SameXs.of x2738) _ _ (e2729 _ _ (e2717 _ _ h2702)) (ni1 (ne_of_none (e2717 _ _ h2702) n2724)))) (ni1 (ne_of_none ((SameXs.of x2738) _ _ (e2729 _ _ (e2717 _ _ h2702)) (ni1 (ne_of_none (e2717 _ _ h2702) n2724))) n2750))))) n2799))) (ni4 (ne_of_none ((SameXs.of x2738) _ _ (e2729 _ _ (e2717 _ _ h2702)) (ni1 (ne_of_none (e2717 _ _ h2702) n2724))) n2750) (ne_of_none (e2717 _ _ h2702) n2724) (ne_of_none (e2729 _ _ (e2717 _ _ h2702)) n2743) (ne_of_none (e2729 _ _ (e2717 _ _ h2702)) n2744))))) (nm_cons (ne_of_none h2555 n2573) (nm_cons (ne_of_none (e2578 _ _ h2555) n2589) (nm_app (fun z => ne2954 _ z rfl) nm_nil)))) (ne2974 _ (hs3161 _ List.mem_cons_self)).symm)
                have h3189 := (x3179 _ _ (x3137 _ _ (e3093 _ _ (e3083 _ _ (x3059 _ _ (x3025 _ _ (e3009 _ _ h2936) (ni4 (ne_of_none ((SameXs.of x2793) _ _ (e2784 _ _ (e2772 _ _ ((SameXs.of x2764) _ _ (e2755 _ _ ((SameXs.of x2738) _ _ (e2729 _ _ (e2717 _ _ h2703)) (ni1 (ne_of_none (e2717 _ _ h2703) n2724)))) (ni1 (ne_of_none ((SameXs.of x2738) _ _ (e2729 _ _ (e2717 _ _ h2703)) (ni1 (ne_of_none (e2717 _ _ h2703) n2724))) n2750))))) (ni1 (ne_of_none (e2772 _ _ ((SameXs.of x2764) _ _ (e2755 _ _ ((SameXs.of x2738) _ _ (e2729 _ _ (e2717 _ _ h2703)) (ni1 (ne_of_none (e2717 _ _ h2703) n2724)))) (ni1 (ne_of_none ((SameXs.of x2738) _ _ (e2729 _ _ (e2717 _ _ h2703)) (ni1 (ne_of_none (e2717 _ _ h2703) n2724))) n2750)))) n2779))) n2805) (ne_of_none (e2772 _ _ ((SameXs.of x2764) _ _ (e2755 _ _ ((SameXs.of x2738) _ _ (e2729 _ _ (e2717 _ _ h2703)) (ni1 (ne_of_none (e2717 _ _ h2703) n2724)))) (ni1 (ne_of_none ((SameXs.of x2738) _ _ (e2729 _ _ (e2717 _ _ h2703)) (ni1 (ne_of_none (e2717 _ _ h2703) n2724))) n2750)))) n2779) (ne_of_none (e2784 _ _ (e2772 _ _ ((SameXs.of x2764) _ _ (e2755 _ _ ((SameXs.of x2738) _ _ (e2729 _ _ (e2717 _ _ h2703)) (ni1 (ne_of_none (e2717 _ _ h2703) n2724)))) (ni1 (ne_of_none ((SameXs.of x2738) _ _ (e2729 _ _ (e2717 _ _ h2703)) (ni1 (ne_of_none (e2717 _ _ h2703) n2724))) n2750))))) n2798) (ne_of_none (e2784 _ _ (e2772 _ _ ((SameXs.of x2764) _ _ (e2755 _ _ ((SameXs.of x2738) _ _ (e2729 _ _ (e2717 _ _ h2703)) (ni1 (ne_of_none (e2717 _ _ h2703) n2724)))) (ni1 (ne_of_none ((SameXs.of x2738) _ _ (e2729 _ _ (e2717 _ _ h2703)) (ni1 (ne_of_none (e2717 _ _ h2703) n2724))) n2750))))) n2799))) (ni4 (ne_of_none ((SameXs.of x2738) _ _ (e2729 _ _ (e2717 _ _ h2703)) (ni1 (ne_of_none (e2717 _ _ h2703) n2724))) n2750) (ne_of_none (e2717 _ _ h2703) n2724) (ne_of_none (e2729 _ _ (e2717 _ _ h2703)) n2743) (ne_of_none (e2729 _ _ (e2717 _ _ h2703)) n2744))))) (nm_cons (ne_of_none h2556 n2573) (nm_cons (ne_of_none (e2578 _ _ h2556) n2589) (nm_app (fun z => ne2955 _ z rfl) nm_nil)))) (ne2975 _ (hs3161 _ List.mem_cons_self)).symm)
                have h3190 := (x3179 _ _ (x3137 _ _ (e3093 _ _ (e3083 _ _ (x3059 _ _ (x3025 _ _ (e3009 _ _ h2937) (ni4 (ne_of_none ((SameXs.of x2793) _ _ (e2784 _ _ (e2772 _ _ ((SameXs.of x2764) _ _ (e2755 _ _ ((SameXs.of x2738) _ _ (e2729 _ _ (e2717 _ _ h2704)) (ni1 (ne_of_none (e2717 _ _ h2704) n2724)))) (ni1 (ne_of_none ((SameXs.of x2738) _ _ (e2729 _ _ (e2717 _ _ h2704)) (ni1 (ne_of_none (e2717 _ _ h2704) n2724))) n2750))))) (ni1 (ne_of_none (e2772 _ _ ((SameXs.of x2764) _ _ (e2755 _ _ ((SameXs.of x2738) _ _ (e2729 _ _ (e2717 _ _ h2704)) (ni1 (ne_of_none (e2717 _ _ h2704) n2724)))) (ni1 (ne_of_none ((SameXs.of x2738) _ _ (e2729 _ _ (e2717 _ _ h2704)) (ni1 (ne_of_none (e2717 _ _ h2704) n2724))) n2750)))) n2779))) n2805) (ne_of_none (e2772 _ _ ((SameXs.of x2764) _ _ (e2755 _ _ ((SameXs.of x2738) _ _ (e2729 _ _ (e2717 _ _ h2704)) (ni1 (ne_of_none (e2717 _ _ h2704) n2724)))) (ni1 (ne_of_none ((SameXs.of x2738) _ _ (e2729 _ _ (e2717 _ _ h2704)) (ni1 (ne_of_none (e2717 _ _ h2704) n2724))) n2750)))) n2779) (ne_of_none (e2784 _ _ (e2772 _ _ ((SameXs.of x2764) _ _ (e2755 _ _ ((SameXs.of x2738) _ _ (e2729 _ _ (e2717 _ _ h2704)) (ni1 (ne_of_none (e2717 _ _ h2704) n2724)))) (ni1 (ne_of_none ((SameXs.of x2738) _ _ (e2729 _ _ (e2717 _ _ h2704)) (ni1 (ne_of_none (e2717 _ _ h2704) n2724))) n2750))))) n2798) (ne_of_none (e2784 _ _ (e2772 _ _ ((SameXs.of x2764) _ _ (e2755 _ _ ((SameXs.of x2738) _ _ (e2729 _ _ (e2717 _ _ h2704)) (ni1 (ne_of_none (e2717 _ _ h2704) n2724)))) (ni1 (ne_of_none ((SameXs.of x2738) _ _ (e2729 _ _ (e2717 _ _ h2704)) (ni1 (ne_of_none (e2717 _ _ h2704) n2724))) n2750))))) n2799))) (ni4 (ne_of_none ((SameXs.of x2738) _ _ (e2729 _ _ (e2717 _ _ h2704)) (ni1 (ne_of_none (e2717 _ _ h2704) n2724))) n2750) (ne_of_none (e2717 _ _ h2704) n2724) (ne_of_none (e2729 _ _ (e2717 _ _ h2704)) n2743) (ne_of_none (e2729 _ _ (e2717 _ _ h2704)) n2744))))) (nm_cons (ne_of_none h2557 n2573) (nm_cons (ne_of_none (e2578 _ _ h2557) n2589) (nm_app (fun z => ne2956 _ z rfl) nm_nil)))) (ne2976 _ (hs3161 _ List.mem_cons_self)).symm)
                have h3191 := (x3179 _ _ (x3137 _ _ (e3093 _ _ (e3083 _ _ (x3059 _ _ h3051 (ni4 (ne_of_none ((SameXs.of x2738) _ _ (e2729 _ _ (e2717 _ _ h2705)) (ni1 (ne_of_none (e2717 _ _ h2705) n2724))) n2750) (ne_of_none (e2717 _ _ h2705) n2724) (ne_of_none (e2729 _ _ (e2717 _ _ h2705)) n2743) (ne_of_none (e2729 _ _ (e2717 _ _ h2705)) n2744))))) (nm_cons (ne_of_none h2558 n2573) (nm_cons (ne_of_none (e2578 _ _ h2558) n2589) (nm_app (fun z => ne2957 _ z rfl) nm_nil)))) (ne2977 _ (hs3161 _ List.mem_cons_self)).symm)
                have h3192 := (x3179 _ _ (x3137 _ _ (e3093 _ _ (e3083 _ _ (x3059 _ _ h3052 (ni4 (ne_of_none ((SameXs.of x2738) _ _ (e2729 _ _ (e2717 _ _ h2706)) (ni1 (ne_of_none (e2717 _ _ h2706) n2724))) n2750) (ne_of_none (e2717 _ _ h2706) n2724) (ne_of_none (e2729 _ _ (e2717 _ _ h2706)) n2743) (ne_of_none (e2729 _ _ (e2717 _ _ h2706)) n2744))))) (nm_cons (ne_of_none h2559 n2573) (nm_cons (ne_of_none (e2578 _ _ h2559) n2589) (nm_app (fun z => ne2958 _ z rfl) nm_nil)))) (ne2978 _ (hs3161 _ List.mem_cons_self)).symm)
                have h3193 := (x3179 _ _ (x3137 _ _ (e3093 _ _ (e3083 _ _ (x3059 _ _ h3053 (ni4 (ne_of_none ((SameXs.of x2738) _ _ (e2729 _ _ (e2717 _ _ h2707)) (ni1 (ne_of_none (e2717 _ _ h2707) n2724))) n2750) (ne_of_none (e2717 _ _ h2707) n2724) (ne_of_none (e2729 _ _ (e2717 _ _ h2707)) n2743) (ne_of_none (e2729 _ _ (e2717 _ _ h2707)) n2744))))) (nm_cons (ne_of_none h2560 n2573) (nm_cons (ne_of_none (e2578 _ _ h2560) n2589) (nm_app (fun z => ne2959 _ z rfl) nm_nil)))) (ne2979 _ (hs3161 _ List.mem_cons_self)).symm)
                have h3194 := (x3179 _ _ (x3137 _ _ (e3093 _ _ (e3083 _ _ (x3059 _ _ (x3025 _ _ (e3009 _ _ h2941) (ni4 (ne_of_none ((SameXs.of x2793) _ _ (e2784 _ _ (e2772 _ _ h2767)) (ni1 (ne_of_none (e2772 _ _ h2767) n2779))) n2805) (ne_of_none (e2772 _ _ h2767) n2779) (ne_of_none (e2784 _ _ (e2772 _ _ h2767)) n2798) (ne_of_none (e2784 _ _ (e2772 _ _ h2767)) n2799))) (ni4 (ne_of_none ((SameXs.of x2738) _ _ (e2729 _ _ (e2717 _ _ h2708)) (ni1 (ne_of_none (e2717 _ _ h2708) n2724))) n2750) (ne_of_none (e2717 _ _ h2708) n2724) (ne_of_none (e2729 _ _ (e2717 _ _ h2708)) n2743) (ne_of_none (e2729 _ _ (e2717 _ _ h2708)) n2744))))) (nm_cons (ne_of_none h2561 n2573) (nm_cons (ne_of_none (e2578 _ _ h2561) n2589) (nm_app (fun z => ne2960 _ z rfl) nm_nil)))) (ne2980 _ (hs3161 _ List.mem_cons_self)).symm)
                have h3195 := (x3179 _ _ h3144 (ne2981 _ (hs3161 _ List.mem_cons_self)).symm)
                have h3196 := (x3179 _ _ h3145 (ne2982 _ (hs3161 _ List.mem_cons_self)).symm)
                have h3197 := (x3179 _ _ h3164 (ne2983 _ (hs3161 _ List.mem_cons_self)).symm)
                have h3198 := (x3179 _ _ (x3137 _ _ (e3093 _ _ (e3083 _ _ h3061)) (nm_cons (ne_of_none ((SameXs.of x2738) _ _ (e2729 _ _ (e2717 _ _ h2709)) (ni1 (ne_of_none (e2717 _ _ h2709) n2724))) n2750).symm (nm_cons (ne_of_none ((SameXs.of x2738) _ _ (e2729 _ _ (e2717 _ _ h2710)) (ni1 (ne_of_none (e2717 _ _ h2710) n2724))) n2750).symm (nm_app (fun z => ne2964 _ z rfl) nm_nil)))) (ne2984 _ (hs3161 _ List.mem_cons_self)).symm)
                have h3199 := (x3179 _ _ (x3137 _ _ (e3093 _ _ (e3083 _ _ h3062)) (nm_cons (ne_of_none (e2717 _ _ h2709) n2724).symm (nm_cons (ne_of_none (e2717 _ _ h2710) n2724).symm (nm_app (fun z => ne2965 _ z rfl) nm_nil)))) (ne2985 _ (hs3161 _ List.mem_cons_self)).symm)
                have h3200 := (x3179 _ _ (x3137 _ _ (e3093 _ _ (e3083 _ _ h3063)) (nm_cons (ne_of_none (e2729 _ _ (e2717 _ _ h2709)) n2743).symm (nm_cons (ne_of_none (e2729 _ _ (e2717 _ _ h2710)) n2743).symm (nm_app (fun z => ne2966 _ z rfl) nm_nil)))) (ne2986 _ (hs3161 _ List.mem_cons_self)).symm)
                have h3201 := (x3179 _ _ (x3137 _ _ (e3093 _ _ (e3083 _ _ h3064)) (nm_cons (ne_of_none (e2729 _ _ (e2717 _ _ h2709)) n2744).symm (nm_cons (ne_of_none (e2729 _ _ (e2717 _ _ h2710)) n2744).symm (nm_app (fun z => ne2967 _ z rfl) nm_nil)))) (ne2987 _ (hs3161 _ List.mem_cons_self)).symm)
                have h3202 := (x3179 _ _ (x3137 _ _ (e3093 _ _ (e3083 _ _ (x3059 _ _ h3027 (ni4 (ne_of_none ((SameXs.of x2793) _ _ (e2784 _ _ (e2772 _ _ h2765)) (ni1 (ne_of_none (e2772 _ _ h2765) n2779))) n2805).symm (ne_of_none ((SameXs.of x2793) _ _ (e2784 _ _ (e2772 _ _ ((SameXs.of x2764) _ _ h2759 (ni1 (ne_of_none h2739 n2750))))) (ni1 (ne_of_none (e2772 _ _ ((SameXs.of x2764) _ _ h2759 (ni1 (ne_of_none h2739 n2750)))) n2779))) n2805).symm (ne_of_none ((SameXs.of x2793) _ _ (e2784 _ _ (e2772 _ _ ((SameXs.of x2764) _ _ h2760 (ni1 (ne_of_none h2741 n2750))))) (ni1 (ne_of_none (e2772 _ _ ((SameXs.of x2764) _ _ h2760 (ni1 (ne_of_none h2741 n2750)))) n2779))) n2805).symm (ne_of_none ((SameXs.of x2793) _ _ (e2784 _ _ (e2772 _ _ ((SameXs.of x2764) _ _ h2761 (ni1 (ne_of_none h2742 n2750))))) (ni1 (ne_of_none (e2772 _ _ ((SameXs.of x2764) _ _ h2761 (ni1 (ne_of_none h2742 n2750)))) n2779))) n2805).symm)))) (nm_cons (ne_of_none ((SameXs.of x2793) _ _ (e2784 _ _ (e2772 _ _ ((SameXs.of x2764) _ _ (e2755 _ _ ((SameXs.of x2738) _ _ (e2729 _ _ (e2717 _ _ h2709)) (ni1 (ne_of_none (e2717 _ _ h2709) n2724)))) (ni1 (ne_of_none ((SameXs.of x2738) _ _ (e2729 _ _ (e2717 _ _ h2709)) (ni1 (ne_of_none (e2717 _ _ h2709) n2724))) n2750))))) (ni1 (ne_of_none (e2772 _ _ ((SameXs.of x2764) _ _ (e2755 _ _ ((SameXs.of x2738) _ _ (e2729 _ _ (e2717 _ _ h2709)) (ni1 (ne_of_none (e2717 _ _ h2709) n2724)))) (ni1 (ne_of_none ((SameXs.of x2738) _ _ (e2729 _ _ (e2717 _ _ h2709)) (ni1 (ne_of_none (e2717 _ _ h2709) n2724))) n2750)))) n2779))) n2805).symm (nm_cons (ne_of_none ((SameXs.of x2793) _ _ (e2784 _ _ (e2772 _ _ ((SameXs.of x2764) _ _ (e2755 _ _ ((SameXs.of x2738) _ _ (e2729 _ _ (e2717 _ _ h2710)) (ni1 (ne_of_none (e2717 _ _ h2710) n2724)))) (ni1 (ne_of_none ((SameXs.of x2738) _ _ (e2729 _ _ (e2717 _ _ h2710)) (ni1 (ne_of_none (e2717 _ _ h2710) n2724))) n2750))))) (ni1 (ne_of_none (e2772 _ _ ((SameXs.of x2764) _ _ (e2755 _ _ ((SameXs.of x2738) _ _ (e2729 _ _ (e2717 _ _ h2710)) (ni1 (ne_of_none (e2717 _ _ h2710) n2724)))) (ni1 (ne_of_none ((SameXs.of x2738) _ _ (e2729 _ _ (e2717 _ _ h2710)) (ni1 (ne_of_none (e2717 _ _ h2710) n2724))) n2750)))) n2779))) n2805).symm (nm_app (fun z => ne2968 _ z rfl) nm_nil)))) (ne2988 _ (hs3161 _ List.mem_cons_self)).symm)
                have h3203 := (x3179 _ _ (x3137 _ _ (e3093 _ _ (e3083 _ _ (x3059 _ _ h3028 (ni4 (ne_of_none (e2772 _ _ h2765) n2779).symm (ne_of_none (e2772 _ _ ((SameXs.of x2764) _ _ h2759 (ni1 (ne_of_none h2739 n2750)))) n2779).symm (ne_of_none (e2772 _ _ ((SameXs.of x2764) _ _ h2760 (ni1 (ne_of_none h2741 n2750)))) n2779).symm (ne_of_none (e2772 _ _ ((SameXs.of x2764) _ _ h2761 (ni1 (ne_of_none h2742 n2750)))) n2779).symm)))) (nm_cons (ne_of_none (e2772 _ _ ((SameXs.of x2764) _ _ (e2755 _ _ ((SameXs.of x2738) _ _ (e2729 _ _ (e2717 _ _ h2709)) (ni1 (ne_of_none (e2717 _ _ h2709) n2724)))) (ni1 (ne_of_none ((SameXs.of x2738) _ _ (e2729 _ _ (e2717 _ _ h2709)) (ni1 (ne_of_none (e2717 _ _ h2709) n2724))) n2750)))) n2779).symm (nm_cons (ne_of_none (e2772 _ _ ((SameXs.of x2764) _ _ (e2755 _ _ ((SameXs.of x2738) _ _ (e2729 _ _ (e2717 _ _ h2710)) (ni1 (ne_of_none (e2717 _ _ h2710) n2724)))) (ni1 (ne_of_none ((SameXs.of x2738) _ _ (e2729 _ _ (e2717 _ _ h2710)) (ni1 (ne_of_none (e2717 _ _ h2710) n2724))) n2750)))) n2779).symm (nm_app (fun z => ne2969 _ z rfl) nm_nil)))) (ne2989 _ (hs3161 _ List.mem_cons_self)).symm)
                have h3204 := (x3179 _ _ (x3137 _ _ (e3093 _ _ (e3083 _ _ (x3059 _ _ h3029 (ni4 (ne_of_none (e2784 _ _ (e2772 _ _ h2765)) n2798).symm (ne_of_none (e2784 _ _ (e2772 _ _ ((SameXs.of x2764) _ _ h2759 (ni1 (ne_of_none h2739 n2750))))) n2798).symm (ne_of_none (e2784 _ _ (e2772 _ _ ((SameXs.of x2764) _ _ h2760 (ni1 (ne_of_none h2741 n2750))))) n2798).symm (ne_of_none (e2784 _ _ (e2772 _ _ ((SameXs.of x2764) _ _ h2761 (ni1 (ne_of_none h2742 n2750))))) n2798).symm)))) (nm_cons (ne_of_none (e2784 _ _ (e2772 _ _ ((SameXs.of x2764) _ _ (e2755 _ _ ((SameXs.of x2738) _ _ (e2729 _ _ (e2717 _ _ h2709)) (ni1 (ne_of_none (e2717 _ _ h2709) n2724)))) (ni1 (ne_of_none ((SameXs.of x2738) _ _ (e2729 _ _ (e2717 _ _ h2709)) (ni1 (ne_of_none (e2717 _ _ h2709) n2724))) n2750))))) n2798).symm (nm_cons (ne_of_none (e2784 _ _ (e2772 _ _ ((SameXs.of x2764) _ _ (e2755 _ _ ((SameXs.of x2738) _ _ (e2729 _ _ (e2717 _ _ h2710)) (ni1 (ne_of_none (e2717 _ _ h2710) n2724)))) (ni1 (ne_of_none ((SameXs.of x2738) _ _ (e2729 _ _ (e2717 _ _ h2710)) (ni1 (ne_of_none (e2717 _ _ h2710) n2724))) n2750))))) n2798).symm (nm_app (fun z => ne2970 _ z rfl) nm_nil)))) (ne2990 _ (hs3161 _ List.mem_cons_self)).symm)
                have h3205 := (x3179 _ _ (x3137 _ _ (e3093 _ _ (e3083 _ _ (x3059 _ _ h3030 (ni4 (ne_of_none (e2784 _ _ (e2772 _ _ h2765)) n2799).symm (ne_of_none (e2784 _ _ (e2772 _ _ ((SameXs.of x2764) _ _ h2759 (ni1 (ne_of_none h2739 n2750))))) n2799).symm (ne_of_none (e2784 _ _ (e2772 _ _ ((SameXs.of x2764) _ _ h2760 (ni1 (ne_of_none h2741 n2750))))) n2799).symm (ne_of_none (e2784 _ _ (e2772 _ _ ((SameXs.of x2764) _ _ h2761 (ni1 (ne_of_none h2742 n2750))))) n2799).symm)))) (nm_cons (ne_of_none (e2784 _ _ (e2772 _ _ ((SameXs.of x2764) _ _ (e2755 _ _ ((SameXs.of x2738) _ _ (e2729 _ _ (e2717 _ _ h2709)) (ni1 (ne_of_none (e2717 _ _ h2709) n2724)))) (ni1 (ne_of_none ((SameXs.of x2738) _ _ (e2729 _ _ (e2717 _ _ h2709)) (ni1 (ne_of_none (e2717 _ _ h2709) n2724))) n2750))))) n2799).symm (nm_cons (ne_of_none (e2784 _ _ (e2772 _ _ ((SameXs.of x2764) _ _ (e2755 _ _ ((SameXs.of x2738) _ _ (e2729 _ _ (e2717 _ _ h2710)) (ni1 (ne_of_none (e2717 _ _ h2710) n2724)))) (ni1 (ne_of_none ((SameXs.of x2738) _ _ (e2729 _ _ (e2717 _ _ h2710)) (ni1 (ne_of_none (e2717 _ _ h2710) n2724))) n2750))))) n2799).symm (nm_app (fun z => ne2971 _ z rfl) nm_nil)))) (ne2991 _ (hs3161 _ List.mem_cons_self)).symm)
                have h3206 := (x3179 _ _ (x3137 _ _ (e3093 _ _ (e3083 _ _ (x3059 _ _ (x3025 _ _ (e3009 _ _ h2953) (ni4 (ne_of_none h2820 n2823).symm (ne_of_none ((SameXs.of x2819) _ _ h2814 (ni1 (ne_of_none h2794 n2805))) n2823).symm (ne_of_none ((SameXs.of x2819) _ _ h2815 (ni1 (ne_of_none h2796 n2805))) n2823).symm (ne_of_none ((SameXs.of x2819) _ _ h2816 (ni1 (ne_of_none h2797 n2805))) n2823).symm)) (ni4 (ne_of_none ((SameXs.of x2819) _ _ (e2810 _ _ ((SameXs.of x2793) _ _ (e2784 _ _ (e2772 _ _ h2765)) (ni1 (ne_of_none (e2772 _ _ h2765) n2779)))) (ni1 (ne_of_none ((SameXs.of x2793) _ _ (e2784 _ _ (e2772 _ _ h2765)) (ni1 (ne_of_none (e2772 _ _ h2765) n2779))) n2805))) n2823).symm (ne_of_none ((SameXs.of x2819) _ _ (e2810 _ _ ((SameXs.of x2793) _ _ (e2784 _ _ (e2772 _ _ ((SameXs.of x2764) _ _ h2759 (ni1 (ne_of_none h2739 n2750))))) (ni1 (ne_of_none (e2772 _ _ ((SameXs.of x2764) _ _ h2759 (ni1 (ne_of_none h2739 n2750)))) n2779)))) (ni1 (ne_of_none ((SameXs.of x2793) _ _ (e2784 _ _ (e2772 _ _ ((SameXs.of x2764) _ _ h2759 (ni1 (ne_of_none h2739 n2750))))) (ni1 (ne_of_none (e2772 _ _ ((SameXs.of x2764) _ _ h2759 (ni1 (ne_of_none h2739 n2750)))) n2779))) n2805))) n2823).symm (ne_of_none ((SameXs.of x2819) _ _ (e2810 _ _ ((SameXs.of x2793) _ _ (e2784 _ _ (e2772 _ _ ((SameXs.of x2764) _ _ h2760 (ni1 (ne_of_none h2741 n2750))))) (ni1 (ne_of_none (e2772 _ _ ((SameXs.of x2764) _ _ h2760 (ni1 (ne_of_none h2741 n2750)))) n2779)))) (ni1 (ne_of_none ((SameXs.of x2793) _ _ (e2784 _ _ (e2772 _ _ ((SameXs.of x2764) _ _ h2760 (ni1 (ne_of_none h2741 n2750))))) (ni1 (ne_of_none (e2772 _ _ ((SameXs.of x2764) _ _ h2760 (ni1 (ne_of_none h2741 n2750)))) n2779))) n2805))) n2823).symm (ne_of_none ((SameXs.of x2819) _ _ (e2810 _ _ ((SameXs.of x2793) _ _ (e2784 _ _ (e2772 _ _ ((SameXs.of x2764) _ _ h2761 (ni1 (ne_of_none h2742 n2750))))) (ni1 (ne_of_none (e2772 _ _ ((SameXs.of x2764) _ _ h2761 (ni1 (ne_of_none h2742 n2750)))) n2779)))) (ni1 (ne_of_none ((SameXs.of x2793) _ _ (e2784 _ _ (e2772 _ _ ((SameXs.of x2764) _ _ h2761 (ni1 (ne_of_none h2742 n2750))))) (ni1 (ne_of_none (e2772 _ _ ((SameXs.of x2764) _ _ h2761 (ni1 (ne_of_none h2742 n2750)))) n2779))) n2805))) n2823).symm)))) (nm_cons (ne_of_none ((SameXs.of x2819) _ _ (e2810 _ _ ((SameXs.of x2793) _ _ (e2784 _ _ (e2772 _ _ ((SameXs.of x2764) _ _ (e2755 _ _ ((SameXs.of x2738) _ _ (e2729 _ _ (e2717 _ _ h2709)) (ni1 (ne_of_none (e2717 _ _ h2709) n2724)))) (ni1 (ne_of_none ((SameXs.of x2738) _ _ (e2729 _ _ (e2717 _ _ h2709)) (ni1 (ne_of_none (e2717 _ _ h2709) n2724))) n2750))))) (ni1 (ne_of_none (e2772 _ _ ((SameXs.of x2764) _ _ (e2755 _ _ ((SameXs.of x2738) _ _ (e2729 _ _ (e2717 _ _ h2709)) (ni1 (ne_of_none (e2717 _ _ h2709) n2724)))) (ni1 (ne_of_none ((SameXs.of x2738) _ _ (e2729 _ _ (e2717 _ _ h2709)) (ni1 (ne_of_none (e2717 _ _ h2709) n2724))) n2750)))) n2779)))) (ni1 (ne_of_none ((SameXs.of x2793) _ _ (e2784 _ _ (e2772 _ _ ((SameXs.of x2764) _ _ (e2755 _ _ ((SameXs.of x2738) _ _ (e2729 _ _ (e2717 _ _ h2709)) (ni1 (ne_of_none (e2717 _ _ h2709) n2724)))) (ni1 (ne_of_none ((SameXs.of x2738) _ _ (e2729 _ _ (e2717 _ _ h2709)) (ni1 (ne_of_none (e2717 _ _ h2709) n2724))) n2750))))) (ni1 (ne_of_none (e2772 _ _ ((SameXs.of x2764) _ _ (e2755 _ _ ((SameXs.of x2738) _ _ (e2729 _ _ (e2717 _ _ h2709)) (ni1 (ne_of_none (e2717 _ _ h2709) n2724)))) (ni1 (ne_of_none ((SameXs.of x2738) _ _ (e2729 _ _ (e2717 _ _ h2709)) (ni1 (ne_of_none (e2717 _ _ h2709) n2724))) n2750)))) n2779))) n2805))) n2823).symm (nm_cons (ne_of_none ((SameXs.of x2819) _ _ (e2810 _ _ ((SameXs.of x2793) _ _ (e2784 _ _ (e2772 _ _ ((SameXs.of x2764) _ _ (e2755 _ _ ((SameXs.of x2738) _ _ (e2729 _ _ (e2717 _ _ h2710)) (ni1 (ne_of_none (e2717 _ _ h2710) n2724)))) (ni1 (ne_of_none ((SameXs.of x2738) _ _ (e2729 _ _ (e2717 _ _ h2710)) (ni1 (ne_of_none (e2717 _ _ h2710) n2724))) n2750))))) (ni1 (ne_of_none (e2772 _ _ ((SameXs.of x2764) _ _ (e2755 _ _ ((SameXs.of x2738) _ _ (e2729 _ _ (e2717 _ _ h2710)) (ni1 (ne_of_none (e2717 _ _ h2710) n2724)))) (ni1 (ne_of_none ((SameXs.of x2738) _ _ (e2729 _ _ (e2717 _ _ h2710)) (ni1 (ne_of_none (e2717 _ _ h2710) n2724))) n2750)))) n2779)))) (ni1 (ne_of_none ((SameXs.of x2793) _ _ (e2784 _ _ (e2772 _ _ ((SameXs.of x2764) _ _ (e2755 _ _ ((SameXs.of x2738) _ _ (e2729 _ _ (e2717 _ _ h2710)) (ni1 (ne_of_none (e2717 _ _ h2710) n2724)))) (ni1 (ne_of_none ((SameXs.of x2738) _ _ (e2729 _ _ (e2717 _ _ h2710)) (ni1 (ne_of_none (e2717 _ _ h2710) n2724))) n2750))))) (ni1 (ne_of_none (e2772 _ _ ((SameXs.of x2764) _ _ (e2755 _ _ ((SameXs.of x2738) _ _ (e2729 _ _ (e2717 _ _ h2710)) (ni1 (ne_of_none (e2717 _ _ h2710) n2724)))) (ni1 (ne_of_none ((SameXs.of x2738) _ _ (e2729 _ _ (e2717 _ _ h2710)) (ni1 (ne_of_none (e2717 _ _ h2710) n2724))) n2750)))) n2779))) n2805))) n2823).symm (nm_app (fun z => ne2972 _ z rfl) nm_nil)))) (ne2992 _ (hs3161 _ List.mem_cons_self)).symm)
                have w3207 : OwAll G3139 H3178 L3147 (vs3146) ((v3132.lines : (List (List PyData))).map (oL (oF encD))) := (OwAll.mono (Same.refl _) (keeps_mut x3179 ((fun b hb z => (fun b hb => ((grown_nl hs3148 ((fun b hb => (ne2973 b hb)) : ∀ b ∈ L2838, b ∉ L2841) (fun b hb => (S3100.ow b (((fun b hb => (.tail _ (.tail _ (.tail _ (.tail _ (.tail _ (.tail _ (.tail _ (.tail _ (.tail _ (.tail _ (.tail _ (.tail _ (.tail _ (.tail _ (.tail _ (.tail _ (.tail _ (.tail _ (.tail _ (List.mem_append_right _ (List.mem_append_left _ hb)))))))))))))))))))))) : ∀ b ∈ L2841, b ∈ (p2310 :: (x2348 :: (x2332 :: (x2393 :: (l2408 :: (l2409 :: (p2521 :: (x2571 :: (l2583 :: (D2605 :: (x2748 :: (x2722 :: (l2735 :: (l2736 :: (x2803 :: (x2777 :: (l2790 :: (l2791 :: (p2822 :: (L2838 ++ (L2841 ++ [])))))))))))))))))))))) b hb)).2.1)) b hb)) b hb (z ▸ (hs3161 _ List.mem_cons_self))) : ∀ b ∈ L3147, b ≠ b3165)) w3150)
                exact ⟨(v3132), (vs3146), L3147, (setL (kept_2839) (((x2997 / 4) % 4)) (setL ((itD (kept_2839) (((x2997 / 4) % 4)))) ((x2997 % 4)) (((encT4 PyData.int PyData.int encD encD) (v3057.1))))), (vs2840), L3183, (v3057.2), (v3023.2), _, _, _, _, _, _, rfl, (Same.trans (Same.trans (Same.trans (Same.trans (Same.trans eG2996 eG3015) eG3033) eG3067) eG3096) eG3140), (S3182.sub (all_cons (List.mem_append_right _ (.head _)) (all_cons (List.mem_append_right _ (.tail _ (.head _))) (all_cons (List.mem_append_right _ (.tail _ (.tail _ (.head _)))) (all_cons (List.mem_append_right _ (.tail _ (.tail _ (.tail _ (.head _))))) (all_cons (List.mem_append_right _ (.tail _ (.tail _ (.tail _ (.tail _ (.head _)))))) (all_cons (List.mem_append_right _ (.tail _ (.tail _ (.tail _ (.tail _ (.tail _ (.head _))))))) (all_cons (List.mem_append_right _ (.tail _ (.tail _ (.tail _ (.tail _ (.tail _ (.tail _ (.head _)))))))) (all_cons (List.mem_append_right _ (.tail _ (.tail _ (.tail _ (.tail _ (.tail _ (.tail _ (.tail _ (.head _))))))))) (all_cons (List.mem_append_right _ (.tail _ (.tail _ (.tail _ (.tail _ (.tail _ (.tail _ (.tail _ (.tail _ (.head _)))))))))) (all_cons (List.mem_append_right _ (.tail _ (.tail _ (.tail _ (.tail _ (.tail _ (.tail _ (.tail _ (.tail _ (.tail _ (.head _))))))))))) (all_cons (List.mem_append_right _ (.tail _ (.tail _ (.tail _ (.tail _ (.tail _ (.tail _ (.tail _ (.tail _ (.tail _ (.tail _ (.head _)))))))))))) (all_cons (List.mem_append_right _ (.tail _ (.tail _ (.tail _ (.tail _ (.tail _ (.tail _ (.tail _ (.tail _ (.tail _ (.tail _ (.tail _ (.head _))))))))))))) (all_cons (List.mem_append_right _ (.tail _ (.tail _ (.tail _ (.tail _ (.tail _ (.tail _ (.tail _ (.tail _ (.tail _ (.tail _ (.tail _ (.tail _ (.head _)))))))))))))) (all_cons (List.mem_append_right _ (.tail _ (.tail _ (.tail _ (.tail _ (.tail _ (.tail _ (.tail _ (.tail _ (.tail _ (.tail _ (.tail _ (.tail _ (.tail _ (.head _))))))))))))))) (all_cons (List.mem_append_right _ (.tail _ (.tail _ (.tail _ (.tail _ (.tail _ (.tail _ (.tail _ (.tail _ (.tail _ (.tail _ (.tail _ (.tail _ (.tail _ (.tail _ (.head _)))))))))))))))) (all_cons (List.mem_append_right _ (.tail _ (.tail _ (.tail _ (.tail _ (.tail _ (.tail _ (.tail _ (.tail _ (.tail _ (.tail _ (.tail _ (.tail _ (.tail _ (.tail _ (.tail _ (.head _))))))))))))))))) (all_cons (List.mem_append_right _ (.tail _ (.tail _ (.tail _ (.tail _ (.tail _ (.tail _ (.tail _ (.tail _ (.tail _ (.tail _ (.tail _ (.tail _ (.tail _ (.tail _ (.tail _ (.tail _ (.head _)))))))))))))))))) (all_cons (List.mem_append_right _ (.tail _ (.tail _ (.tail _ (.tail _ (.tail _ (.tail _ (.tail _ (.tail _ (.tail _ (.tail _ (.tail _ (.tail _ (.tail _ (.tail _ (.tail _ (.tail _ (.tail _ (.head _))))))))))))))))))) (all_cons (List.mem_append_right _ (.tail _ (.tail _ (.tail _ (.tail _ (.tail _ (.tail _ (.tail _ (.tail _ (.tail _ (.tail _ (.tail _ (.tail _ (.tail _ (.tail _ (.tail _ (.tail _ (.tail _ (.tail _ (.head _)))))))))))))))))))) (all_app ((fun b hb => (List.mem_append_left _ hb)) : ∀ b ∈ L3147, b ∈ (L3147 ++ (p2310 :: (x2348 :: (x2332 :: (x2393 :: (l2408 :: (l2409 :: (p2521 :: (x2571 :: (l2583 :: (D2605 :: (x2748 :: (x2722 :: (l2735 :: (l2736 :: (x2803 :: (x2777 :: (l2790 :: (l2791 :: (p2822 :: (L2841 ++ [])))))))))))))))))))))) (all_app (fun b hb => ((all_app ((fun b hb => (List.mem_append_right _ (.tail _ (.tail _ (.tail _ (.tail _ (.tail _ (.tail _ (.tail _ (.tail _ (.tail _ (.tail _ (.tail _ (.tail _ (.tail _ (.tail _ (.tail _ (.tail _ (.tail _ (.tail _ (.tail _ (List.mem_append_left _ hb)))))))))))))))))))))) : ∀ b ∈ L2841, b ∈ (L3147 ++ (p2310 :: (x2348 :: (x2332 :: (x2393 :: (l2408 :: (l2409 :: (p2521 :: (x2571 :: (l2583 :: (D2605 :: (x2748 :: (x2722 :: (l2735 :: (l2736 :: (x2803 :: (x2777 :: (l2790 :: (l2791 :: (p2822 :: (L2841 ++ [])))))))))))))))))))))) all_nil) : ∀ b ∈ (L2841 ++ ([] : List Addr)), b ∈ (L3147 ++ (p2310 :: (x2348 :: (x2332 :: (x2393 :: (l2408 :: (l2409 :: (p2521 :: (x2571 :: (l2583 :: (D2605 :: (x2748 :: (x2722 :: (l2735 :: (l2736 :: (x2803 :: (x2777 :: (l2790 :: (l2791 :: (p2822 :: (L2841 ++ [])))))))))))))))))))))) b (hL3184 b hb)) all_nil)))))))))))))))))))))), h3188, h3189, h3190, h3191, h3192, h3193, h3194, h3195, h3196, h3197, h3198, h3199, h3200, h3201, h3202, h3203, h3204, h3205, h3206, (grown_ne hs3148 (ne2954 : ∀ b ∈ L2838, b ≠ p2310) (S3100.ow _ (.head _)).2.1), (grown_ne hs3148 (ne2955 : ∀ b ∈ L2838, b ≠ x2348) (S3100.ow _ (.tail _ (.head _))).2.1), (grown_ne hs3148 (ne2956 : ∀ b ∈ L2838, b ≠ x2332) (S3100.ow _ (.tail _ (.tail _ (.head _)))).2.1), (grown_ne hs3148 (ne2957 : ∀ b ∈ L2838, b ≠ x2393) (S3100.ow _ (.tail _ (.tail _ (.tail _ (.head _))))).2.1), (grown_ne hs3148 (ne2958 : ∀ b ∈ L2838, b ≠ l2408) (S3100.ow _ (.tail _ (.tail _ (.tail _ (.tail _ (.head _)))))).2.1), (grown_ne hs3148 (ne2959 : ∀ b ∈ L2838, b ≠ l2409) (S3100.ow _ (.tail _ (.tail _ (.tail _ (.tail _ (.tail _ (.head _))))))).2.1), (grown_ne hs3148 (ne2960 : ∀ b ∈ L2838, b ≠ p2521) (S3100.ow _ (.tail _ (.tail _ (.tail _ (.tail _ (.tail _ (.tail _ (.head _)))))))).2.1), ne3151, ne3152, (grown_ne hs3148 (ne2963 : ∀ b ∈ L2838, b ≠ D2605) (S3100.ow _ (.tail _ (.tail _ (.tail _ (.tail _ (.tail _ (.tail _ (.tail _ (.tail _ (.tail _ (.head _))))))))))).2.1), (grown_ne hs3148 (ne2964 : ∀ b ∈ L2838, b ≠ x2748) (S3100.ow _ (.tail _ (.tail _ (.tail _ (.tail _ (.tail _ (.tail _ (.tail _ (.tail _ (.tail _ (.tail _ (.head _)))))))))))).2.1), (grown_ne hs3148 (ne2965 : ∀ b ∈ L2838, b ≠ x2722) (S3100.ow _ (.tail _ (.tail _ (.tail _ (.tail _ (.tail _ (.tail _ (.tail _ (.tail _ (.tail _ (.tail _ (.tail _ (.head _))))))))))))).2.1), (grown_ne hs3148 (ne2966 : ∀ b ∈ L2838, b ≠ l2735) (S3100.ow _ (.tail _ (.tail _ (.tail _ (.tail _ (.tail _ (.tail _ (.tail _ (.tail _ (.tail _ (.tail _ (.tail _ (.tail _ (.head _)))))))))))))).2.1), (grown_ne hs3148 (ne2967 : ∀ b ∈ L2838, b ≠ l2736) (S3100.ow _ (.tail _ (.tail _ (.tail _ (.tail _ (.tail _ (.tail _ (.tail _ (.tail _ (.tail _ (.tail _ (.tail _ (.tail _ (.tail _ (.head _))))))))))))))).2.1), (grown_ne hs3148 (ne2968 : ∀ b ∈ L2838, b ≠ x2803) (S3100.ow _ (.tail _ (.tail _ (.tail _ (.tail _ (.tail _ (.tail _ (.tail _ (.tail _ (.tail _ (.tail _ (.tail _ (.tail _ (.tail _ (.tail _ (.head _)))))))))))))))).2.1), (grown_ne hs3148 (ne2969 : ∀ b ∈ L2838, b ≠ x2777) (S3100.ow _ (.tail _ (.tail _ (.tail _ (.tail _ (.tail _ (.tail _ (.tail _ (.tail _ (.tail _ (.tail _ (.tail _ (.tail _ (.tail _ (.tail _ (.tail _ (.head _))))))))))))))))).2.1), (grown_ne hs3148 (ne2970 : ∀ b ∈ L2838, b ≠ l2790) (S3100.ow _ (.tail _ (.tail _ (.tail _ (.tail _ (.tail _ (.tail _ (.tail _ (.tail _ (.tail _ (.tail _ (.tail _ (.tail _ (.tail _ (.tail _ (.tail _ (.tail _ (.head _)))))))))))))))))).2.1), (grown_ne hs3148 (ne2971 : ∀ b ∈ L2838, b ≠ l2791) (S3100.ow _ (.tail _ (.tail _ (.tail _ (.tail _ (.tail _ (.tail _ (.tail _ (.tail _ (.tail _ (.tail _ (.tail _ (.tail _ (.tail _ (.tail _ (.tail _ (.tail _ (.tail _ (.head _))))))))))))))))))).2.1), (grown_ne hs3148 (ne2972 : ∀ b ∈ L2838, b ≠ p2822) (S3100.ow _ (.tail _ (.tail _ (.tail _ (.tail _ (.tail _ (.tail _ (.tail _ (.tail _ (.tail _ (.tail _ (.tail _ (.tail _ (.tail _ (.tail _ (.tail _ (.tail _ (.tail _ (.tail _ (.head _)))))))))))))))))))).2.1), (fun b hb => ((nl_symm (fun c hc => ((all_app (nl_symm (grown_nl hs3148 ((fun b hb => (ne2973 b hb)) : ∀ b ∈ L2838, b ∉ L2841) (fun b hb => (S3100.ow b (((fun b hb => (.tail _ (.tail _ (.tail _ (.tail _ (.tail _ (.tail _ (.tail _ (.tail _ (.tail _ (.tail _ (.tail _ (.tail _ (.tail _ (.tail _ (.tail _ (.tail _ (.tail _ (.tail _ (.tail _ (List.mem_append_right _ (List.mem_append_left _ hb)))))))))))))))))))))) : ∀ b ∈ L2841, b ∈ (p2310 :: (x2348 :: (x2332 :: (x2393 :: (l2408 :: (l2409 :: (p2521 :: (x2571 :: (l2583 :: (D2605 :: (x2748 :: (x2722 :: (l2735 :: (l2736 :: (x2803 :: (x2777 :: (l2790 :: (l2791 :: (p2822 :: (L2838 ++ (L2841 ++ [])))))))))))))))))))))) b hb)).2.1))) all_nil) : ∀ c ∈ (L2841 ++ ([] : List Addr)), c ∉ L3147) c (hL3184 c hc))) b hb)), (fun b hb => ((all_app ne2974 all_nil) : ∀ b ∈ (L2841 ++ ([] : List Addr)), b ≠ p2310) b (hL3184 b hb)), (fun b hb => ((all_app ne2975 all_nil) : ∀ b ∈ (L2841 ++ ([] : List Addr)), b ≠ x2348) b (hL3184 b hb)), (fun b hb => ((all_app ne2976 all_nil) : ∀ b ∈ (L2841 ++ ([] : List Addr)), b ≠ x2332) b (hL3184 b hb)), (fun b hb => ((all_app ne2977 all_nil) : ∀ b ∈ (L2841 ++ ([] : List Addr)), b ≠ x2393) b (hL3184 b hb)), (fun b hb => ((all_app ne2978 all_nil) : ∀ b ∈ (L2841 ++ ([] : List Addr)), b ≠ l2408) b (hL3184 b hb)), (fun b hb => ((all_app ne2979 all_nil) : ∀ b ∈ (L2841 ++ ([] : List Addr)), b ≠ l2409) b (hL3184 b hb)), (fun b hb => ((all_app ne2980 all_nil) : ∀ b ∈ (L2841 ++ ([] : List Addr)), b ≠ p2521) b (hL3184 b hb)), (fun b hb => ((all_app ne2981 all_nil) : ∀ b ∈ (L2841 ++ ([] : List Addr)), b ≠ x2571) b (hL3184 b hb)), (fun b hb => ((all_app ne2982 all_nil) : ∀ b ∈ (L2841 ++ ([] : List Addr)), b ≠ l2583) b (hL3184 b hb)), (fun b hb => ((all_app ne2983 all_nil) : ∀ b ∈ (L2841 ++ ([] : List Addr)), b ≠ D2605) b (hL3184 b hb)), (fun b hb => ((all_app ne2984 all_nil) : ∀ b ∈ (L2841 ++ ([] : List Addr)), b ≠ x2748) b (hL3184 b hb)), (fun b hb => ((all_app ne2985 all_nil) : ∀ b ∈ (L2841 ++ ([] : List Addr)), b ≠ x2722) b (hL3184 b hb)), (fun b hb => ((all_app ne2986 all_nil) : ∀ b ∈ (L2841 ++ ([] : List Addr)), b ≠ l2735) b (hL3184 b hb)), (fun b hb => ((all_app ne2987 all_nil) : ∀ b ∈ (L2841 ++ ([] : List Addr)), b ≠ l2736) b (hL3184 b hb)), (fun b hb => ((all_app ne2988 all_nil) : ∀ b ∈ (L2841 ++ ([] : List Addr)), b ≠ x2803) b (hL3184 b hb)), (fun b hb => ((all_app ne2989 all_nil) : ∀ b ∈ (L2841 ++ ([] : List Addr)), b ≠ x2777) b (hL3184 b hb)), (fun b hb => ((all_app ne2990 all_nil) : ∀ b ∈ (L2841 ++ ([] : List Addr)), b ≠ l2790) b (hL3184 b hb)), (fun b hb => ((all_app ne2991 all_nil) : ∀ b ∈ (L2841 ++ ([] : List Addr)), b ≠ l2791) b (hL3184 b hb)), (fun b hb => ((all_app ne2992 all_nil) : ∀ b ∈ (L2841 ++ ([] : List Addr)), b ≠ p2822) b (hL3184 b hb)), w3207, w3186, hw⟩
        · intro σ H3208 hw
          obtain ⟨grid_2836, vs2837, L2838, kept_2839, vs2840, L2841, reader_2842, twin_2843, u2844, u2845, u2846, u2847, u2848, G3270, rfl, eG3271, S3209, h3210, h3211, h3212, h3213, h3214, h3215, h3216, h3217, h3218, h3219, h3220, h3221, h3222, h3223, h3224, h3225, h3226, h3227, h3228, ne3229, ne3230, ne3231, ne3232, ne3233, ne3234, ne3235, ne3236, ne3237, ne3238, ne3239, ne3240, ne3241, ne3242, ne3243, ne3244, ne3245, ne3246, ne3247, ne3248, ne3249, ne3250, ne3251, ne3252, ne3253, ne3254, ne3255, ne3256, ne3257, ne3258, ne3259, ne3260, ne3261, ne3262, ne3263, ne3264, ne3265, ne3266, ne3267, w3268, w3269, hw⟩ := hw
          have hw := cW_aftgo (hK2835 _ (cW_forR0 (by rw [List.length_map]) hw))
          have hw : cW (F_law_r4  (grid_2836) (kept_2839) (reader_2842) (twin_2843)) _ EE := hw
          unfold F_law_r4 at hw
          have hw := cW_ok hw
          exact eq_bl (k _) (hK0 _ hw).symm
end
def spL (K : PySem.W.Frag) : Sp := fun vs H Q _ => ∃ (a_script : Addr) (script : List Int), vs = [.ref a_script] ∧ SqL K H a_script (script.map V.int) ∧ script.length ≤ 63 ∧ ∀ H', Q (.bl true) H'
theorem all_mk {l : PySem.W.OpenLaw} {w : World} {K : PySem.W.Frag} {h : Heap} {mg : Str → Option Value} {fa : Addr} (X : K.In h) (G : h.Ns mainGlobals mg) (hfa : mg "law" = some (.ref fa))
    {f0 f1 f2 f3 f4 f5 f6 f7 f8 f9 f10 f11 f12 f13 f14 f15 f16 f17 f18 f19 f20 f21 f22 f23 f24 f25 f26 f27 f28 f29 f30 f31 f32 f33 f34 f35 f36 f37 f38 f39 f40 f41 f42 CDecoder CSymbolReader CMotionGrid CFormat CSettings CPictureHeader XBadFormat XOutOfRange XBadHeader : Addr} {od0 an0 od1 an1 od2 an2 od3 an3 od4 an4 od5 an5 od6 an6 od7 an7 od8 an8 od9 an9 od10 an10 od11 an11 od12 an12 od13 an13 od14 an14 od15 an15 od16 an16 od17 an17 od18 an18 od19 an19 od20 an20 od21 an21 od22 an22 od23 an23 od24 an24 od25 an25 od26 an26 od27 an27 od28 an28 od29 an29 od30 an30 od31 an31 od32 an32 od33 an33 od34 an34 od35 an35 od36 an36 od37 an37 od38 an38 od39 an39 od40 an40 od41 an41 od42 an42 : Option Addr} {sl0 sl1 sl2 sl3 sl4 sl5 sl6 sl7 sl8 sl9 sl10 sl11 sl12 sl13 sl14 sl15 sl16 sl17 sl18 sl19 sl20 sl21 sl22 sl23 sl24 sl25 sl26 sl27 sl28 sl29 sl30 sl31 sl32 sl33 sl34 sl35 sl36 sl37 sl38 sl39 sl40 sl41 sl42 : Array (Option Value)} {oc0 kV0 dc0 pm0 cd0 ct0 oc1 kV1 dc1 pm1 cd1 ct1 oc2 dc2 pm2 cd2 ct2 oc3 kV3 dc3 pm3 cd3 ct3 oc4 kV4 dc4 pm4 cd4 ct4 oc5 kV5 dc5 pm5 cd5 ct5 oc6 kV6 dc6 pm6 cd6 ct6 oc7 kV7 dc7 pm7 cd7 ct7 oc8 kV8 dc8 pm8 cd8 ct8 oc9 kV9 dc9 pm9 cd9 ct9 oc10 kV10 dc10 pm10 cd10 ct10 oc11 kV11 dc11 pm11 cd11 ct11 oc12 kV12 dc12 pm12 cd12 ct12 oc13 kV13 dc13 pm13 cd13 ct13 oc14 kV14 dc14 pm14 cd14 ct14 oc15 kV15 dc15 pm15 cd15 ct15 oc16 dc16 pm16 cd16 ct16 oc17 kV17 dc17 pm17 cd17 ct17 oc18 kV18 dc18 pm18 cd18 ct18 oc19 kV19 dc19 pm19 cd19 ct19 oc20 dc20 pm20 cd20 ct20 oc21 kV21 dc21 pm21 cd21 ct21 oc22 kV22 dc22 pm22 cd22 ct22 oc23 kV23 dc23 pm23 cd23 ct23 oc24 kV24 dc24 pm24 cd24 ct24 oc25 kV25 dc25 pm25 cd25 ct25 oc26 kV26 dc26 pm26 cd26 ct26 oc27 kV27 dc27 pm27 cd27 ct27 oc28 kV28 dc28 pm28 cd28 ct28 oc29 kV29 dc29 pm29 cd29 ct29 oc30 kV30 dc30 pm30 cd30 ct30 oc31 kV31 dc31 pm31 cd31 ct31 oc32 kV32 dc32 pm32 cd32 ct32 oc33 kV33 dc33 pm33 cd33 ct33 oc34 kV34 dc34 pm34 cd34 ct34 oc35 kV35 dc35 pm35 cd35 ct35 oc36 kV36 dc36 pm36 cd36 ct36 oc37 dc37 pm37 cd37 ct37 oc38 kV38 dc38 pm38 cd38 ct38 oc39 kV39 dc39 pm39 cd39 ct39 oc40 kV40 dc40 pm40 cd40 ct40 oc41 kV41 dc41 pm41 cd41 ct41 oc42 kV42 dc42 pm42 cd42 ct42 : Value} {D2 : Addr} {ktk2_0 : Tok} {ktk2_1 : Tok} {ktk2_4 : Tok} {D16 : Addr} {ktk16_0 : Tok} {ktk16_1 : Tok} {ktk16_4 : Tok} {ktk16_5 : Tok} {ktk16_7 : Tok} {D20 : Addr} {ktk20_0 : Tok} {ktk20_1 : Tok} {D37 : Addr} {TG_KINDS : Addr} {td17 : Option Addr} {tn17 : Nat} {tsl17 : Array (Option Value)} {tk17_0 tk17_1 tk17_2 : Tok} {TG_REF_COUNTS : Addr} {tn22 : Nat} {tk22_0 tk22_1 tk22_2 : Tok} {th22_0 th22_1 th22_2 : Int} {TG_REF_COUNTS_2 : Addr} {td22_2 : Option Addr} {tn22_2 : Nat} {tsl22_2 : Array (Option Value)} {tk22_2_0 : Tok} {TG_REF_COUNTS_1 : Addr} {td22_1 : Option Addr} {tn22_1 : Nat} {tsl22_1 : Array (Option Value)} {tk22_1_0 tk22_1_1 : Tok} {TG_REF_COUNTS_0 : Addr} {td22_0 : Option Addr} {tn22_0 : Nat} {tsl22_0 : Array (Option Value)} {tk22_0_0 : Tok} {TD_PictureHeader___init___store : Addr} {tddPictureHeader___init___store : Option Addr} {tdnPictureHeader___init___store : Nat} {tdsPictureHeader___init___store : Array (Option Value)} {TD_PictureHeader___init___refs : Addr} {tddPictureHeader___init___refs : Option Addr} {tdnPictureHeader___init___refs : Nat} {tdsPictureHeader___init___refs : Array (Option Value)} {tk2 tk3 tk5 tk6 tk7 tk8 tk10 tk11 tk12 tk13 tk15 tk16 tk18 tk19 tk24 tk25 tk26 tk27 tk28 tk29 tk31 tk32 tk33 : Tok}
    (wDecoder : PySem.W.nsIn K mainGlobals "Decoder" = some (some (.ref CDecoder))) (wSymbolReader : PySem.W.nsIn K mainGlobals "SymbolReader" = some (some (.ref CSymbolReader))) (wMotionGrid : PySem.W.nsIn K mainGlobals "MotionGrid" = some (some (.ref CMotionGrid))) (wFormat : PySem.W.nsIn K mainGlobals "Format" = some (some (.ref CFormat))) (wSettings : PySem.W.nsIn K mainGlobals "Settings" = some (some (.ref CSettings))) (wPictureHeader : PySem.W.nsIn K mainGlobals "PictureHeader" = some (some (.ref CPictureHeader))) (vBadFormat : PySem.W.nsIn K mainGlobals "BadFormat" = some (some (.ref XBadFormat))) (vOutOfRange : PySem.W.nsIn K mainGlobals "OutOfRange" = some (some (.ref XOutOfRange))) (vBadHeader : PySem.W.nsIn K mainGlobals "BadHeader" = some (some (.ref XBadHeader))) (a0 : PySem.W.nsIn K mainGlobals "_law_draws" = some (some (.ref f0))) (l0 : K.lookup f0 = some ⟨oc0, od0, .func (PySem.W.fnOf "_law_draws" "_law_draws" (defArgs s__law_draws) (defBody s__law_draws) (defScope s__law_draws) .none kV0 dc0 pm0 an0 cd0 ct0), sl0⟩) (c0 : PySem.W.codeIn K cd0 "_law_draws" = true) (k0 : PySem.W.keepIn K (.ref f0) = true) (a1 : PySem.W.nsIn K mainGlobals "_require" = some (some (.ref f1))) (l1 : K.lookup f1 = some ⟨oc1, od1, .func (PySem.W.fnOf "_require" "_require" (defArgs s__require) (defBody s__require) (defScope s__require) .none kV1 dc1 pm1 an1 cd1 ct1), sl1⟩) (c1 : PySem.W.codeIn K cd1 "_require" = true) (k1 : PySem.W.keepIn K (.ref f1) = true) (a2 : PySem.W.findIn K (.ref CSettings) "__init__" = some (some (.ref f2))) (b2 : PySem.W.isFn K (.ref f2) = true) (d2 : PySem.W.makesIn K CSettings = true) (e2 : PySem.W.keepIn K (.ref CSettings) = true) (l2 : K.lookup f2 = some ⟨oc2, od2, .func (PySem.W.fnOf "__init__" "Settings.__init__" (defArgs s_Settings___init__) (defBody s_Settings___init__) (defScope s_Settings___init__) .none (.ref D2) dc2 pm2 an2 cd2 ct2), sl2⟩) (c2 : PySem.W.codeIn K cd2 "Settings.__init__" = true) (k2 : PySem.W.keepIn K (.ref f2) = true) (kd2_0 : PySem.W.nsIn K D2 "slots" = some (some (.int 1 ktk2_0))) (kd2_1 : PySem.W.nsIn K D2 "rows" = some (some (.int 1 ktk2_1))) (kd2_2 : PySem.W.nsIn K D2 "deblock" = some (some (.bool false))) (kd2_3 : PySem.W.nsIn K D2 "offset" = some (some (.bool false))) (kd2_4 : PySem.W.nsIn K D2 "layers" = some (some (.int 1 ktk2_4))) (a3 : PySem.W.nsIn K mainGlobals "_check_contexts" = some (some (.ref f3))) (l3 : K.lookup f3 = some ⟨oc3, od3, .func (PySem.W.fnOf "_check_contexts" "_check_contexts" (defArgs s__check_contexts) (defBody s__check_contexts) (defScope s__check_contexts) .none kV3 dc3 pm3 an3 cd3 ct3), sl3⟩) (c3 : PySem.W.codeIn K cd3 "_check_contexts" = true) (k3 : PySem.W.keepIn K (.ref f3) = true) (a4 : PySem.W.nsIn K mainGlobals "_check_unary" = some (some (.ref f4))) (l4 : K.lookup f4 = some ⟨oc4, od4, .func (PySem.W.fnOf "_check_unary" "_check_unary" (defArgs s__check_unary) (defBody s__check_unary) (defScope s__check_unary) .none kV4 dc4 pm4 an4 cd4 ct4), sl4⟩) (c4 : PySem.W.codeIn K cd4 "_check_unary" = true) (k4 : PySem.W.keepIn K (.ref f4) = true) (a5 : PySem.W.nsIn K mainGlobals "_check_context" = some (some (.ref f5))) (l5 : K.lookup f5 = some ⟨oc5, od5, .func (PySem.W.fnOf "_check_context" "_check_context" (defArgs s__check_context) (defBody s__check_context) (defScope s__check_context) .none kV5 dc5 pm5 an5 cd5 ct5), sl5⟩) (c5 : PySem.W.codeIn K cd5 "_check_context" = true) (k5 : PySem.W.keepIn K (.ref f5) = true) (a6 : PySem.W.nsIn K mainGlobals "_adapted" = some (some (.ref f6))) (l6 : K.lookup f6 = some ⟨oc6, od6, .func (PySem.W.fnOf "_adapted" "_adapted" (defArgs s__adapted) (defBody s__adapted) (defScope s__adapted) .none kV6 dc6 pm6 an6 cd6 ct6), sl6⟩) (c6 : PySem.W.codeIn K cd6 "_adapted" = true) (k6 : PySem.W.keepIn K (.ref f6) = true) (a7 : PySem.W.findIn K (.ref CDecoder) "_shift" = some (some (.ref f7))) (b7 : PySem.W.isFn K (.ref f7) = true) (l7 : K.lookup f7 = some ⟨oc7, od7, .func (PySem.W.fnOf "_shift" "Decoder._shift" (defArgs s_Decoder__shift) (defBody s_Decoder__shift) (defScope s_Decoder__shift) .none kV7 dc7 pm7 an7 cd7 ct7), sl7⟩) (c7 : PySem.W.codeIn K cd7 "Decoder._shift" = true) (k7 : PySem.W.keepIn K (.ref f7) = true) (a8 : PySem.W.findIn K (.ref CDecoder) "_decide" = some (some (.ref f8))) (b8 : PySem.W.isFn K (.ref f8) = true) (l8 : K.lookup f8 = some ⟨oc8, od8, .func (PySem.W.fnOf "_decide" "Decoder._decide" (defArgs s_Decoder__decide) (defBody s_Decoder__decide) (defScope s_Decoder__decide) .none kV8 dc8 pm8 an8 cd8 ct8), sl8⟩) (c8 : PySem.W.codeIn K cd8 "Decoder._decide" = true) (k8 : PySem.W.keepIn K (.ref f8) = true) (a9 : PySem.W.findIn K (.ref CDecoder) "read" = some (some (.ref f9))) (b9 : PySem.W.isFn K (.ref f9) = true) (l9 : K.lookup f9 = some ⟨oc9, od9, .func (PySem.W.fnOf "read" "Decoder.read" (defArgs s_Decoder_read) (defBody s_Decoder_read) (defScope s_Decoder_read) .none kV9 dc9 pm9 an9 cd9 ct9), sl9⟩) (c9 : PySem.W.codeIn K cd9 "Decoder.read" = true) (k9 : PySem.W.keepIn K (.ref f9) = true) (a10 : PySem.W.findIn K (.ref CSymbolReader) "unary" = some (some (.ref f10))) (b10 : PySem.W.isFn K (.ref f10) = true) (l10 : K.lookup f10 = some ⟨oc10, od10, .func (PySem.W.fnOf "unary" "SymbolReader.unary" (defArgs s_SymbolReader_unary) (defBody s_SymbolReader_unary) (defScope s_SymbolReader_unary) .none kV10 dc10 pm10 an10 cd10 ct10), sl10⟩) (c10 : PySem.W.codeIn K cd10 "SymbolReader.unary" = true) (k10 : PySem.W.keepIn K (.ref f10) = true) (a11 : PySem.W.nsIn K mainGlobals "_digit_context" = some (some (.ref f11))) (l11 : K.lookup f11 = some ⟨oc11, od11, .func (PySem.W.fnOf "_digit_context" "_digit_context" (defArgs s__digit_context) (defBody s__digit_context) (defScope s__digit_context) .none kV11 dc11 pm11 an11 cd11 ct11), sl11⟩) (c11 : PySem.W.codeIn K cd11 "_digit_context" = true) (k11 : PySem.W.keepIn K (.ref f11) = true) (a12 : PySem.W.findIn K (.ref CDecoder) "read_even" = some (some (.ref f12))) (b12 : PySem.W.isFn K (.ref f12) = true) (l12 : K.lookup f12 = some ⟨oc12, od12, .func (PySem.W.fnOf "read_even" "Decoder.read_even" (defArgs s_Decoder_read_even) (defBody s_Decoder_read_even) (defScope s_Decoder_read_even) .none kV12 dc12 pm12 an12 cd12 ct12), sl12⟩) (c12 : PySem.W.codeIn K cd12 "Decoder.read_even" = true) (k12 : PySem.W.keepIn K (.ref f12) = true) (a13 : PySem.W.findIn K (.ref CSymbolReader) "number" = some (some (.ref f13))) (b13 : PySem.W.isFn K (.ref f13) = true) (l13 : K.lookup f13 = some ⟨oc13, od13, .func (PySem.W.fnOf "number" "SymbolReader.number" (defArgs s_SymbolReader_number) (defBody s_SymbolReader_number) (defScope s_SymbolReader_number) .none kV13 dc13 pm13 an13 cd13 ct13), sl13⟩) (c13 : PySem.W.codeIn K cd13 "SymbolReader.number" = true) (k13 : PySem.W.keepIn K (.ref f13) = true) (a14 : PySem.W.nsIn K mainGlobals "_check_numbers" = some (some (.ref f14))) (l14 : K.lookup f14 = some ⟨oc14, od14, .func (PySem.W.fnOf "_check_numbers" "_check_numbers" (defArgs s__check_numbers) (defBody s__check_numbers) (defScope s__check_numbers) .none kV14 dc14 pm14 an14 cd14 ct14), sl14⟩) (c14 : PySem.W.codeIn K cd14 "_check_numbers" = true) (k14 : PySem.W.keepIn K (.ref f14) = true) (a15 : PySem.W.nsIn K mainGlobals "_check_slots" = some (some (.ref f15))) (l15 : K.lookup f15 = some ⟨oc15, od15, .func (PySem.W.fnOf "_check_slots" "_check_slots" (defArgs s__check_slots) (defBody s__check_slots) (defScope s__check_slots) .none kV15 dc15 pm15 an15 cd15 ct15), sl15⟩) (c15 : PySem.W.codeIn K cd15 "_check_slots" = true) (k15 : PySem.W.keepIn K (.ref f15) = true) (a16 : PySem.W.findIn K (.ref CPictureHeader) "__init__" = some (some (.ref f16))) (b16 : PySem.W.isFn K (.ref f16) = true) (d16 : PySem.W.makesIn K CPictureHeader = true) (e16 : PySem.W.keepIn K (.ref CPictureHeader) = true) (l16 : K.lookup f16 = some ⟨oc16, od16, .func (PySem.W.fnOf "__init__" "PictureHeader.__init__" (defArgs s_PictureHeader___init__) (defBody s_PictureHeader___init__) (defScope s_PictureHeader___init__) .none (.ref D16) dc16 pm16 an16 cd16 ct16), sl16⟩) (c16 : PySem.W.codeIn K cd16 "PictureHeader.__init__" = true) (k16 : PySem.W.keepIn K (.ref f16) = true) (kd16_0 : PySem.W.nsIn K D16 "kind" = some (some (.str "I" ktk16_0))) (kd16_1 : PySem.W.nsIn K D16 "level" = some (some (.int 0 ktk16_1))) (kd16_2 : PySem.W.nsIn K D16 "store" = some (some (.ref TD_PictureHeader___init___store))) (kd16_3 : PySem.W.nsIn K D16 "refs" = some (some (.ref TD_PictureHeader___init___refs))) (kd16_4 : PySem.W.nsIn K D16 "weight" = some (some (.int 8 ktk16_4))) (kd16_5 : PySem.W.nsIn K D16 "layer" = some (some (.int 0 ktk16_5))) (kd16_6 : PySem.W.nsIn K D16 "shown" = some (some (.bool true))) (kd16_7 : PySem.W.nsIn K D16 "edge" = some (some (.int 0 ktk16_7))) (a17 : PySem.W.findIn K (.ref CMotionGrid) "__init__" = some (some (.ref f17))) (b17 : PySem.W.isFn K (.ref f17) = true) (d17 : PySem.W.makesIn K CMotionGrid = true) (e17 : PySem.W.keepIn K (.ref CMotionGrid) = true) (l17 : K.lookup f17 = some ⟨oc17, od17, .func (PySem.W.fnOf "__init__" "MotionGrid.__init__" (defArgs s_MotionGrid___init__) (defBody s_MotionGrid___init__) (defScope s_MotionGrid___init__) .none kV17 dc17 pm17 an17 cd17 ct17), sl17⟩) (c17 : PySem.W.codeIn K cd17 "MotionGrid.__init__" = true) (k17 : PySem.W.keepIn K (.ref f17) = true) (a18 : PySem.W.findIn K (.ref CSymbolReader) "__init__" = some (some (.ref f18))) (b18 : PySem.W.isFn K (.ref f18) = true) (d18 : PySem.W.makesIn K CSymbolReader = true) (e18 : PySem.W.keepIn K (.ref CSymbolReader) = true) (l18 : K.lookup f18 = some ⟨oc18, od18, .func (PySem.W.fnOf "__init__" "SymbolReader.__init__" (defArgs s_SymbolReader___init__) (defBody s_SymbolReader___init__) (defScope s_SymbolReader___init__) .none kV18 dc18 pm18 an18 cd18 ct18), sl18⟩) (c18 : PySem.W.codeIn K cd18 "SymbolReader.__init__" = true) (k18 : PySem.W.keepIn K (.ref f18) = true) (a19 : PySem.W.nsIn K mainGlobals "_law_cell" = some (some (.ref f19))) (l19 : K.lookup f19 = some ⟨oc19, od19, .func (PySem.W.fnOf "_law_cell" "_law_cell" (defArgs s__law_cell) (defBody s__law_cell) (defScope s__law_cell) .none kV19 dc19 pm19 an19 cd19 ct19), sl19⟩) (c19 : PySem.W.codeIn K cd19 "_law_cell" = true) (k19 : PySem.W.keepIn K (.ref f19) = true) (a20 : PySem.W.findIn K (.ref CFormat) "__init__" = some (some (.ref f20))) (b20 : PySem.W.isFn K (.ref f20) = true) (d20 : PySem.W.makesIn K CFormat = true) (e20 : PySem.W.keepIn K (.ref CFormat) = true) (l20 : K.lookup f20 = some ⟨oc20, od20, .func (PySem.W.fnOf "__init__" "Format.__init__" (defArgs s_Format___init__) (defBody s_Format___init__) (defScope s_Format___init__) .none (.ref D20) dc20 pm20 an20 cd20 ct20), sl20⟩) (c20 : PySem.W.codeIn K cd20 "Format.__init__" = true) (k20 : PySem.W.keepIn K (.ref f20) = true) (kd20_0 : PySem.W.nsIn K D20 "depth" = some (some (.int 8 ktk20_0))) (kd20_1 : PySem.W.nsIn K D20 "chroma" = some (some (.int 0 ktk20_1))) (a21 : PySem.W.findIn K (.ref CDecoder) "__init__" = some (some (.ref f21))) (b21 : PySem.W.isFn K (.ref f21) = true) (d21 : PySem.W.makesIn K CDecoder = true) (e21 : PySem.W.keepIn K (.ref CDecoder) = true) (l21 : K.lookup f21 = some ⟨oc21, od21, .func (PySem.W.fnOf "__init__" "Decoder.__init__" (defArgs s_Decoder___init__) (defBody s_Decoder___init__) (defScope s_Decoder___init__) .none kV21 dc21 pm21 an21 cd21 ct21), sl21⟩) (c21 : PySem.W.codeIn K cd21 "Decoder.__init__" = true) (k21 : PySem.W.keepIn K (.ref f21) = true) (a22 : PySem.W.nsIn K mainGlobals "_choice_digits" = some (some (.ref f22))) (l22 : K.lookup f22 = some ⟨oc22, od22, .func (PySem.W.fnOf "_choice_digits" "_choice_digits" (defArgs s__choice_digits) (defBody s__choice_digits) (defScope s__choice_digits) .none kV22 dc22 pm22 an22 cd22 ct22), sl22⟩) (c22 : PySem.W.codeIn K cd22 "_choice_digits" = true) (k22 : PySem.W.keepIn K (.ref f22) = true) (a23 : PySem.W.findIn K (.ref CSymbolReader) "choice" = some (some (.ref f23))) (b23 : PySem.W.isFn K (.ref f23) = true) (l23 : K.lookup f23 = some ⟨oc23, od23, .func (PySem.W.fnOf "choice" "SymbolReader.choice" (defArgs s_SymbolReader_choice) (defBody s_SymbolReader_choice) (defScope s_SymbolReader_choice) .none kV23 dc23 pm23 an23 cd23 ct23), sl23⟩) (c23 : PySem.W.codeIn K cd23 "SymbolReader.choice" = true) (k23 : PySem.W.keepIn K (.ref f23) = true) (a24 : PySem.W.nsIn K mainGlobals "_law_vector" = some (some (.ref f24))) (l24 : K.lookup f24 = some ⟨oc24, od24, .func (PySem.W.fnOf "_law_vector" "_law_vector" (defArgs s__law_vector) (defBody s__law_vector) (defScope s__law_vector) .none kV24 dc24 pm24 an24 cd24 ct24), sl24⟩) (c24 : PySem.W.codeIn K cd24 "_law_vector" = true) (k24 : PySem.W.keepIn K (.ref f24) = true) (a25 : PySem.W.nsIn K mainGlobals "_law_median" = some (some (.ref f25))) (l25 : K.lookup f25 = some ⟨oc25, od25, .func (PySem.W.fnOf "_law_median" "_law_median" (defArgs s__law_median) (defBody s__law_median) (defScope s__law_median) .none kV25 dc25 pm25 an25 cd25 ct25), sl25⟩) (c25 : PySem.W.codeIn K cd25 "_law_median" = true) (k25 : PySem.W.keepIn K (.ref f25) = true) (a26 : PySem.W.nsIn K mainGlobals "_law_predicted" = some (some (.ref f26))) (l26 : K.lookup f26 = some ⟨oc26, od26, .func (PySem.W.fnOf "_law_predicted" "_law_predicted" (defArgs s__law_predicted) (defBody s__law_predicted) (defScope s__law_predicted) .none kV26 dc26 pm26 an26 cd26 ct26), sl26⟩) (c26 : PySem.W.codeIn K cd26 "_law_predicted" = true) (k26 : PySem.W.keepIn K (.ref f26) = true) (a27 : PySem.W.findIn K (.ref CSymbolReader) "signed" = some (some (.ref f27))) (b27 : PySem.W.isFn K (.ref f27) = true) (l27 : K.lookup f27 = some ⟨oc27, od27, .func (PySem.W.fnOf "signed" "SymbolReader.signed" (defArgs s_SymbolReader_signed) (defBody s_SymbolReader_signed) (defScope s_SymbolReader_signed) .none kV27 dc27 pm27 an27 cd27 ct27), sl27⟩) (c27 : PySem.W.codeIn K cd27 "SymbolReader.signed" = true) (k27 : PySem.W.keepIn K (.ref f27) = true) (a28 : PySem.W.nsIn K mainGlobals "_law_due" = some (some (.ref f28))) (l28 : K.lookup f28 = some ⟨oc28, od28, .func (PySem.W.fnOf "_law_due" "_law_due" (defArgs s__law_due) (defBody s__law_due) (defScope s__law_due) .none kV28 dc28 pm28 an28 cd28 ct28), sl28⟩) (c28 : PySem.W.codeIn K cd28 "_law_due" = true) (k28 : PySem.W.keepIn K (.ref f28) = true) (a29 : PySem.W.nsIn K mainGlobals "clip" = some (some (.ref f29))) (l29 : K.lookup f29 = some ⟨oc29, od29, .func (PySem.W.fnOf "clip" "clip" (defArgs s_clip) (defBody s_clip) (defScope s_clip) .none kV29 dc29 pm29 an29 cd29 ct29), sl29⟩) (c29 : PySem.W.codeIn K cd29 "clip" = true) (k29 : PySem.W.keepIn K (.ref f29) = true) (a30 : PySem.W.nsIn K mainGlobals "_clip_component" = some (some (.ref f30))) (l30 : K.lookup f30 = some ⟨oc30, od30, .func (PySem.W.fnOf "_clip_component" "_clip_component" (defArgs s__clip_component) (defBody s__clip_component) (defScope s__clip_component) .none kV30 dc30 pm30 an30 cd30 ct30), sl30⟩) (c30 : PySem.W.codeIn K cd30 "_clip_component" = true) (k30 : PySem.W.keepIn K (.ref f30) = true) (a31 : PySem.W.nsIn K mainGlobals "clip_vector" = some (some (.ref f31))) (l31 : K.lookup f31 = some ⟨oc31, od31, .func (PySem.W.fnOf "clip_vector" "clip_vector" (defArgs s_clip_vector) (defBody s_clip_vector) (defScope s_clip_vector) .none kV31 dc31 pm31 an31 cd31 ct31), sl31⟩) (c31 : PySem.W.codeIn K cd31 "clip_vector" = true) (k31 : PySem.W.keepIn K (.ref f31) = true) (a32 : PySem.W.nsIn K mainGlobals "_read_vector" = some (some (.ref f32))) (l32 : K.lookup f32 = some ⟨oc32, od32, .func (PySem.W.fnOf "_read_vector" "_read_vector" (defArgs s__read_vector) (defBody s__read_vector) (defScope s__read_vector) .none kV32 dc32 pm32 an32 cd32 ct32), sl32⟩) (c32 : PySem.W.codeIn K cd32 "_read_vector" = true) (k32 : PySem.W.keepIn K (.ref f32) = true) (a33 : PySem.W.nsIn K mainGlobals "_median" = some (some (.ref f33))) (l33 : K.lookup f33 = some ⟨oc33, od33, .func (PySem.W.fnOf "_median" "_median" (defArgs s__median) (defBody s__median) (defScope s__median) .none kV33 dc33 pm33 an33 cd33 ct33), sl33⟩) (c33 : PySem.W.codeIn K cd33 "_median" = true) (k33 : PySem.W.keepIn K (.ref f33) = true) (a34 : PySem.W.findIn K (.ref CMotionGrid) "_has" = some (some (.ref f34))) (b34 : PySem.W.isFn K (.ref f34) = true) (l34 : K.lookup f34 = some ⟨oc34, od34, .func (PySem.W.fnOf "_has" "MotionGrid._has" (defArgs s_MotionGrid__has) (defBody s_MotionGrid__has) (defScope s_MotionGrid__has) .none kV34 dc34 pm34 an34 cd34 ct34), sl34⟩) (c34 : PySem.W.codeIn K cd34 "MotionGrid._has" = true) (k34 : PySem.W.keepIn K (.ref f34) = true) (a35 : PySem.W.findIn K (.ref CMotionGrid) "motion_at" = some (some (.ref f35))) (b35 : PySem.W.isFn K (.ref f35) = true) (l35 : K.lookup f35 = some ⟨oc35, od35, .func (PySem.W.fnOf "motion_at" "MotionGrid.motion_at" (defArgs s_MotionGrid_motion_at) (defBody s_MotionGrid_motion_at) (defScope s_MotionGrid_motion_at) .none kV35 dc35 pm35 an35 cd35 ct35), sl35⟩) (c35 : PySem.W.codeIn K cd35 "MotionGrid.motion_at" = true) (k35 : PySem.W.keepIn K (.ref f35) = true) (a36 : PySem.W.findIn K (.ref CMotionGrid) "_vector_at" = some (some (.ref f36))) (b36 : PySem.W.isFn K (.ref f36) = true) (l36 : K.lookup f36 = some ⟨oc36, od36, .func (PySem.W.fnOf "_vector_at" "MotionGrid._vector_at" (defArgs s_MotionGrid__vector_at) (defBody s_MotionGrid__vector_at) (defScope s_MotionGrid__vector_at) .none kV36 dc36 pm36 an36 cd36 ct36), sl36⟩) (c36 : PySem.W.codeIn K cd36 "MotionGrid._vector_at" = true) (k36 : PySem.W.keepIn K (.ref f36) = true) (a37 : PySem.W.findIn K (.ref CMotionGrid) "predicted" = some (some (.ref f37))) (b37 : PySem.W.isFn K (.ref f37) = true) (l37 : K.lookup f37 = some ⟨oc37, od37, .func (PySem.W.fnOf "predicted" "MotionGrid.predicted" (defArgs s_MotionGrid_predicted) (defBody s_MotionGrid_predicted) (defScope s_MotionGrid_predicted) .none (.ref D37) dc37 pm37 an37 cd37 ct37), sl37⟩) (c37 : PySem.W.codeIn K cd37 "MotionGrid.predicted" = true) (k37 : PySem.W.keepIn K (.ref f37) = true) (kd37_0 : PySem.W.nsIn K D37 "second" = some (some (.bool false))) (a38 : PySem.W.nsIn K mainGlobals "read_motion" = some (some (.ref f38))) (l38 : K.lookup f38 = some ⟨oc38, od38, .func (PySem.W.fnOf "read_motion" "read_motion" (defArgs s_read_motion) (defBody s_read_motion) (defScope s_read_motion) .none kV38 dc38 pm38 an38 cd38 ct38), sl38⟩) (c38 : PySem.W.codeIn K cd38 "read_motion" = true) (k38 : PySem.W.keepIn K (.ref f38) = true) (a39 : PySem.W.findIn K (.ref CMotionGrid) "keep_quarter" = some (some (.ref f39))) (b39 : PySem.W.isFn K (.ref f39) = true) (l39 : K.lookup f39 = some ⟨oc39, od39, .func (PySem.W.fnOf "keep_quarter" "MotionGrid.keep_quarter" (defArgs s_MotionGrid_keep_quarter) (defBody s_MotionGrid_keep_quarter) (defScope s_MotionGrid_keep_quarter) .none kV39 dc39 pm39 an39 cd39 ct39), sl39⟩) (c39 : PySem.W.codeIn K cd39 "MotionGrid.keep_quarter" = true) (k39 : PySem.W.keepIn K (.ref f39) = true) (a40 : PySem.W.nsIn K mainGlobals "_law_is_vector" = some (some (.ref f40))) (l40 : K.lookup f40 = some ⟨oc40, od40, .func (PySem.W.fnOf "_law_is_vector" "_law_is_vector" (defArgs s__law_is_vector) (defBody s__law_is_vector) (defScope s__law_is_vector) .none kV40 dc40 pm40 an40 cd40 ct40), sl40⟩) (c40 : PySem.W.codeIn K cd40 "_law_is_vector" = true) (k40 : PySem.W.keepIn K (.ref f40) = true) (a41 : PySem.W.nsIn K mainGlobals "_law_is_motion" = some (some (.ref f41))) (l41 : K.lookup f41 = some ⟨oc41, od41, .func (PySem.W.fnOf "_law_is_motion" "_law_is_motion" (defArgs s__law_is_motion) (defBody s__law_is_motion) (defScope s__law_is_motion) .none kV41 dc41 pm41 an41 cd41 ct41), sl41⟩) (c41 : PySem.W.codeIn K cd41 "_law_is_motion" = true) (k41 : PySem.W.keepIn K (.ref f41) = true) (a42 : PySem.W.nsIn K mainGlobals "law" = some (some (.ref f42))) (l42 : K.lookup f42 = some ⟨oc42, od42, .func (PySem.W.fnOf "law" "law" (defArgs s_law) (defBody s_law) (defScope s_law) .none kV42 dc42 pm42 an42 cd42 ct42), sl42⟩) (c42 : PySem.W.codeIn K cd42 "law" = true) (k42 : PySem.W.keepIn K (.ref f42) = true)
    (z0 : PySem.W.nsIn K mainGlobals "abs" = some none) (z1 : PySem.W.nsIn K mainGlobals "int" = some none) (z2 : PySem.W.nsIn K mainGlobals "CONTEXTS_symbols" = some (some (.int 256 tk2))) (z3 : PySem.W.nsIn K mainGlobals "GREATEST_UNARY" = some (some (.int 64 tk3))) (z4 : PySem.W.nsIn K mainGlobals "min" = some none) (z5 : PySem.W.nsIn K mainGlobals "SHARED" = some (some (.int 8 tk5))) (z6 : PySem.W.nsIn K mainGlobals "CONTEXTS_coder" = some (some (.int 256 tk6))) (z7 : PySem.W.nsIn K mainGlobals "SCALE" = some (some (.int 4096 tk7))) (z8 : PySem.W.nsIn K mainGlobals "RATE" = some (some (.int 5 tk8))) (z9 : PySem.W.nsIn K mainGlobals "len" = some none) (z10 : PySem.W.nsIn K mainGlobals "SCALE_BITS" = some (some (.int 12 tk10))) (z11 : PySem.W.nsIn K mainGlobals "LEAST_SPAN" = some (some (.int 16777216 tk11))) (z12 : PySem.W.nsIn K mainGlobals "EVEN" = some (some (.int 2048 tk12))) (z13 : PySem.W.nsIn K mainGlobals "MOST_DIGITS" = some (some (.int 20 tk13))) (z14 : PySem.W.nsIn K mainGlobals "range" = some none) (z15 : PySem.W.nsIn K mainGlobals "GREATEST_NUMBER_symbols" = some (some (.int 1048576 tk15))) (z16 : PySem.W.nsIn K mainGlobals "GREATEST_NUMBER_headers" = some (some (.int 999 tk16))) (z17 : PySem.W.nsIn K mainGlobals "KINDS" = some (some (.ref TG_KINDS))) (y17 : K.lookup TG_KINDS = some ⟨.type "tuple", td17, .seq #[.str "I" tk17_0, .str "P" tk17_1, .str "B" tk17_2] tn17, tsl17⟩) (z18 : PySem.W.nsIn K mainGlobals "GREATEST_LEVEL" = some (some (.int 31 tk18))) (z19 : PySem.W.nsIn K mainGlobals "EVEN_WEIGHT" = some (some (.int 8 tk19))) (z20 : PySem.W.nsIn K mainGlobals "sorted" = some none) (z21 : PySem.W.nsIn K mainGlobals "set" = some none) (z22 : PySem.W.nsIn K mainGlobals "REF_COUNTS" = some (some (.ref TG_REF_COUNTS))) (y22 : K.lookup TG_REF_COUNTS = some ⟨.type "dict", none, .dict #[⟨th22_0, .str "I" tk22_0, .ref TG_REF_COUNTS_0⟩, ⟨th22_1, .str "P" tk22_1, .ref TG_REF_COUNTS_1⟩, ⟨th22_2, .str "B" tk22_2, .ref TG_REF_COUNTS_2⟩] tn22, #[]⟩) (u22_0 : th22_0 = PyData.keyHash w.params "I") (u22_1 : th22_1 = PyData.keyHash w.params "P") (u22_2 : th22_2 = PyData.keyHash w.params "B") (y22_2 : K.lookup TG_REF_COUNTS_2 = some ⟨.type "tuple", td22_2, .seq #[.int 2 tk22_2_0] tn22_2, tsl22_2⟩) (y22_1 : K.lookup TG_REF_COUNTS_1 = some ⟨.type "tuple", td22_1, .seq #[.int 1 tk22_1_0, .int 2 tk22_1_1] tn22_1, tsl22_1⟩) (y22_0 : K.lookup TG_REF_COUNTS_0 = some ⟨.type "tuple", td22_0, .seq #[.int 0 tk22_0_0] tn22_0, tsl22_0⟩) (z23 : PySem.W.nsIn K mainGlobals "list" = some none) (z24 : PySem.W.nsIn K mainGlobals "WORD" = some (some (.int 4294967296 tk24))) (z25 : PySem.W.nsIn K mainGlobals "MOST_CHOICES" = some (some (.int 16 tk25))) (z26 : PySem.W.nsIn K mainGlobals "INDEX" = some (some (.int 24 tk26))) (z27 : PySem.W.nsIn K mainGlobals "DIRECTION" = some (some (.int 20 tk27))) (z28 : PySem.W.nsIn K mainGlobals "VECTOR_X" = some (some (.int 25 tk28))) (z29 : PySem.W.nsIn K mainGlobals "VECTOR_Y" = some (some (.int 41 tk29))) (z30 : PySem.W.nsIn K mainGlobals "max" = some none) (z31 : PySem.W.nsIn K mainGlobals "GREATEST_COMPONENT" = some (some (.int 1023 tk31))) (z32 : PySem.W.nsIn K mainGlobals "SECOND" = some (some (.int 3 tk32))) (z33 : PySem.W.nsIn K mainGlobals "FIRST" = some (some (.int 2 tk33))) (z34 : PySem.W.nsIn K mainGlobals "isinstance" = some none) (z35 : PySem.W.nsIn K mainGlobals "tuple" = some none) (z36 : PySem.W.nsIn K mainGlobals "bool" = some none) (ytPictureHeader___init___store : K.lookup TD_PictureHeader___init___store = some ⟨.type "tuple", tddPictureHeader___init___store, .seq #[] tdnPictureHeader___init___store, tdsPictureHeader___init___store⟩) (ytPictureHeader___init___refs : K.lookup TD_PictureHeader___init___refs = some ⟨.type "tuple", tddPictureHeader___init___refs, .seq #[] tdnPictureHeader___init___refs, tdsPictureHeader___init___refs⟩) (ySettings0 : PySem.W.plainGet K CSettings Str.empty = true) (ySettings1 : PySem.W.hasDictIn K CSettings = true) (ySettings2 : PySem.W.plainOver K CSettings = true) (ySettings3 : PySem.W.findIn K (.ref CSettings) "__setattr__" = some (some (.builtin "object.__setattr__"))) (xSettings0 : PySem.W.findIn K (.ref CSettings) "fmt" = some none) (xSettings1 : PySem.W.findIn K (.ref CSettings) "slots" = some none) (xSettings2 : PySem.W.findIn K (.ref CSettings) "rows" = some none) (xSettings3 : PySem.W.findIn K (.ref CSettings) "deblock" = some none) (xSettings4 : PySem.W.findIn K (.ref CSettings) "offset" = some none) (xSettings5 : PySem.W.findIn K (.ref CSettings) "layers" = some none) (yDecoder0 : PySem.W.plainGet K CDecoder Str.empty = true) (yDecoder1 : PySem.W.hasDictIn K CDecoder = true) (yDecoder2 : PySem.W.plainOver K CDecoder = true) (yDecoder3 : PySem.W.findIn K (.ref CDecoder) "__setattr__" = some (some (.builtin "object.__setattr__"))) (xDecoder0 : PySem.W.findIn K (.ref CDecoder) "_probabilities" = some none) (xDecoder1 : PySem.W.findIn K (.ref CDecoder) "_octets" = some none) (xDecoder2 : PySem.W.findIn K (.ref CDecoder) "_place" = some none) (xDecoder3 : PySem.W.findIn K (.ref CDecoder) "_span" = some none) (xDecoder4 : PySem.W.findIn K (.ref CDecoder) "_value" = some none) (ySymbolReader0 : PySem.W.plainGet K CSymbolReader Str.empty = true) (ySymbolReader1 : PySem.W.hasDictIn K CSymbolReader = true) (ySymbolReader2 : PySem.W.plainOver K CSymbolReader = true) (ySymbolReader3 : PySem.W.findIn K (.ref CSymbolReader) "__setattr__" = some (some (.builtin "object.__setattr__"))) (xSymbolReader0 : PySem.W.findIn K (.ref CSymbolReader) "_decoder" = some none) (yPictureHeader0 : PySem.W.plainGet K CPictureHeader Str.empty = true) (yPictureHeader1 : PySem.W.hasDictIn K CPictureHeader = true) (yPictureHeader2 : PySem.W.plainOver K CPictureHeader = true) (yPictureHeader3 : PySem.W.findIn K (.ref CPictureHeader) "__setattr__" = some (some (.builtin "object.__setattr__"))) (xPictureHeader0 : PySem.W.findIn K (.ref CPictureHeader) "number" = some none) (xPictureHeader1 : PySem.W.findIn K (.ref CPictureHeader) "kind" = some none) (xPictureHeader2 : PySem.W.findIn K (.ref CPictureHeader) "level" = some none) (xPictureHeader3 : PySem.W.findIn K (.ref CPictureHeader) "store" = some none) (xPictureHeader4 : PySem.W.findIn K (.ref CPictureHeader) "refs" = some none) (xPictureHeader5 : PySem.W.findIn K (.ref CPictureHeader) "weight" = some none) (xPictureHeader6 : PySem.W.findIn K (.ref CPictureHeader) "layer" = some none) (xPictureHeader7 : PySem.W.findIn K (.ref CPictureHeader) "shown" = some none) (xPictureHeader8 : PySem.W.findIn K (.ref CPictureHeader) "edge" = some none) (yMotionGrid0 : PySem.W.plainGet K CMotionGrid Str.empty = true) (yMotionGrid1 : PySem.W.hasDictIn K CMotionGrid = true) (yMotionGrid2 : PySem.W.plainOver K CMotionGrid = true) (yMotionGrid3 : PySem.W.findIn K (.ref CMotionGrid) "__setattr__" = some (some (.builtin "object.__setattr__"))) (xMotionGrid0 : PySem.W.findIn K (.ref CMotionGrid) "_width" = some none) (xMotionGrid1 : PySem.W.findIn K (.ref CMotionGrid) "_height" = some none) (xMotionGrid2 : PySem.W.findIn K (.ref CMotionGrid) "_lines" = some none) (yFormat0 : PySem.W.plainGet K CFormat Str.empty = true) (yFormat1 : PySem.W.hasDictIn K CFormat = true) (yFormat2 : PySem.W.plainOver K CFormat = true) (yFormat3 : PySem.W.findIn K (.ref CFormat) "__setattr__" = some (some (.builtin "object.__setattr__"))) (xFormat0 : PySem.W.findIn K (.ref CFormat) "width" = some none) (xFormat1 : PySem.W.findIn K (.ref CFormat) "height" = some none) (xFormat2 : PySem.W.findIn K (.ref CFormat) "depth" = some none) (xFormat3 : PySem.W.findIn K (.ref CFormat) "chroma" = some none) (exBadHeader : PySem.W.excIn K XBadHeader [.type "ValueError", .type "Exception", .type "BaseException", .type "object"] "ValueError.__new__" = true) (ekBadHeader : PySem.W.keepIn K (.ref XBadHeader) = true) (ebBadHeader : PySem.W.subIn K (.ref XBadHeader) (.type "BaseException") = some true) (etBadHeader : PySem.W.typeIn K (.ref XBadHeader) = some (.type "type")) (exOutOfRange : PySem.W.excIn K XOutOfRange [.type "ValueError", .type "Exception", .type "BaseException", .type "object"] "ValueError.__new__" = true) (ekOutOfRange : PySem.W.keepIn K (.ref XOutOfRange) = true) (ebOutOfRange : PySem.W.subIn K (.ref XOutOfRange) (.type "BaseException") = some true) (etOutOfRange : PySem.W.typeIn K (.ref XOutOfRange) = some (.type "type")) (exBadFormat : PySem.W.excIn K XBadFormat [.type "ValueError", .type "Exception", .type "BaseException", .type "object"] "ValueError.__new__" = true) (ekBadFormat : PySem.W.keepIn K (.ref XBadFormat) = true) (ebBadFormat : PySem.W.subIn K (.ref XBadFormat) (.type "BaseException") = some true) (etBadFormat : PySem.W.typeIn K (.ref XBadFormat) = some (.type "type")) :
    ∃ fd : FuncData, (∀ (s : Shared) (v : Value), BindsTo s fd ⟨[v], []⟩ [("script", v)]) ∧ ∀ base : Heap, K.In base → base.Ns mainGlobals mg → FnG l.prog w K mg base CX0 9 fa fd ["script"] (spL K) := by
  have e := hfa.symm.trans (PySem.W.mg_of X G a42)
  cases e
  have T : Txt w K mg ⟨TD_PictureHeader___init___store, TD_PictureHeader___init___refs, CDecoder, CSymbolReader, CMotionGrid, CFormat, CSettings, CPictureHeader, fa, XBadFormat, XOutOfRange, XBadHeader, TG_KINDS, TG_REF_COUNTS, TG_REF_COUNTS_0, TG_REF_COUNTS_1, TG_REF_COUNTS_2, fa⟩ := ⟨PySem.W.mg_none_of X G z0, PySem.W.mg_none_of X G z1, ⟨_, PySem.W.mg_of X G z2, ⟨_, rfl⟩⟩, ⟨_, PySem.W.mg_of X G z3, ⟨_, rfl⟩⟩, PySem.W.mg_none_of X G z4, ⟨_, PySem.W.mg_of X G z5, ⟨_, rfl⟩⟩, ⟨_, PySem.W.mg_of X G z6, ⟨_, rfl⟩⟩, ⟨_, PySem.W.mg_of X G z7, ⟨_, rfl⟩⟩, ⟨_, PySem.W.mg_of X G z8, ⟨_, rfl⟩⟩, PySem.W.mg_none_of X G z9, ⟨_, PySem.W.mg_of X G z10, ⟨_, rfl⟩⟩, ⟨_, PySem.W.mg_of X G z11, ⟨_, rfl⟩⟩, ⟨_, PySem.W.mg_of X G z12, ⟨_, rfl⟩⟩, ⟨_, PySem.W.mg_of X G z13, ⟨_, rfl⟩⟩, PySem.W.mg_none_of X G z14, ⟨_, PySem.W.mg_of X G z15, ⟨_, rfl⟩⟩, ⟨_, PySem.W.mg_of X G z16, ⟨_, rfl⟩⟩, ⟨_, PySem.W.mg_of X G z17, rfl⟩, fun H => .inr ⟨_, _, _, y17, rfl, rfl, (by show 3 ≤ sizeLine; decide), (.cons ⟨_, rfl⟩ (.cons ⟨_, rfl⟩ (.cons ⟨_, rfl⟩ .nil)))⟩, ⟨_, PySem.W.mg_of X G z18, ⟨_, rfl⟩⟩, ⟨_, PySem.W.mg_of X G z19, ⟨_, rfl⟩⟩, PySem.W.mg_none_of X G z20, PySem.W.mg_none_of X G z21, ⟨_, PySem.W.mg_of X G z22, rfl⟩, ⟨_, _, y22, (.cons u22_0 (.cons u22_1 (.cons u22_2 .nil)))⟩, fun z h => F2.hasK (P := fun (a : Addr) (xs : List Int) => ∀ H, SqT K H a (xs.map V.int)) (.cons ⟨rfl, fun H => .inr ⟨_, _, _, y22_0, rfl, rfl, (by show 1 ≤ sizeLine; decide), (.cons ⟨_, rfl⟩ .nil)⟩⟩ (.cons ⟨rfl, fun H => .inr ⟨_, _, _, y22_1, rfl, rfl, (by show 2 ≤ sizeLine; decide), (.cons ⟨_, rfl⟩ (.cons ⟨_, rfl⟩ .nil))⟩⟩ (.cons ⟨rfl, fun H => .inr ⟨_, _, _, y22_2, rfl, rfl, (by show 1 ≤ sizeLine; decide), (.cons ⟨_, rfl⟩ .nil)⟩⟩ .nil))) h, fun z h => F2.look (P := fun (a : Addr) (xs : List Int) => ∀ H, SqT K H a (xs.map V.int)) (.cons ⟨rfl, fun H => .inr ⟨_, _, _, y22_0, rfl, rfl, (by show 1 ≤ sizeLine; decide), (.cons ⟨_, rfl⟩ .nil)⟩⟩ (.cons ⟨rfl, fun H => .inr ⟨_, _, _, y22_1, rfl, rfl, (by show 2 ≤ sizeLine; decide), (.cons ⟨_, rfl⟩ (.cons ⟨_, rfl⟩ .nil))⟩⟩ (.cons ⟨rfl, fun H => .inr ⟨_, _, _, y22_2, rfl, rfl, (by show 1 ≤ sizeLine; decide), (.cons ⟨_, rfl⟩ .nil)⟩⟩ .nil))) h, PySem.W.mg_none_of X G z23, ⟨_, PySem.W.mg_of X G z24, ⟨_, rfl⟩⟩, ⟨_, PySem.W.mg_of X G z25, ⟨_, rfl⟩⟩, ⟨_, PySem.W.mg_of X G z26, ⟨_, rfl⟩⟩, ⟨_, PySem.W.mg_of X G z27, ⟨_, rfl⟩⟩, ⟨_, PySem.W.mg_of X G z28, ⟨_, rfl⟩⟩, ⟨_, PySem.W.mg_of X G z29, ⟨_, rfl⟩⟩, PySem.W.mg_none_of X G z30, ⟨_, PySem.W.mg_of X G z31, ⟨_, rfl⟩⟩, ⟨_, PySem.W.mg_of X G z32, ⟨_, rfl⟩⟩, ⟨_, PySem.W.mg_of X G z33, ⟨_, rfl⟩⟩, PySem.W.mg_none_of X G z34, PySem.W.mg_none_of X G z35, PySem.W.mg_none_of X G z36, fun H => .inr ⟨_, _, _, ytPictureHeader___init___store, rfl, rfl, (by show 0 ≤ sizeLine; decide), .nil⟩, fun H => .inr ⟨_, _, _, ytPictureHeader___init___refs, rfl, rfl, (by show 0 ≤ sizeLine; decide), .nil⟩, ⟨ySettings0, ySettings1, ySettings2, ySettings3⟩, xSettings0, xSettings1, xSettings2, xSettings3, xSettings4, xSettings5, ⟨yDecoder0, yDecoder1, yDecoder2, yDecoder3⟩, xDecoder0, xDecoder1, xDecoder2, xDecoder3, xDecoder4, ⟨ySymbolReader0, ySymbolReader1, ySymbolReader2, ySymbolReader3⟩, xSymbolReader0, ⟨yPictureHeader0, yPictureHeader1, yPictureHeader2, yPictureHeader3⟩, xPictureHeader0, xPictureHeader1, xPictureHeader2, xPictureHeader3, xPictureHeader4, xPictureHeader5, xPictureHeader6, xPictureHeader7, xPictureHeader8, ⟨yMotionGrid0, yMotionGrid1, yMotionGrid2, yMotionGrid3⟩, xMotionGrid0, xMotionGrid1, xMotionGrid2, ⟨yFormat0, yFormat1, yFormat2, yFormat3⟩, xFormat0, xFormat1, xFormat2, xFormat3, PySem.W.mg_of X G vBadHeader, exBadHeader, ekBadHeader, ebBadHeader, etBadHeader, PySem.W.mg_of X G vOutOfRange, exOutOfRange, ekOutOfRange, ebOutOfRange, etOutOfRange, PySem.W.mg_of X G vBadFormat, exBadFormat, ekBadFormat, ebBadFormat, etBadFormat⟩
  have F0 : FunD K "_law_draws" "_law_draws" (defArgs s__law_draws) (defBody s__law_draws) (defScope s__law_draws) [] [] f0 _ := ⟨⟨_, _, _, _, _, _, _, _, _, _, rfl, l0, c0, .inl ⟨rfl, rfl⟩, .inl rfl⟩, k0⟩
  have D_0 : DefX K mg "_law_draws" s__law_draws ["cell", "limits"] pats__law_draws := ⟨_, _, _, _, F0, PySem.W.mg_of X G a0, (all_consQ (Bnd.all fun us ws vs zs l1 l2 r rz => by
      obtain ⟨u0, u1, rfl⟩ := len2 (r.length.symm.trans l1)
      obtain rfl := len0 (rz.length.symm.trans l2)
      cases r with | cons r0 r =>
        cases r with | cons r1 r =>
          cases r
          cases rz
          exact ⟨[u0, u1], rfl, (.cons r0 (.cons r1 .nil))⟩) all_nilQ)⟩
  have F1 : FunD K "_require" "_require" (defArgs s__require) (defBody s__require) (defScope s__require) [] [] f1 _ := ⟨⟨_, _, _, _, _, _, _, _, _, _, rfl, l1, c1, .inl ⟨rfl, rfl⟩, .inl rfl⟩, k1⟩
  have D_1 : DefX K mg "_require" s__require ["holds", "text"] pats__require := ⟨_, _, _, _, F1, PySem.W.mg_of X G a1, (all_consQ (Bnd.all fun us ws vs zs l1 l2 r rz => by
      obtain ⟨u0, u1, rfl⟩ := len2 (r.length.symm.trans l1)
      obtain rfl := len0 (rz.length.symm.trans l2)
      cases r with | cons r0 r =>
        cases r with | cons r1 r =>
          cases r
          cases rz
          exact ⟨[u0, u1], rfl, (.cons r0 (.cons r1 .nil))⟩) all_nilQ)⟩
  have F2 : FunD K "__init__" "Settings.__init__" (defArgs s_Settings___init__) (defBody s_Settings___init__) (defScope s_Settings___init__) [] [("slots", V.int 1), ("rows", V.int 1), ("deblock", V.bl false), ("offset", V.bl false), ("layers", V.int 1)] f2 _ := ⟨⟨_, _, _, _, _, _, _, _, _, _, rfl, l2, c2, .inl ⟨rfl, rfl⟩, (.inr ⟨_, rfl, (all_consQ ⟨_, kd2_0, ⟨_, rfl⟩⟩ (all_consQ ⟨_, kd2_1, ⟨_, rfl⟩⟩ (all_consQ ⟨_, kd2_2, rfl⟩ (all_consQ ⟨_, kd2_3, rfl⟩ (all_consQ ⟨_, kd2_4, ⟨_, rfl⟩⟩ all_nilQ)))))⟩)⟩, k2⟩
  have D_2 : InitX K mg CSettings "Settings" "Settings.__init__" s_Settings___init__ ["self", "fmt", "slots", "rows", "deblock", "offset", "layers"] pats_Settings___init__ := ⟨_, _, _, _, F2, ⟨d2, a2, b2, e2⟩, PySem.W.mg_of X G wSettings, (all_consQ (Exists.elim (FunD.kbinds0 F2 2 ["slots"] [("rows", V.int 1), ("deblock", V.bl false), ("offset", V.bl false), ("layers", V.int 1)] (fun {α} => gk_Settings___init___0 (α := α)) (by simp) (by simp) (fun r s q => gkrel_Settings___init___0 r s q) (fun D doc pm an cdv ct us mv ws h1 h2 h3 => by
        obtain ⟨u0, u1, rfl⟩ := len2 h1
        obtain ⟨m0, m1, m2, m3, rfl⟩ := len4 h2
        obtain ⟨w0, rfl⟩ := len1 h3
        exact ⟨_, _, _, _, _, _, rfl, rfl, ⟨_, _, _, _, _, _, rfl, rfl, ⟨_, _, _, _, _, _, rfl, rfl, ⟨_, _, _, _, _, _, rfl, rfl, rfl⟩⟩⟩⟩)) fun _ hb => Bnd.of_kbn hb) all_nilQ)⟩
  have F3 : FunD K "_check_contexts" "_check_contexts" (defArgs s__check_contexts) (defBody s__check_contexts) (defScope s__check_contexts) [] [] f3 _ := ⟨⟨_, _, _, _, _, _, _, _, _, _, rfl, l3, c3, .inl ⟨rfl, rfl⟩, .inl rfl⟩, k3⟩
  have D_3 : DefX K mg "_check_contexts" s__check_contexts ["base", "count"] pats__check_contexts := ⟨_, _, _, _, F3, PySem.W.mg_of X G a3, (all_consQ (Bnd.all fun us ws vs zs l1 l2 r rz => by
      obtain ⟨u0, u1, rfl⟩ := len2 (r.length.symm.trans l1)
      obtain rfl := len0 (rz.length.symm.trans l2)
      cases r with | cons r0 r =>
        cases r with | cons r1 r =>
          cases r
          cases rz
          exact ⟨[u0, u1], rfl, (.cons r0 (.cons r1 .nil))⟩) all_nilQ)⟩
  have F4 : FunD K "_check_unary" "_check_unary" (defArgs s__check_unary) (defBody s__check_unary) (defScope s__check_unary) [] [] f4 _ := ⟨⟨_, _, _, _, _, _, _, _, _, _, rfl, l4, c4, .inl ⟨rfl, rfl⟩, .inl rfl⟩, k4⟩
  have D_4 : DefX K mg "_check_unary" s__check_unary ["base", "most"] pats__check_unary := ⟨_, _, _, _, F4, PySem.W.mg_of X G a4, (all_consQ (Bnd.all fun us ws vs zs l1 l2 r rz => by
      obtain ⟨u0, u1, rfl⟩ := len2 (r.length.symm.trans l1)
      obtain rfl := len0 (rz.length.symm.trans l2)
      cases r with | cons r0 r =>
        cases r with | cons r1 r =>
          cases r
          cases rz
          exact ⟨[u0, u1], rfl, (.cons r0 (.cons r1 .nil))⟩) all_nilQ)⟩
  have F5 : FunD K "_check_context" "_check_context" (defArgs s__check_context) (defBody s__check_context) (defScope s__check_context) [] [] f5 _ := ⟨⟨_, _, _, _, _, _, _, _, _, _, rfl, l5, c5, .inl ⟨rfl, rfl⟩, .inl rfl⟩, k5⟩
  have D_5 : DefX K mg "_check_context" s__check_context ["context"] pats__check_context := ⟨_, _, _, _, F5, PySem.W.mg_of X G a5, (all_consQ (Bnd.all fun us ws vs zs l1 l2 r rz => by
      obtain ⟨u0, rfl⟩ := len1 (r.length.symm.trans l1)
      obtain rfl := len0 (rz.length.symm.trans l2)
      cases r with | cons r0 r =>
        cases r
        cases rz
        exact ⟨[u0], rfl, (.cons r0 .nil)⟩) all_nilQ)⟩
  have F6 : FunD K "_adapted" "_adapted" (defArgs s__adapted) (defBody s__adapted) (defScope s__adapted) [] [] f6 _ := ⟨⟨_, _, _, _, _, _, _, _, _, _, rfl, l6, c6, .inl ⟨rfl, rfl⟩, .inl rfl⟩, k6⟩
  have D_6 : DefX K mg "_adapted" s__adapted ["chance", "decision"] pats__adapted := ⟨_, _, _, _, F6, PySem.W.mg_of X G a6, (all_consQ (Bnd.all fun us ws vs zs l1 l2 r rz => by
      obtain ⟨u0, u1, rfl⟩ := len2 (r.length.symm.trans l1)
      obtain rfl := len0 (rz.length.symm.trans l2)
      cases r with | cons r0 r =>
        cases r with | cons r1 r =>
          cases r
          cases rz
          exact ⟨[u0, u1], rfl, (.cons r0 (.cons r1 .nil))⟩) all_nilQ)⟩
  have F7 : FunD K "_shift" "Decoder._shift" (defArgs s_Decoder__shift) (defBody s_Decoder__shift) (defScope s_Decoder__shift) [] [] f7 _ := ⟨⟨_, _, _, _, _, _, _, _, _, _, rfl, l7, c7, .inl ⟨rfl, rfl⟩, .inl rfl⟩, k7⟩
  have D_7 : MethX K CDecoder "Decoder._shift" "_shift" s_Decoder__shift ["self"] pats_Decoder__shift := ⟨_, _, _, _, F7, ⟨a7, b7, k7⟩, (all_consQ (Bnd.all fun us ws vs zs l1 l2 r rz => by
      obtain ⟨u0, rfl⟩ := len1 (r.length.symm.trans l1)
      obtain rfl := len0 (rz.length.symm.trans l2)
      cases r with | cons r0 r =>
        cases r
        cases rz
        exact ⟨[u0], rfl, (.cons r0 .nil)⟩) all_nilQ)⟩
  have F8 : FunD K "_decide" "Decoder._decide" (defArgs s_Decoder__decide) (defBody s_Decoder__decide) (defScope s_Decoder__decide) [] [] f8 _ := ⟨⟨_, _, _, _, _, _, _, _, _, _, rfl, l8, c8, .inl ⟨rfl, rfl⟩, .inl rfl⟩, k8⟩
  have D_8 : MethX K CDecoder "Decoder._decide" "_decide" s_Decoder__decide ["self", "chance"] pats_Decoder__decide := ⟨_, _, _, _, F8, ⟨a8, b8, k8⟩, (all_consQ (Bnd.all fun us ws vs zs l1 l2 r rz => by
      obtain ⟨u0, u1, rfl⟩ := len2 (r.length.symm.trans l1)
      obtain rfl := len0 (rz.length.symm.trans l2)
      cases r with | cons r0 r =>
        cases r with | cons r1 r =>
          cases r
          cases rz
          exact ⟨[u0, u1], rfl, (.cons r0 (.cons r1 .nil))⟩) all_nilQ)⟩
  have F9 : FunD K "read" "Decoder.read" (defArgs s_Decoder_read) (defBody s_Decoder_read) (defScope s_Decoder_read) [] [] f9 _ := ⟨⟨_, _, _, _, _, _, _, _, _, _, rfl, l9, c9, .inl ⟨rfl, rfl⟩, .inl rfl⟩, k9⟩
  have D_9 : MethX K CDecoder "Decoder.read" "read" s_Decoder_read ["self", "context"] pats_Decoder_read := ⟨_, _, _, _, F9, ⟨a9, b9, k9⟩, (all_consQ (Bnd.all fun us ws vs zs l1 l2 r rz => by
      obtain ⟨u0, u1, rfl⟩ := len2 (r.length.symm.trans l1)
      obtain rfl := len0 (rz.length.symm.trans l2)
      cases r with | cons r0 r =>
        cases r with | cons r1 r =>
          cases r
          cases rz
          exact ⟨[u0, u1], rfl, (.cons r0 (.cons r1 .nil))⟩) all_nilQ)⟩
  have F10 : FunD K "unary" "SymbolReader.unary" (defArgs s_SymbolReader_unary) (defBody s_SymbolReader_unary) (defScope s_SymbolReader_unary) [] [] f10 _ := ⟨⟨_, _, _, _, _, _, _, _, _, _, rfl, l10, c10, .inl ⟨rfl, rfl⟩, .inl rfl⟩, k10⟩
  have D_10 : MethX K CSymbolReader "SymbolReader.unary" "unary" s_SymbolReader_unary ["self", "base", "most"] pats_SymbolReader_unary := ⟨_, _, _, _, F10, ⟨a10, b10, k10⟩, (all_consQ (Bnd.all fun us ws vs zs l1 l2 r rz => by
      obtain ⟨u0, u1, rfl⟩ := len2 (r.length.symm.trans l1)
      obtain ⟨w0, rfl⟩ := len1 (rz.length.symm.trans l2)
      cases r with | cons r0 r =>
        cases r with | cons r1 r =>
          cases r
          cases rz with | cons q0 rz =>
            cases rz
            exact ⟨[u0, u1, w0], rfl, (.cons r0 (.cons r1 (.cons q0 .nil)))⟩) all_nilQ)⟩
  have F11 : FunD K "_digit_context" "_digit_context" (defArgs s__digit_context) (defBody s__digit_context) (defScope s__digit_context) [] [] f11 _ := ⟨⟨_, _, _, _, _, _, _, _, _, _, rfl, l11, c11, .inl ⟨rfl, rfl⟩, .inl rfl⟩, k11⟩
  have D_11 : DefX K mg "_digit_context" s__digit_context ["base", "digits"] pats__digit_context := ⟨_, _, _, _, F11, PySem.W.mg_of X G a11, (all_consQ (Bnd.all fun us ws vs zs l1 l2 r rz => by
      obtain ⟨u0, u1, rfl⟩ := len2 (r.length.symm.trans l1)
      obtain rfl := len0 (rz.length.symm.trans l2)
      cases r with | cons r0 r =>
        cases r with | cons r1 r =>
          cases r
          cases rz
          exact ⟨[u0, u1], rfl, (.cons r0 (.cons r1 .nil))⟩) all_nilQ)⟩
  have F12 : FunD K "read_even" "Decoder.read_even" (defArgs s_Decoder_read_even) (defBody s_Decoder_read_even) (defScope s_Decoder_read_even) [] [] f12 _ := ⟨⟨_, _, _, _, _, _, _, _, _, _, rfl, l12, c12, .inl ⟨rfl, rfl⟩, .inl rfl⟩, k12⟩
  have D_12 : MethX K CDecoder "Decoder.read_even" "read_even" s_Decoder_read_even ["self"] pats_Decoder_read_even := ⟨_, _, _, _, F12, ⟨a12, b12, k12⟩, (all_consQ (Bnd.all fun us ws vs zs l1 l2 r rz => by
      obtain ⟨u0, rfl⟩ := len1 (r.length.symm.trans l1)
      obtain rfl := len0 (rz.length.symm.trans l2)
      cases r with | cons r0 r =>
        cases r
        cases rz
        exact ⟨[u0], rfl, (.cons r0 .nil)⟩) all_nilQ)⟩
  have F13 : FunD K "number" "SymbolReader.number" (defArgs s_SymbolReader_number) (defBody s_SymbolReader_number) (defScope s_SymbolReader_number) [] [] f13 _ := ⟨⟨_, _, _, _, _, _, _, _, _, _, rfl, l13, c13, .inl ⟨rfl, rfl⟩, .inl rfl⟩, k13⟩
  have D_13 : MethX K CSymbolReader "SymbolReader.number" "number" s_SymbolReader_number ["self", "base"] pats_SymbolReader_number := ⟨_, _, _, _, F13, ⟨a13, b13, k13⟩, (all_consQ (Bnd.all fun us ws vs zs l1 l2 r rz => by
      obtain ⟨u0, u1, rfl⟩ := len2 (r.length.symm.trans l1)
      obtain rfl := len0 (rz.length.symm.trans l2)
      cases r with | cons r0 r =>
        cases r with | cons r1 r =>
          cases r
          cases rz
          exact ⟨[u0, u1], rfl, (.cons r0 (.cons r1 .nil))⟩) all_nilQ)⟩
  have F14 : FunD K "_check_numbers" "_check_numbers" (defArgs s__check_numbers) (defBody s__check_numbers) (defScope s__check_numbers) [] [] f14 _ := ⟨⟨_, _, _, _, _, _, _, _, _, _, rfl, l14, c14, .inl ⟨rfl, rfl⟩, .inl rfl⟩, k14⟩
  have D_14 : DefX K mg "_check_numbers" s__check_numbers ["settings", "header"] pats__check_numbers := ⟨_, _, _, _, F14, PySem.W.mg_of X G a14, (all_consQ (Bnd.all fun us ws vs zs l1 l2 r rz => by
      obtain ⟨u0, u1, rfl⟩ := len2 (r.length.symm.trans l1)
      obtain rfl := len0 (rz.length.symm.trans l2)
      cases r with | cons r0 r =>
        cases r with | cons r1 r =>
          cases r
          cases rz
          exact ⟨[u0, u1], rfl, (.cons r0 (.cons r1 .nil))⟩) all_nilQ)⟩
  have F15 : FunD K "_check_slots" "_check_slots" (defArgs s__check_slots) (defBody s__check_slots) (defScope s__check_slots) [] [] f15 _ := ⟨⟨_, _, _, _, _, _, _, _, _, _, rfl, l15, c15, .inl ⟨rfl, rfl⟩, .inl rfl⟩, k15⟩
  have D_15 : DefX K mg "_check_slots" s__check_slots ["settings", "header"] pats__check_slots := ⟨_, _, _, _, F15, PySem.W.mg_of X G a15, (all_consQ (Bnd.all fun us ws vs zs l1 l2 r rz => by
      obtain ⟨u0, u1, rfl⟩ := len2 (r.length.symm.trans l1)
      obtain rfl := len0 (rz.length.symm.trans l2)
      cases r with | cons r0 r =>
        cases r with | cons r1 r =>
          cases r
          cases rz
          exact ⟨[u0, u1], rfl, (.cons r0 (.cons r1 .nil))⟩) all_nilQ)⟩
  have F16 : FunD K "__init__" "PictureHeader.__init__" (defArgs s_PictureHeader___init__) (defBody s_PictureHeader___init__) (defScope s_PictureHeader___init__) [] [("kind", V.str "I"), ("level", V.int 0), ("store", V.ref TD_PictureHeader___init___store), ("refs", V.ref TD_PictureHeader___init___refs), ("weight", V.int 8), ("layer", V.int 0), ("shown", V.bl true), ("edge", V.int 0)] f16 _ := ⟨⟨_, _, _, _, _, _, _, _, _, _, rfl, l16, c16, .inl ⟨rfl, rfl⟩, (.inr ⟨_, rfl, (all_consQ ⟨_, kd16_0, ⟨_, rfl⟩⟩ (all_consQ ⟨_, kd16_1, ⟨_, rfl⟩⟩ (all_consQ ⟨_, kd16_2, rfl⟩ (all_consQ ⟨_, kd16_3, rfl⟩ (all_consQ ⟨_, kd16_4, ⟨_, rfl⟩⟩ (all_consQ ⟨_, kd16_5, ⟨_, rfl⟩⟩ (all_consQ ⟨_, kd16_6, rfl⟩ (all_consQ ⟨_, kd16_7, ⟨_, rfl⟩⟩ all_nilQ))))))))⟩)⟩, k16⟩
  have D_16 : InitX K mg CPictureHeader "PictureHeader" "PictureHeader.__init__" s_PictureHeader___init__ ["self", "settings", "number", "kind", "level", "store", "refs", "weight", "layer", "shown", "edge"] (pats_PictureHeader___init__ ⟨TD_PictureHeader___init___store, TD_PictureHeader___init___refs, CDecoder, CSymbolReader, CMotionGrid, CFormat, CSettings, CPictureHeader, fa, XBadFormat, XOutOfRange, XBadHeader, TG_KINDS, TG_REF_COUNTS, TG_REF_COUNTS_0, TG_REF_COUNTS_1, TG_REF_COUNTS_2, fa⟩) := ⟨_, _, _, _, F16, ⟨d16, a16, b16, e16⟩, PySem.W.mg_of X G wPictureHeader, (all_consQ (Exists.elim (FunD.kbinds0 F16 2 ["number", "kind", "refs"] [("level", V.int 0), ("store", V.ref TD_PictureHeader___init___store), ("weight", V.int 8), ("layer", V.int 0), ("shown", V.bl true), ("edge", V.int 0)] (fun {α} => gk_PictureHeader___init___0 (α := α)) (by simp) (by simp) (fun r s q => gkrel_PictureHeader___init___0 r s q) (fun D doc pm an cdv ct us mv ws h1 h2 h3 => by
        obtain ⟨u0, u1, rfl⟩ := len2 h1
        obtain ⟨m0, m1, m2, m3, m4, m5, rfl⟩ := len6 h2
        obtain ⟨w0, w1, w2, rfl⟩ := len3 h3
        exact ⟨_, _, _, _, _, _, rfl, rfl, ⟨_, _, _, _, _, _, rfl, rfl, ⟨_, _, _, _, _, _, rfl, rfl, ⟨_, _, _, _, _, _, rfl, rfl, ⟨_, _, _, _, _, _, rfl, rfl, ⟨_, _, _, _, _, _, rfl, rfl, rfl⟩⟩⟩⟩⟩⟩)) fun _ hb => Bnd.of_kbn hb) all_nilQ)⟩
  have F17 : FunD K "__init__" "MotionGrid.__init__" (defArgs s_MotionGrid___init__) (defBody s_MotionGrid___init__) (defScope s_MotionGrid___init__) [] [] f17 _ := ⟨⟨_, _, _, _, _, _, _, _, _, _, rfl, l17, c17, .inl ⟨rfl, rfl⟩, .inl rfl⟩, k17⟩
  have D_17 : InitX K mg CMotionGrid "MotionGrid" "MotionGrid.__init__" s_MotionGrid___init__ ["self", "columns", "rows"] pats_MotionGrid___init__ := ⟨_, _, _, _, F17, ⟨d17, a17, b17, e17⟩, PySem.W.mg_of X G wMotionGrid, (all_consQ (Bnd.all fun us ws vs zs l1 l2 r rz => by
      obtain ⟨u0, u1, u2, rfl⟩ := len3 (r.length.symm.trans l1)
      obtain rfl := len0 (rz.length.symm.trans l2)
      cases r with | cons r0 r =>
        cases r with | cons r1 r =>
          cases r with | cons r2 r =>
            cases r
            cases rz
            exact ⟨[u0, u1, u2], rfl, (.cons r0 (.cons r1 (.cons r2 .nil)))⟩) all_nilQ)⟩
  have F18 : FunD K "__init__" "SymbolReader.__init__" (defArgs s_SymbolReader___init__) (defBody s_SymbolReader___init__) (defScope s_SymbolReader___init__) [] [] f18 _ := ⟨⟨_, _, _, _, _, _, _, _, _, _, rfl, l18, c18, .inl ⟨rfl, rfl⟩, .inl rfl⟩, k18⟩
  have D_18 : InitX K mg CSymbolReader "SymbolReader" "SymbolReader.__init__" s_SymbolReader___init__ ["self", "decoder"] pats_SymbolReader___init__ := ⟨_, _, _, _, F18, ⟨d18, a18, b18, e18⟩, PySem.W.mg_of X G wSymbolReader, (all_consQ (Bnd.all fun us ws vs zs l1 l2 r rz => by
      obtain ⟨u0, u1, rfl⟩ := len2 (r.length.symm.trans l1)
      obtain rfl := len0 (rz.length.symm.trans l2)
      cases r with | cons r0 r =>
        cases r with | cons r1 r =>
          cases r
          cases rz
          exact ⟨[u0, u1], rfl, (.cons r0 (.cons r1 .nil))⟩) all_nilQ)⟩
  have F19 : FunD K "_law_cell" "_law_cell" (defArgs s__law_cell) (defBody s__law_cell) (defScope s__law_cell) [] [] f19 _ := ⟨⟨_, _, _, _, _, _, _, _, _, _, rfl, l19, c19, .inl ⟨rfl, rfl⟩, .inl rfl⟩, k19⟩
  have D_19 : DefX K mg "_law_cell" s__law_cell ["script", "k"] pats__law_cell := ⟨_, _, _, _, F19, PySem.W.mg_of X G a19, (all_consQ (Bnd.all fun us ws vs zs l1 l2 r rz => by
      obtain ⟨u0, u1, rfl⟩ := len2 (r.length.symm.trans l1)
      obtain rfl := len0 (rz.length.symm.trans l2)
      cases r with | cons r0 r =>
        cases r with | cons r1 r =>
          cases r
          cases rz
          exact ⟨[u0, u1], rfl, (.cons r0 (.cons r1 .nil))⟩) all_nilQ)⟩
  have F20 : FunD K "__init__" "Format.__init__" (defArgs s_Format___init__) (defBody s_Format___init__) (defScope s_Format___init__) [] [("depth", V.int 8), ("chroma", V.int 0)] f20 _ := ⟨⟨_, _, _, _, _, _, _, _, _, _, rfl, l20, c20, .inl ⟨rfl, rfl⟩, (.inr ⟨_, rfl, (all_consQ ⟨_, kd20_0, ⟨_, rfl⟩⟩ (all_consQ ⟨_, kd20_1, ⟨_, rfl⟩⟩ all_nilQ))⟩)⟩, k20⟩
  have D_20 : InitX K mg CFormat "Format" "Format.__init__" s_Format___init__ ["self", "width", "height", "depth", "chroma"] pats_Format___init__ := ⟨_, _, _, _, F20, ⟨d20, a20, b20, e20⟩, PySem.W.mg_of X G wFormat, (all_consQ (Exists.elim (FunD.kbinds0 F20 3 [] [("depth", V.int 8), ("chroma", V.int 0)] (fun {α} => gk_Format___init___0 (α := α)) (by simp) (by simp) (fun r s q => gkrel_Format___init___0 r s q) (fun D doc pm an cdv ct us mv ws h1 h2 h3 => by
        obtain ⟨u0, u1, u2, rfl⟩ := len3 h1
        obtain ⟨m0, m1, rfl⟩ := len2 h2
        obtain rfl := len0 h3
        exact ⟨_, _, _, _, _, _, rfl, rfl, ⟨_, _, _, _, _, _, rfl, rfl, rfl⟩⟩)) fun _ hb => Bnd.of_kbn hb) all_nilQ)⟩
  have F21 : FunD K "__init__" "Decoder.__init__" (defArgs s_Decoder___init__) (defBody s_Decoder___init__) (defScope s_Decoder___init__) [] [] f21 _ := ⟨⟨_, _, _, _, _, _, _, _, _, _, rfl, l21, c21, .inl ⟨rfl, rfl⟩, .inl rfl⟩, k21⟩
  have D_21 : InitX K mg CDecoder "Decoder" "Decoder.__init__" s_Decoder___init__ ["self", "octets"] pats_Decoder___init__ := ⟨_, _, _, _, F21, ⟨d21, a21, b21, e21⟩, PySem.W.mg_of X G wDecoder, (all_consQ (Bnd.all fun us ws vs zs l1 l2 r rz => by
      obtain ⟨u0, u1, rfl⟩ := len2 (r.length.symm.trans l1)
      obtain rfl := len0 (rz.length.symm.trans l2)
      cases r with | cons r0 r =>
        cases r with | cons r1 r =>
          cases r
          cases rz
          exact ⟨[u0, u1], rfl, (.cons r0 (.cons r1 .nil))⟩) all_nilQ)⟩
  have F22 : FunD K "_choice_digits" "_choice_digits" (defArgs s__choice_digits) (defBody s__choice_digits) (defScope s__choice_digits) [] [] f22 _ := ⟨⟨_, _, _, _, _, _, _, _, _, _, rfl, l22, c22, .inl ⟨rfl, rfl⟩, .inl rfl⟩, k22⟩
  have D_22 : DefX K mg "_choice_digits" s__choice_digits ["base", "count"] pats__choice_digits := ⟨_, _, _, _, F22, PySem.W.mg_of X G a22, (all_consQ (Bnd.all fun us ws vs zs l1 l2 r rz => by
      obtain ⟨u0, u1, rfl⟩ := len2 (r.length.symm.trans l1)
      obtain rfl := len0 (rz.length.symm.trans l2)
      cases r with | cons r0 r =>
        cases r with | cons r1 r =>
          cases r
          cases rz
          exact ⟨[u0, u1], rfl, (.cons r0 (.cons r1 .nil))⟩) all_nilQ)⟩
  have F23 : FunD K "choice" "SymbolReader.choice" (defArgs s_SymbolReader_choice) (defBody s_SymbolReader_choice) (defScope s_SymbolReader_choice) [] [] f23 _ := ⟨⟨_, _, _, _, _, _, _, _, _, _, rfl, l23, c23, .inl ⟨rfl, rfl⟩, .inl rfl⟩, k23⟩
  have D_23 : MethX K CSymbolReader "SymbolReader.choice" "choice" s_SymbolReader_choice ["self", "base", "count"] pats_SymbolReader_choice := ⟨_, _, _, _, F23, ⟨a23, b23, k23⟩, (all_consQ (Bnd.all fun us ws vs zs l1 l2 r rz => by
      obtain ⟨u0, u1, rfl⟩ := len2 (r.length.symm.trans l1)
      obtain ⟨w0, rfl⟩ := len1 (rz.length.symm.trans l2)
      cases r with | cons r0 r =>
        cases r with | cons r1 r =>
          cases r
          cases rz with | cons q0 rz =>
            cases rz
            exact ⟨[u0, u1, w0], rfl, (.cons r0 (.cons r1 (.cons q0 .nil)))⟩) all_nilQ)⟩
  have F24 : FunD K "_law_vector" "_law_vector" (defArgs s__law_vector) (defBody s__law_vector) (defScope s__law_vector) [] [] f24 _ := ⟨⟨_, _, _, _, _, _, _, _, _, _, rfl, l24, c24, .inl ⟨rfl, rfl⟩, .inl rfl⟩, k24⟩
  have D_24 : DefX K mg "_law_vector" s__law_vector ["grid", "x", "y", "second"] pats__law_vector := ⟨_, _, _, _, F24, PySem.W.mg_of X G a24, (all_consQ (Bnd.all fun us ws vs zs l1 l2 r rz => by
      obtain ⟨u0, u1, u2, u3, rfl⟩ := len4 (r.length.symm.trans l1)
      obtain rfl := len0 (rz.length.symm.trans l2)
      cases r with | cons r0 r =>
        cases r with | cons r1 r =>
          cases r with | cons r2 r =>
            cases r with | cons r3 r =>
              cases r
              cases rz
              exact ⟨[u0, u1, u2, u3], rfl, (.cons r0 (.cons r1 (.cons r2 (.cons r3 .nil))))⟩) all_nilQ)⟩
  have F25 : FunD K "_law_median" "_law_median" (defArgs s__law_median) (defBody s__law_median) (defScope s__law_median) [] [] f25 _ := ⟨⟨_, _, _, _, _, _, _, _, _, _, rfl, l25, c25, .inl ⟨rfl, rfl⟩, .inl rfl⟩, k25⟩
  have D_25 : DefX K mg "_law_median" s__law_median ["values"] pats__law_median := ⟨_, _, _, _, F25, PySem.W.mg_of X G a25, (all_consQ (Bnd.all fun us ws vs zs l1 l2 r rz => by
      obtain ⟨u0, rfl⟩ := len1 (r.length.symm.trans l1)
      obtain rfl := len0 (rz.length.symm.trans l2)
      cases r with | cons r0 r =>
        cases r
        cases rz
        exact ⟨[u0], rfl, (.cons r0 .nil)⟩) all_nilQ)⟩
  have F26 : FunD K "_law_predicted" "_law_predicted" (defArgs s__law_predicted) (defBody s__law_predicted) (defScope s__law_predicted) [] [] f26 _ := ⟨⟨_, _, _, _, _, _, _, _, _, _, rfl, l26, c26, .inl ⟨rfl, rfl⟩, .inl rfl⟩, k26⟩
  have D_26 : DefX K mg "_law_predicted" s__law_predicted ["grid", "x", "y", "second"] pats__law_predicted := ⟨_, _, _, _, F26, PySem.W.mg_of X G a26, (all_consQ (Bnd.all fun us ws vs zs l1 l2 r rz => by
      obtain ⟨u0, u1, u2, u3, rfl⟩ := len4 (r.length.symm.trans l1)
      obtain rfl := len0 (rz.length.symm.trans l2)
      cases r with | cons r0 r =>
        cases r with | cons r1 r =>
          cases r with | cons r2 r =>
            cases r with | cons r3 r =>
              cases r
              cases rz
              exact ⟨[u0, u1, u2, u3], rfl, (.cons r0 (.cons r1 (.cons r2 (.cons r3 .nil))))⟩) all_nilQ)⟩
  have F27 : FunD K "signed" "SymbolReader.signed" (defArgs s_SymbolReader_signed) (defBody s_SymbolReader_signed) (defScope s_SymbolReader_signed) [] [] f27 _ := ⟨⟨_, _, _, _, _, _, _, _, _, _, rfl, l27, c27, .inl ⟨rfl, rfl⟩, .inl rfl⟩, k27⟩
  have D_27 : MethX K CSymbolReader "SymbolReader.signed" "signed" s_SymbolReader_signed ["self", "base"] pats_SymbolReader_signed := ⟨_, _, _, _, F27, ⟨a27, b27, k27⟩, (all_consQ (Bnd.all fun us ws vs zs l1 l2 r rz => by
      obtain ⟨u0, u1, rfl⟩ := len2 (r.length.symm.trans l1)
      obtain rfl := len0 (rz.length.symm.trans l2)
      cases r with | cons r0 r =>
        cases r with | cons r1 r =>
          cases r
          cases rz
          exact ⟨[u0, u1], rfl, (.cons r0 (.cons r1 .nil))⟩) all_nilQ)⟩
  have F28 : FunD K "_law_due" "_law_due" (defArgs s__law_due) (defBody s__law_due) (defScope s__law_due) [] [] f28 _ := ⟨⟨_, _, _, _, _, _, _, _, _, _, rfl, l28, c28, .inl ⟨rfl, rfl⟩, .inl rfl⟩, k28⟩
  have D_28 : DefX K mg "_law_due" s__law_due ["reader", "grid", "place", "kind", "refs"] pats__law_due := ⟨_, _, _, _, F28, PySem.W.mg_of X G a28, (all_consQ (Bnd.all fun us ws vs zs l1 l2 r rz => by
      obtain ⟨u0, u1, u2, u3, u4, rfl⟩ := len5 (r.length.symm.trans l1)
      obtain rfl := len0 (rz.length.symm.trans l2)
      cases r with | cons r0 r =>
        cases r with | cons r1 r =>
          cases r with | cons r2 r =>
            cases r with | cons r3 r =>
              cases r with | cons r4 r =>
                cases r
                cases rz
                exact ⟨[u0, u1, u2, u3, u4], rfl, (.cons r0 (.cons r1 (.cons r2 (.cons r3 (.cons r4 .nil)))))⟩) all_nilQ)⟩
  have F29 : FunD K "clip" "clip" (defArgs s_clip) (defBody s_clip) (defScope s_clip) [] [] f29 _ := ⟨⟨_, _, _, _, _, _, _, _, _, _, rfl, l29, c29, .inl ⟨rfl, rfl⟩, .inl rfl⟩, k29⟩
  have D_29 : DefX K mg "clip" s_clip ["value", "low", "high"] pats_clip := ⟨_, _, _, _, F29, PySem.W.mg_of X G a29, (all_consQ (Bnd.all fun us ws vs zs l1 l2 r rz => by
      obtain ⟨u0, u1, u2, rfl⟩ := len3 (r.length.symm.trans l1)
      obtain rfl := len0 (rz.length.symm.trans l2)
      cases r with | cons r0 r =>
        cases r with | cons r1 r =>
          cases r with | cons r2 r =>
            cases r
            cases rz
            exact ⟨[u0, u1, u2], rfl, (.cons r0 (.cons r1 (.cons r2 .nil)))⟩) all_nilQ)⟩
  have F30 : FunD K "_clip_component" "_clip_component" (defArgs s__clip_component) (defBody s__clip_component) (defScope s__clip_component) [] [] f30 _ := ⟨⟨_, _, _, _, _, _, _, _, _, _, rfl, l30, c30, .inl ⟨rfl, rfl⟩, .inl rfl⟩, k30⟩
  have D_30 : DefX K mg "_clip_component" s__clip_component ["component"] pats__clip_component := ⟨_, _, _, _, F30, PySem.W.mg_of X G a30, (all_consQ (Bnd.all fun us ws vs zs l1 l2 r rz => by
      obtain ⟨u0, rfl⟩ := len1 (r.length.symm.trans l1)
      obtain rfl := len0 (rz.length.symm.trans l2)
      cases r with | cons r0 r =>
        cases r
        cases rz
        exact ⟨[u0], rfl, (.cons r0 .nil)⟩) all_nilQ)⟩
  have F31 : FunD K "clip_vector" "clip_vector" (defArgs s_clip_vector) (defBody s_clip_vector) (defScope s_clip_vector) [] [] f31 _ := ⟨⟨_, _, _, _, _, _, _, _, _, _, rfl, l31, c31, .inl ⟨rfl, rfl⟩, .inl rfl⟩, k31⟩
  have D_31 : DefX K mg "clip_vector" s_clip_vector ["x", "y"] pats_clip_vector := ⟨_, _, _, _, F31, PySem.W.mg_of X G a31, (all_consQ (Bnd.all fun us ws vs zs l1 l2 r rz => by
      obtain ⟨u0, u1, rfl⟩ := len2 (r.length.symm.trans l1)
      obtain rfl := len0 (rz.length.symm.trans l2)
      cases r with | cons r0 r =>
        cases r with | cons r1 r =>
          cases r
          cases rz
          exact ⟨[u0, u1], rfl, (.cons r0 (.cons r1 .nil))⟩) all_nilQ)⟩
  have F32 : FunD K "_read_vector" "_read_vector" (defArgs s__read_vector) (defBody s__read_vector) (defScope s__read_vector) [] [] f32 _ := ⟨⟨_, _, _, _, _, _, _, _, _, _, rfl, l32, c32, .inl ⟨rfl, rfl⟩, .inl rfl⟩, k32⟩
  have D_32 : DefX K mg "_read_vector" s__read_vector ["reader", "predicted"] pats__read_vector := ⟨_, _, _, _, F32, PySem.W.mg_of X G a32, (all_consQ (Bnd.all fun us ws vs zs l1 l2 r rz => by
      obtain ⟨u0, u1, rfl⟩ := len2 (r.length.symm.trans l1)
      obtain rfl := len0 (rz.length.symm.trans l2)
      cases r with | cons r0 r =>
        cases r with | cons r1 r =>
          cases r
          cases rz
          exact ⟨[u0, u1], rfl, (.cons r0 (.cons r1 .nil))⟩) all_nilQ)⟩
  have F33 : FunD K "_median" "_median" (defArgs s__median) (defBody s__median) (defScope s__median) [] [] f33 _ := ⟨⟨_, _, _, _, _, _, _, _, _, _, rfl, l33, c33, .inl ⟨rfl, rfl⟩, .inl rfl⟩, k33⟩
  have D_33 : DefX K mg "_median" s__median ["numbers"] pats__median := ⟨_, _, _, _, F33, PySem.W.mg_of X G a33, (all_consQ (Bnd.all fun us ws vs zs l1 l2 r rz => by
      obtain ⟨u0, rfl⟩ := len1 (r.length.symm.trans l1)
      obtain rfl := len0 (rz.length.symm.trans l2)
      cases r with | cons r0 r =>
        cases r
        cases rz
        exact ⟨[u0], rfl, (.cons r0 .nil)⟩) all_nilQ)⟩
  have F34 : FunD K "_has" "MotionGrid._has" (defArgs s_MotionGrid__has) (defBody s_MotionGrid__has) (defScope s_MotionGrid__has) [] [] f34 _ := ⟨⟨_, _, _, _, _, _, _, _, _, _, rfl, l34, c34, .inl ⟨rfl, rfl⟩, .inl rfl⟩, k34⟩
  have D_34 : MethX K CMotionGrid "MotionGrid._has" "_has" s_MotionGrid__has ["self", "x", "y"] pats_MotionGrid__has := ⟨_, _, _, _, F34, ⟨a34, b34, k34⟩, (all_consQ (Bnd.all fun us ws vs zs l1 l2 r rz => by
      obtain ⟨u0, u1, u2, rfl⟩ := len3 (r.length.symm.trans l1)
      obtain rfl := len0 (rz.length.symm.trans l2)
      cases r with | cons r0 r =>
        cases r with | cons r1 r =>
          cases r with | cons r2 r =>
            cases r
            cases rz
            exact ⟨[u0, u1, u2], rfl, (.cons r0 (.cons r1 (.cons r2 .nil)))⟩) all_nilQ)⟩
  have F35 : FunD K "motion_at" "MotionGrid.motion_at" (defArgs s_MotionGrid_motion_at) (defBody s_MotionGrid_motion_at) (defScope s_MotionGrid_motion_at) [] [] f35 _ := ⟨⟨_, _, _, _, _, _, _, _, _, _, rfl, l35, c35, .inl ⟨rfl, rfl⟩, .inl rfl⟩, k35⟩
  have D_35 : MethX K CMotionGrid "MotionGrid.motion_at" "motion_at" s_MotionGrid_motion_at ["self", "x", "y"] pats_MotionGrid_motion_at := ⟨_, _, _, _, F35, ⟨a35, b35, k35⟩, (all_consQ (Bnd.all fun us ws vs zs l1 l2 r rz => by
      obtain ⟨u0, u1, u2, rfl⟩ := len3 (r.length.symm.trans l1)
      obtain rfl := len0 (rz.length.symm.trans l2)
      cases r with | cons r0 r =>
        cases r with | cons r1 r =>
          cases r with | cons r2 r =>
            cases r
            cases rz
            exact ⟨[u0, u1, u2], rfl, (.cons r0 (.cons r1 (.cons r2 .nil)))⟩) all_nilQ)⟩
  have F36 : FunD K "_vector_at" "MotionGrid._vector_at" (defArgs s_MotionGrid__vector_at) (defBody s_MotionGrid__vector_at) (defScope s_MotionGrid__vector_at) [] [] f36 _ := ⟨⟨_, _, _, _, _, _, _, _, _, _, rfl, l36, c36, .inl ⟨rfl, rfl⟩, .inl rfl⟩, k36⟩
  have D_36 : MethX K CMotionGrid "MotionGrid._vector_at" "_vector_at" s_MotionGrid__vector_at ["self", "x", "y", "place"] pats_MotionGrid__vector_at := ⟨_, _, _, _, F36, ⟨a36, b36, k36⟩, (all_consQ (Bnd.all fun us ws vs zs l1 l2 r rz => by
      obtain ⟨u0, u1, u2, u3, rfl⟩ := len4 (r.length.symm.trans l1)
      obtain rfl := len0 (rz.length.symm.trans l2)
      cases r with | cons r0 r =>
        cases r with | cons r1 r =>
          cases r with | cons r2 r =>
            cases r with | cons r3 r =>
              cases r
              cases rz
              exact ⟨[u0, u1, u2, u3], rfl, (.cons r0 (.cons r1 (.cons r2 (.cons r3 .nil))))⟩) all_nilQ)⟩
  have F37 : FunD K "predicted" "MotionGrid.predicted" (defArgs s_MotionGrid_predicted) (defBody s_MotionGrid_predicted) (defScope s_MotionGrid_predicted) [] [("second", V.bl false)] f37 _ := ⟨⟨_, _, _, _, _, _, _, _, _, _, rfl, l37, c37, .inl ⟨rfl, rfl⟩, (.inr ⟨_, rfl, (all_consQ ⟨_, kd37_0, rfl⟩ all_nilQ)⟩)⟩, k37⟩
  have D_37 : MethX K CMotionGrid "MotionGrid.predicted" "predicted" s_MotionGrid_predicted ["self", "x", "y", "second"] pats_MotionGrid_predicted := ⟨_, _, _, _, F37, ⟨a37, b37, k37⟩, (all_consQ (Exists.elim (FunD.kbinds0 F37 3 [] [("second", V.bl false)] (fun {α} => gk_MotionGrid_predicted_0 (α := α)) (by simp) (by simp) (fun r s q => gkrel_MotionGrid_predicted_0 r s q) (fun D doc pm an cdv ct us mv ws h1 h2 h3 => by
        obtain ⟨u0, u1, u2, rfl⟩ := len3 h1
        obtain ⟨m0, rfl⟩ := len1 h2
        obtain rfl := len0 h3
        exact ⟨_, _, _, _, _, _, rfl, rfl, rfl⟩)) fun _ hb => Bnd.of_kbn hb) (all_consQ (Bnd.all fun us ws vs zs l1 l2 r rz => by
      obtain ⟨u0, u1, u2, rfl⟩ := len3 (r.length.symm.trans l1)
      obtain ⟨w0, rfl⟩ := len1 (rz.length.symm.trans l2)
      cases r with | cons r0 r =>
        cases r with | cons r1 r =>
          cases r with | cons r2 r =>
            cases r
            cases rz with | cons q0 rz =>
              cases rz
              exact ⟨[u0, u1, u2, w0], rfl, (.cons r0 (.cons r1 (.cons r2 (.cons q0 .nil))))⟩) all_nilQ))⟩
  have F38 : FunD K "read_motion" "read_motion" (defArgs s_read_motion) (defBody s_read_motion) (defScope s_read_motion) [] [] f38 _ := ⟨⟨_, _, _, _, _, _, _, _, _, _, rfl, l38, c38, .inl ⟨rfl, rfl⟩, .inl rfl⟩, k38⟩
  have D_38 : DefX K mg "read_motion" s_read_motion ["reader", "header", "grid", "x", "y"] pats_read_motion := ⟨_, _, _, _, F38, PySem.W.mg_of X G a38, (all_consQ (Bnd.all fun us ws vs zs l1 l2 r rz => by
      obtain ⟨u0, u1, u2, u3, u4, rfl⟩ := len5 (r.length.symm.trans l1)
      obtain rfl := len0 (rz.length.symm.trans l2)
      cases r with | cons r0 r =>
        cases r with | cons r1 r =>
          cases r with | cons r2 r =>
            cases r with | cons r3 r =>
              cases r with | cons r4 r =>
                cases r
                cases rz
                exact ⟨[u0, u1, u2, u3, u4], rfl, (.cons r0 (.cons r1 (.cons r2 (.cons r3 (.cons r4 .nil)))))⟩) all_nilQ)⟩
  have F39 : FunD K "keep_quarter" "MotionGrid.keep_quarter" (defArgs s_MotionGrid_keep_quarter) (defBody s_MotionGrid_keep_quarter) (defScope s_MotionGrid_keep_quarter) [] [] f39 _ := ⟨⟨_, _, _, _, _, _, _, _, _, _, rfl, l39, c39, .inl ⟨rfl, rfl⟩, .inl rfl⟩, k39⟩
  have D_39 : MethX K CMotionGrid "MotionGrid.keep_quarter" "keep_quarter" s_MotionGrid_keep_quarter ["self", "x", "y", "motion"] pats_MotionGrid_keep_quarter := ⟨_, _, _, _, F39, ⟨a39, b39, k39⟩, (all_consQ (Bnd.all fun us ws vs zs l1 l2 r rz => by
      obtain ⟨u0, u1, u2, u3, rfl⟩ := len4 (r.length.symm.trans l1)
      obtain rfl := len0 (rz.length.symm.trans l2)
      cases r with | cons r0 r =>
        cases r with | cons r1 r =>
          cases r with | cons r2 r =>
            cases r with | cons r3 r =>
              cases r
              cases rz
              exact ⟨[u0, u1, u2, u3], rfl, (.cons r0 (.cons r1 (.cons r2 (.cons r3 .nil))))⟩) all_nilQ)⟩
  have F40 : FunD K "_law_is_vector" "_law_is_vector" (defArgs s__law_is_vector) (defBody s__law_is_vector) (defScope s__law_is_vector) [] [] f40 _ := ⟨⟨_, _, _, _, _, _, _, _, _, _, rfl, l40, c40, .inl ⟨rfl, rfl⟩, .inl rfl⟩, k40⟩
  have D_40 : DefX K mg "_law_is_vector" s__law_is_vector ["vector"] pats__law_is_vector := ⟨_, _, _, _, F40, PySem.W.mg_of X G a40, (all_consQ (Bnd.all fun us ws vs zs l1 l2 r rz => by
      obtain ⟨u0, rfl⟩ := len1 (r.length.symm.trans l1)
      obtain rfl := len0 (rz.length.symm.trans l2)
      cases r with | cons r0 r =>
        cases r
        cases rz
        exact ⟨[u0], rfl, (.cons r0 .nil)⟩) all_nilQ)⟩
  have F41 : FunD K "_law_is_motion" "_law_is_motion" (defArgs s__law_is_motion) (defBody s__law_is_motion) (defScope s__law_is_motion) [] [] f41 _ := ⟨⟨_, _, _, _, _, _, _, _, _, _, rfl, l41, c41, .inl ⟨rfl, rfl⟩, .inl rfl⟩, k41⟩
  have D_41 : DefX K mg "_law_is_motion" s__law_is_motion ["motion", "kind", "refs"] pats__law_is_motion := ⟨_, _, _, _, F41, PySem.W.mg_of X G a41, (all_consQ (Bnd.all fun us ws vs zs l1 l2 r rz => by
      obtain ⟨u0, u1, u2, rfl⟩ := len3 (r.length.symm.trans l1)
      obtain rfl := len0 (rz.length.symm.trans l2)
      cases r with | cons r0 r =>
        cases r with | cons r1 r =>
          cases r with | cons r2 r =>
            cases r
            cases rz
            exact ⟨[u0, u1, u2], rfl, (.cons r0 (.cons r1 (.cons r2 .nil)))⟩) all_nilQ)⟩
  have F42 : FunD K "law" "law" (defArgs s_law) (defBody s_law) (defScope s_law) [] [] _ _ := ⟨⟨_, _, _, _, _, _, _, _, _, _, rfl, l42, c42, .inl ⟨rfl, rfl⟩, .inl rfl⟩, k42⟩
  have R__law_draws : ∀ base : Heap, CalX l.prog w K mg base 1 "_law_draws" (sp__law_draws K ⟨TD_PictureHeader___init___store, TD_PictureHeader___init___refs, CDecoder, CSymbolReader, CMotionGrid, CFormat, CSettings, CPictureHeader, fa, XBadFormat, XOutOfRange, XBadHeader, TG_KINDS, TG_REF_COUNTS, TG_REF_COUNTS_0, TG_REF_COUNTS_1, TG_REF_COUNTS_2, fa⟩) pats__law_draws := fun base => ok__law_draws D_0 T 
  have R__require : ∀ base : Heap, CalX l.prog w K mg base 1 "_require" (sp__require K ⟨TD_PictureHeader___init___store, TD_PictureHeader___init___refs, CDecoder, CSymbolReader, CMotionGrid, CFormat, CSettings, CPictureHeader, fa, XBadFormat, XOutOfRange, XBadHeader, TG_KINDS, TG_REF_COUNTS, TG_REF_COUNTS_0, TG_REF_COUNTS_1, TG_REF_COUNTS_2, fa⟩) pats__require := fun base => ok__require D_1 T 
  have R_Settings___init__ : ∀ base : Heap, MakX l.prog w K mg base 2 "Settings" (⟨TD_PictureHeader___init___store, TD_PictureHeader___init___refs, CDecoder, CSymbolReader, CMotionGrid, CFormat, CSettings, CPictureHeader, fa, XBadFormat, XOutOfRange, XBadHeader, TG_KINDS, TG_REF_COUNTS, TG_REF_COUNTS_0, TG_REF_COUNTS_1, TG_REF_COUNTS_2, fa⟩ : Ads).c_Settings (sp_Settings___init__ K ⟨TD_PictureHeader___init___store, TD_PictureHeader___init___refs, CDecoder, CSymbolReader, CMotionGrid, CFormat, CSettings, CPictureHeader, fa, XBadFormat, XOutOfRange, XBadHeader, TG_KINDS, TG_REF_COUNTS, TG_REF_COUNTS_0, TG_REF_COUNTS_1, TG_REF_COUNTS_2, fa⟩) pats_Settings___init__ := fun base => ok_Settings___init__ D_2 T (R__require base)
  have R__check_contexts : ∀ base : Heap, CalX l.prog w K mg base 1 "_check_contexts" (sp__check_contexts K ⟨TD_PictureHeader___init___store, TD_PictureHeader___init___refs, CDecoder, CSymbolReader, CMotionGrid, CFormat, CSettings, CPictureHeader, fa, XBadFormat, XOutOfRange, XBadHeader, TG_KINDS, TG_REF_COUNTS, TG_REF_COUNTS_0, TG_REF_COUNTS_1, TG_REF_COUNTS_2, fa⟩) pats__check_contexts := fun base => ok__check_contexts D_3 T 
  have R__check_unary : ∀ base : Heap, CalX l.prog w K mg base 2 "_check_unary" (sp__check_unary K ⟨TD_PictureHeader___init___store, TD_PictureHeader___init___refs, CDecoder, CSymbolReader, CMotionGrid, CFormat, CSettings, CPictureHeader, fa, XBadFormat, XOutOfRange, XBadHeader, TG_KINDS, TG_REF_COUNTS, TG_REF_COUNTS_0, TG_REF_COUNTS_1, TG_REF_COUNTS_2, fa⟩) pats__check_unary := fun base => ok__check_unary D_4 T (R__check_contexts base)
  have R__check_context : ∀ base : Heap, CalX l.prog w K mg base 1 "_check_context" (sp__check_context K ⟨TD_PictureHeader___init___store, TD_PictureHeader___init___refs, CDecoder, CSymbolReader, CMotionGrid, CFormat, CSettings, CPictureHeader, fa, XBadFormat, XOutOfRange, XBadHeader, TG_KINDS, TG_REF_COUNTS, TG_REF_COUNTS_0, TG_REF_COUNTS_1, TG_REF_COUNTS_2, fa⟩) pats__check_context := fun base => ok__check_context D_5 T 
  have R__adapted : ∀ base : Heap, CalX l.prog w K mg base 1 "_adapted" (sp__adapted K ⟨TD_PictureHeader___init___store, TD_PictureHeader___init___refs, CDecoder, CSymbolReader, CMotionGrid, CFormat, CSettings, CPictureHeader, fa, XBadFormat, XOutOfRange, XBadHeader, TG_KINDS, TG_REF_COUNTS, TG_REF_COUNTS_0, TG_REF_COUNTS_1, TG_REF_COUNTS_2, fa⟩) pats__adapted := fun base => ok__adapted D_6 T 
  have R_Decoder__shift : ∀ base : Heap, MetX l.prog w K mg base 1 (⟨TD_PictureHeader___init___store, TD_PictureHeader___init___refs, CDecoder, CSymbolReader, CMotionGrid, CFormat, CSettings, CPictureHeader, fa, XBadFormat, XOutOfRange, XBadHeader, TG_KINDS, TG_REF_COUNTS, TG_REF_COUNTS_0, TG_REF_COUNTS_1, TG_REF_COUNTS_2, fa⟩ : Ads).c_Decoder "_shift" (sp_Decoder__shift K ⟨TD_PictureHeader___init___store, TD_PictureHeader___init___refs, CDecoder, CSymbolReader, CMotionGrid, CFormat, CSettings, CPictureHeader, fa, XBadFormat, XOutOfRange, XBadHeader, TG_KINDS, TG_REF_COUNTS, TG_REF_COUNTS_0, TG_REF_COUNTS_1, TG_REF_COUNTS_2, fa⟩) pats_Decoder__shift := fun base => ok_Decoder__shift D_7 T 
  have R_Decoder__decide : ∀ base : Heap, MetX l.prog w K mg base 2 (⟨TD_PictureHeader___init___store, TD_PictureHeader___init___refs, CDecoder, CSymbolReader, CMotionGrid, CFormat, CSettings, CPictureHeader, fa, XBadFormat, XOutOfRange, XBadHeader, TG_KINDS, TG_REF_COUNTS, TG_REF_COUNTS_0, TG_REF_COUNTS_1, TG_REF_COUNTS_2, fa⟩ : Ads).c_Decoder "_decide" (sp_Decoder__decide K ⟨TD_PictureHeader___init___store, TD_PictureHeader___init___refs, CDecoder, CSymbolReader, CMotionGrid, CFormat, CSettings, CPictureHeader, fa, XBadFormat, XOutOfRange, XBadHeader, TG_KINDS, TG_REF_COUNTS, TG_REF_COUNTS_0, TG_REF_COUNTS_1, TG_REF_COUNTS_2, fa⟩) pats_Decoder__decide := fun base => ok_Decoder__decide D_8 T (R_Decoder__shift base)
  have R_Decoder_read : ∀ base : Heap, MetX l.prog w K mg base 3 (⟨TD_PictureHeader___init___store, TD_PictureHeader___init___refs, CDecoder, CSymbolReader, CMotionGrid, CFormat, CSettings, CPictureHeader, fa, XBadFormat, XOutOfRange, XBadHeader, TG_KINDS, TG_REF_COUNTS, TG_REF_COUNTS_0, TG_REF_COUNTS_1, TG_REF_COUNTS_2, fa⟩ : Ads).c_Decoder "read" (sp_Decoder_read K ⟨TD_PictureHeader___init___store, TD_PictureHeader___init___refs, CDecoder, CSymbolReader, CMotionGrid, CFormat, CSettings, CPictureHeader, fa, XBadFormat, XOutOfRange, XBadHeader, TG_KINDS, TG_REF_COUNTS, TG_REF_COUNTS_0, TG_REF_COUNTS_1, TG_REF_COUNTS_2, fa⟩) pats_Decoder_read := fun base => ok_Decoder_read D_9 T (R__check_context base) (R_Decoder__decide base) (R__adapted base)
  have R_SymbolReader_unary : ∀ base : Heap, MetX l.prog w K mg base 4 (⟨TD_PictureHeader___init___store, TD_PictureHeader___init___refs, CDecoder, CSymbolReader, CMotionGrid, CFormat, CSettings, CPictureHeader, fa, XBadFormat, XOutOfRange, XBadHeader, TG_KINDS, TG_REF_COUNTS, TG_REF_COUNTS_0, TG_REF_COUNTS_1, TG_REF_COUNTS_2, fa⟩ : Ads).c_SymbolReader "unary" (sp_SymbolReader_unary K ⟨TD_PictureHeader___init___store, TD_PictureHeader___init___refs, CDecoder, CSymbolReader, CMotionGrid, CFormat, CSettings, CPictureHeader, fa, XBadFormat, XOutOfRange, XBadHeader, TG_KINDS, TG_REF_COUNTS, TG_REF_COUNTS_0, TG_REF_COUNTS_1, TG_REF_COUNTS_2, fa⟩) pats_SymbolReader_unary := fun base => ok_SymbolReader_unary D_10 T (R__check_unary base) (R_Decoder_read base)
  have R__digit_context : ∀ base : Heap, CalX l.prog w K mg base 1 "_digit_context" (sp__digit_context K ⟨TD_PictureHeader___init___store, TD_PictureHeader___init___refs, CDecoder, CSymbolReader, CMotionGrid, CFormat, CSettings, CPictureHeader, fa, XBadFormat, XOutOfRange, XBadHeader, TG_KINDS, TG_REF_COUNTS, TG_REF_COUNTS_0, TG_REF_COUNTS_1, TG_REF_COUNTS_2, fa⟩) pats__digit_context := fun base => ok__digit_context D_11 T 
  have R_Decoder_read_even : ∀ base : Heap, MetX l.prog w K mg base 3 (⟨TD_PictureHeader___init___store, TD_PictureHeader___init___refs, CDecoder, CSymbolReader, CMotionGrid, CFormat, CSettings, CPictureHeader, fa, XBadFormat, XOutOfRange, XBadHeader, TG_KINDS, TG_REF_COUNTS, TG_REF_COUNTS_0, TG_REF_COUNTS_1, TG_REF_COUNTS_2, fa⟩ : Ads).c_Decoder "read_even" (sp_Decoder_read_even K ⟨TD_PictureHeader___init___store, TD_PictureHeader___init___refs, CDecoder, CSymbolReader, CMotionGrid, CFormat, CSettings, CPictureHeader, fa, XBadFormat, XOutOfRange, XBadHeader, TG_KINDS, TG_REF_COUNTS, TG_REF_COUNTS_0, TG_REF_COUNTS_1, TG_REF_COUNTS_2, fa⟩) pats_Decoder_read_even := fun base => ok_Decoder_read_even D_12 T (R_Decoder__decide base)
  have R_SymbolReader_number : ∀ base : Heap, MetX l.prog w K mg base 5 (⟨TD_PictureHeader___init___store, TD_PictureHeader___init___refs, CDecoder, CSymbolReader, CMotionGrid, CFormat, CSettings, CPictureHeader, fa, XBadFormat, XOutOfRange, XBadHeader, TG_KINDS, TG_REF_COUNTS, TG_REF_COUNTS_0, TG_REF_COUNTS_1, TG_REF_COUNTS_2, fa⟩ : Ads).c_SymbolReader "number" (sp_SymbolReader_number K ⟨TD_PictureHeader___init___store, TD_PictureHeader___init___refs, CDecoder, CSymbolReader, CMotionGrid, CFormat, CSettings, CPictureHeader, fa, XBadFormat, XOutOfRange, XBadHeader, TG_KINDS, TG_REF_COUNTS, TG_REF_COUNTS_0, TG_REF_COUNTS_1, TG_REF_COUNTS_2, fa⟩) pats_SymbolReader_number := fun base => ok_SymbolReader_number D_13 T (R__check_contexts base) (R_SymbolReader_unary base) (R_Decoder_read base) (R__digit_context base) (R_Decoder_read_even base)
  have R__check_numbers : ∀ base : Heap, CalX l.prog w K mg base 2 "_check_numbers" (sp__check_numbers K ⟨TD_PictureHeader___init___store, TD_PictureHeader___init___refs, CDecoder, CSymbolReader, CMotionGrid, CFormat, CSettings, CPictureHeader, fa, XBadFormat, XOutOfRange, XBadHeader, TG_KINDS, TG_REF_COUNTS, TG_REF_COUNTS_0, TG_REF_COUNTS_1, TG_REF_COUNTS_2, fa⟩) pats__check_numbers := fun base => ok__check_numbers D_14 T (R__require base)
  have R__check_slots : ∀ base : Heap, CalX l.prog w K mg base 2 "_check_slots" (sp__check_slots K ⟨TD_PictureHeader___init___store, TD_PictureHeader___init___refs, CDecoder, CSymbolReader, CMotionGrid, CFormat, CSettings, CPictureHeader, fa, XBadFormat, XOutOfRange, XBadHeader, TG_KINDS, TG_REF_COUNTS, TG_REF_COUNTS_0, TG_REF_COUNTS_1, TG_REF_COUNTS_2, fa⟩) pats__check_slots := fun base => ok__check_slots D_15 T (R__require base)
  have R_PictureHeader___init__ : ∀ base : Heap, MakX l.prog w K mg base 3 "PictureHeader" (⟨TD_PictureHeader___init___store, TD_PictureHeader___init___refs, CDecoder, CSymbolReader, CMotionGrid, CFormat, CSettings, CPictureHeader, fa, XBadFormat, XOutOfRange, XBadHeader, TG_KINDS, TG_REF_COUNTS, TG_REF_COUNTS_0, TG_REF_COUNTS_1, TG_REF_COUNTS_2, fa⟩ : Ads).c_PictureHeader (sp_PictureHeader___init__ K ⟨TD_PictureHeader___init___store, TD_PictureHeader___init___refs, CDecoder, CSymbolReader, CMotionGrid, CFormat, CSettings, CPictureHeader, fa, XBadFormat, XOutOfRange, XBadHeader, TG_KINDS, TG_REF_COUNTS, TG_REF_COUNTS_0, TG_REF_COUNTS_1, TG_REF_COUNTS_2, fa⟩) (pats_PictureHeader___init__ ⟨TD_PictureHeader___init___store, TD_PictureHeader___init___refs, CDecoder, CSymbolReader, CMotionGrid, CFormat, CSettings, CPictureHeader, fa, XBadFormat, XOutOfRange, XBadHeader, TG_KINDS, TG_REF_COUNTS, TG_REF_COUNTS_0, TG_REF_COUNTS_1, TG_REF_COUNTS_2, fa⟩) := fun base => ok_PictureHeader___init__ D_16 T (R__check_numbers base) (R__check_slots base)
  have R_MotionGrid___init__ : ∀ base : Heap, MakX l.prog w K mg base 1 "MotionGrid" (⟨TD_PictureHeader___init___store, TD_PictureHeader___init___refs, CDecoder, CSymbolReader, CMotionGrid, CFormat, CSettings, CPictureHeader, fa, XBadFormat, XOutOfRange, XBadHeader, TG_KINDS, TG_REF_COUNTS, TG_REF_COUNTS_0, TG_REF_COUNTS_1, TG_REF_COUNTS_2, fa⟩ : Ads).c_MotionGrid (sp_MotionGrid___init__ K ⟨TD_PictureHeader___init___store, TD_PictureHeader___init___refs, CDecoder, CSymbolReader, CMotionGrid, CFormat, CSettings, CPictureHeader, fa, XBadFormat, XOutOfRange, XBadHeader, TG_KINDS, TG_REF_COUNTS, TG_REF_COUNTS_0, TG_REF_COUNTS_1, TG_REF_COUNTS_2, fa⟩) pats_MotionGrid___init__ := fun base => ok_MotionGrid___init__ D_17 T 
  have R_SymbolReader___init__ : ∀ base : Heap, MakX l.prog w K mg base 1 "SymbolReader" (⟨TD_PictureHeader___init___store, TD_PictureHeader___init___refs, CDecoder, CSymbolReader, CMotionGrid, CFormat, CSettings, CPictureHeader, fa, XBadFormat, XOutOfRange, XBadHeader, TG_KINDS, TG_REF_COUNTS, TG_REF_COUNTS_0, TG_REF_COUNTS_1, TG_REF_COUNTS_2, fa⟩ : Ads).c_SymbolReader (sp_SymbolReader___init__ K ⟨TD_PictureHeader___init___store, TD_PictureHeader___init___refs, CDecoder, CSymbolReader, CMotionGrid, CFormat, CSettings, CPictureHeader, fa, XBadFormat, XOutOfRange, XBadHeader, TG_KINDS, TG_REF_COUNTS, TG_REF_COUNTS_0, TG_REF_COUNTS_1, TG_REF_COUNTS_2, fa⟩) pats_SymbolReader___init__ := fun base => ok_SymbolReader___init__ D_18 T 
  have R__law_cell : ∀ base : Heap, CalX l.prog w K mg base 1 "_law_cell" (sp__law_cell K ⟨TD_PictureHeader___init___store, TD_PictureHeader___init___refs, CDecoder, CSymbolReader, CMotionGrid, CFormat, CSettings, CPictureHeader, fa, XBadFormat, XOutOfRange, XBadHeader, TG_KINDS, TG_REF_COUNTS, TG_REF_COUNTS_0, TG_REF_COUNTS_1, TG_REF_COUNTS_2, fa⟩) pats__law_cell := fun base => ok__law_cell D_19 T 
  have R_Format___init__ : ∀ base : Heap, MakX l.prog w K mg base 1 "Format" (⟨TD_PictureHeader___init___store, TD_PictureHeader___init___refs, CDecoder, CSymbolReader, CMotionGrid, CFormat, CSettings, CPictureHeader, fa, XBadFormat, XOutOfRange, XBadHeader, TG_KINDS, TG_REF_COUNTS, TG_REF_COUNTS_0, TG_REF_COUNTS_1, TG_REF_COUNTS_2, fa⟩ : Ads).c_Format (sp_Format___init__ K ⟨TD_PictureHeader___init___store, TD_PictureHeader___init___refs, CDecoder, CSymbolReader, CMotionGrid, CFormat, CSettings, CPictureHeader, fa, XBadFormat, XOutOfRange, XBadHeader, TG_KINDS, TG_REF_COUNTS, TG_REF_COUNTS_0, TG_REF_COUNTS_1, TG_REF_COUNTS_2, fa⟩) pats_Format___init__ := fun base => ok_Format___init__ D_20 T 
  have R_Decoder___init__ : ∀ base : Heap, MakX l.prog w K mg base 2 "Decoder" (⟨TD_PictureHeader___init___store, TD_PictureHeader___init___refs, CDecoder, CSymbolReader, CMotionGrid, CFormat, CSettings, CPictureHeader, fa, XBadFormat, XOutOfRange, XBadHeader, TG_KINDS, TG_REF_COUNTS, TG_REF_COUNTS_0, TG_REF_COUNTS_1, TG_REF_COUNTS_2, fa⟩ : Ads).c_Decoder (sp_Decoder___init__ K ⟨TD_PictureHeader___init___store, TD_PictureHeader___init___refs, CDecoder, CSymbolReader, CMotionGrid, CFormat, CSettings, CPictureHeader, fa, XBadFormat, XOutOfRange, XBadHeader, TG_KINDS, TG_REF_COUNTS, TG_REF_COUNTS_0, TG_REF_COUNTS_1, TG_REF_COUNTS_2, fa⟩) pats_Decoder___init__ := fun base => ok_Decoder___init__ D_21 T (R_Decoder__shift base)
  have R__choice_digits : ∀ base : Heap, CalX l.prog w K mg base 2 "_choice_digits" (sp__choice_digits K ⟨TD_PictureHeader___init___store, TD_PictureHeader___init___refs, CDecoder, CSymbolReader, CMotionGrid, CFormat, CSettings, CPictureHeader, fa, XBadFormat, XOutOfRange, XBadHeader, TG_KINDS, TG_REF_COUNTS, TG_REF_COUNTS_0, TG_REF_COUNTS_1, TG_REF_COUNTS_2, fa⟩) pats__choice_digits := fun base => ok__choice_digits D_22 T (R__check_contexts base)
  have R_SymbolReader_choice : ∀ base : Heap, MetX l.prog w K mg base 4 (⟨TD_PictureHeader___init___store, TD_PictureHeader___init___refs, CDecoder, CSymbolReader, CMotionGrid, CFormat, CSettings, CPictureHeader, fa, XBadFormat, XOutOfRange, XBadHeader, TG_KINDS, TG_REF_COUNTS, TG_REF_COUNTS_0, TG_REF_COUNTS_1, TG_REF_COUNTS_2, fa⟩ : Ads).c_SymbolReader "choice" (sp_SymbolReader_choice K ⟨TD_PictureHeader___init___store, TD_PictureHeader___init___refs, CDecoder, CSymbolReader, CMotionGrid, CFormat, CSettings, CPictureHeader, fa, XBadFormat, XOutOfRange, XBadHeader, TG_KINDS, TG_REF_COUNTS, TG_REF_COUNTS_0, TG_REF_COUNTS_1, TG_REF_COUNTS_2, fa⟩) pats_SymbolReader_choice := fun base => ok_SymbolReader_choice D_23 T (R__choice_digits base) (R_Decoder_read base)
  have R__law_vector : ∀ base : Heap, CalX l.prog w K mg base 1 "_law_vector" (sp__law_vector K ⟨TD_PictureHeader___init___store, TD_PictureHeader___init___refs, CDecoder, CSymbolReader, CMotionGrid, CFormat, CSettings, CPictureHeader, fa, XBadFormat, XOutOfRange, XBadHeader, TG_KINDS, TG_REF_COUNTS, TG_REF_COUNTS_0, TG_REF_COUNTS_1, TG_REF_COUNTS_2, fa⟩) pats__law_vector := fun base => ok__law_vector D_24 T 
  have R__law_median : ∀ base : Heap, CalX l.prog w K mg base 1 "_law_median" (sp__law_median K ⟨TD_PictureHeader___init___store, TD_PictureHeader___init___refs, CDecoder, CSymbolReader, CMotionGrid, CFormat, CSettings, CPictureHeader, fa, XBadFormat, XOutOfRange, XBadHeader, TG_KINDS, TG_REF_COUNTS, TG_REF_COUNTS_0, TG_REF_COUNTS_1, TG_REF_COUNTS_2, fa⟩) pats__law_median := fun base => ok__law_median D_25 T 
  have R__law_predicted : ∀ base : Heap, CalX l.prog w K mg base 2 "_law_predicted" (sp__law_predicted K ⟨TD_PictureHeader___init___store, TD_PictureHeader___init___refs, CDecoder, CSymbolReader, CMotionGrid, CFormat, CSettings, CPictureHeader, fa, XBadFormat, XOutOfRange, XBadHeader, TG_KINDS, TG_REF_COUNTS, TG_REF_COUNTS_0, TG_REF_COUNTS_1, TG_REF_COUNTS_2, fa⟩) pats__law_predicted := fun base => ok__law_predicted D_26 T (R__law_vector base) (R__law_median base)
  have R_SymbolReader_signed : ∀ base : Heap, MetX l.prog w K mg base 6 (⟨TD_PictureHeader___init___store, TD_PictureHeader___init___refs, CDecoder, CSymbolReader, CMotionGrid, CFormat, CSettings, CPictureHeader, fa, XBadFormat, XOutOfRange, XBadHeader, TG_KINDS, TG_REF_COUNTS, TG_REF_COUNTS_0, TG_REF_COUNTS_1, TG_REF_COUNTS_2, fa⟩ : Ads).c_SymbolReader "signed" (sp_SymbolReader_signed K ⟨TD_PictureHeader___init___store, TD_PictureHeader___init___refs, CDecoder, CSymbolReader, CMotionGrid, CFormat, CSettings, CPictureHeader, fa, XBadFormat, XOutOfRange, XBadHeader, TG_KINDS, TG_REF_COUNTS, TG_REF_COUNTS_0, TG_REF_COUNTS_1, TG_REF_COUNTS_2, fa⟩) pats_SymbolReader_signed := fun base => ok_SymbolReader_signed D_27 T (R_SymbolReader_number base) (R_Decoder_read_even base)
  have R__law_due : ∀ base : Heap, CalX l.prog w K mg base 7 "_law_due" (sp__law_due K ⟨TD_PictureHeader___init___store, TD_PictureHeader___init___refs, CDecoder, CSymbolReader, CMotionGrid, CFormat, CSettings, CPictureHeader, fa, XBadFormat, XOutOfRange, XBadHeader, TG_KINDS, TG_REF_COUNTS, TG_REF_COUNTS_0, TG_REF_COUNTS_1, TG_REF_COUNTS_2, fa⟩) pats__law_due := fun base => ok__law_due D_28 T (R_SymbolReader_choice base) (R__law_predicted base) (R_SymbolReader_signed base)
  have R_clip : ∀ base : Heap, CalX l.prog w K mg base 1 "clip" (sp_clip K ⟨TD_PictureHeader___init___store, TD_PictureHeader___init___refs, CDecoder, CSymbolReader, CMotionGrid, CFormat, CSettings, CPictureHeader, fa, XBadFormat, XOutOfRange, XBadHeader, TG_KINDS, TG_REF_COUNTS, TG_REF_COUNTS_0, TG_REF_COUNTS_1, TG_REF_COUNTS_2, fa⟩) pats_clip := fun base => ok_clip D_29 T 
  have R__clip_component : ∀ base : Heap, CalX l.prog w K mg base 2 "_clip_component" (sp__clip_component K ⟨TD_PictureHeader___init___store, TD_PictureHeader___init___refs, CDecoder, CSymbolReader, CMotionGrid, CFormat, CSettings, CPictureHeader, fa, XBadFormat, XOutOfRange, XBadHeader, TG_KINDS, TG_REF_COUNTS, TG_REF_COUNTS_0, TG_REF_COUNTS_1, TG_REF_COUNTS_2, fa⟩) pats__clip_component := fun base => ok__clip_component D_30 T (R_clip base)
  have R_clip_vector : ∀ base : Heap, CalX l.prog w K mg base 3 "clip_vector" (sp_clip_vector K ⟨TD_PictureHeader___init___store, TD_PictureHeader___init___refs, CDecoder, CSymbolReader, CMotionGrid, CFormat, CSettings, CPictureHeader, fa, XBadFormat, XOutOfRange, XBadHeader, TG_KINDS, TG_REF_COUNTS, TG_REF_COUNTS_0, TG_REF_COUNTS_1, TG_REF_COUNTS_2, fa⟩) pats_clip_vector := fun base => ok_clip_vector D_31 T (R__clip_component base)
  have R__read_vector : ∀ base : Heap, CalX l.prog w K mg base 7 "_read_vector" (sp__read_vector K ⟨TD_PictureHeader___init___store, TD_PictureHeader___init___refs, CDecoder, CSymbolReader, CMotionGrid, CFormat, CSettings, CPictureHeader, fa, XBadFormat, XOutOfRange, XBadHeader, TG_KINDS, TG_REF_COUNTS, TG_REF_COUNTS_0, TG_REF_COUNTS_1, TG_REF_COUNTS_2, fa⟩) pats__read_vector := fun base => ok__read_vector D_32 T (R_SymbolReader_signed base) (R_clip_vector base)
  have R__median : ∀ base : Heap, CalX l.prog w K mg base 1 "_median" (sp__median K ⟨TD_PictureHeader___init___store, TD_PictureHeader___init___refs, CDecoder, CSymbolReader, CMotionGrid, CFormat, CSettings, CPictureHeader, fa, XBadFormat, XOutOfRange, XBadHeader, TG_KINDS, TG_REF_COUNTS, TG_REF_COUNTS_0, TG_REF_COUNTS_1, TG_REF_COUNTS_2, fa⟩) pats__median := fun base => ok__median D_33 T 
  have R_MotionGrid__has : ∀ base : Heap, MetX l.prog w K mg base 1 (⟨TD_PictureHeader___init___store, TD_PictureHeader___init___refs, CDecoder, CSymbolReader, CMotionGrid, CFormat, CSettings, CPictureHeader, fa, XBadFormat, XOutOfRange, XBadHeader, TG_KINDS, TG_REF_COUNTS, TG_REF_COUNTS_0, TG_REF_COUNTS_1, TG_REF_COUNTS_2, fa⟩ : Ads).c_MotionGrid "_has" (sp_MotionGrid__has K ⟨TD_PictureHeader___init___store, TD_PictureHeader___init___refs, CDecoder, CSymbolReader, CMotionGrid, CFormat, CSettings, CPictureHeader, fa, XBadFormat, XOutOfRange, XBadHeader, TG_KINDS, TG_REF_COUNTS, TG_REF_COUNTS_0, TG_REF_COUNTS_1, TG_REF_COUNTS_2, fa⟩) pats_MotionGrid__has := fun base => ok_MotionGrid__has D_34 T 
  have R_MotionGrid_motion_at : ∀ base : Heap, MetX l.prog w K mg base 2 (⟨TD_PictureHeader___init___store, TD_PictureHeader___init___refs, CDecoder, CSymbolReader, CMotionGrid, CFormat, CSettings, CPictureHeader, fa, XBadFormat, XOutOfRange, XBadHeader, TG_KINDS, TG_REF_COUNTS, TG_REF_COUNTS_0, TG_REF_COUNTS_1, TG_REF_COUNTS_2, fa⟩ : Ads).c_MotionGrid "motion_at" (sp_MotionGrid_motion_at K ⟨TD_PictureHeader___init___store, TD_PictureHeader___init___refs, CDecoder, CSymbolReader, CMotionGrid, CFormat, CSettings, CPictureHeader, fa, XBadFormat, XOutOfRange, XBadHeader, TG_KINDS, TG_REF_COUNTS, TG_REF_COUNTS_0, TG_REF_COUNTS_1, TG_REF_COUNTS_2, fa⟩) pats_MotionGrid_motion_at := fun base => ok_MotionGrid_motion_at D_35 T (R_MotionGrid__has base)
  have R_MotionGrid__vector_at : ∀ base : Heap, MetX l.prog w K mg base 3 (⟨TD_PictureHeader___init___store, TD_PictureHeader___init___refs, CDecoder, CSymbolReader, CMotionGrid, CFormat, CSettings, CPictureHeader, fa, XBadFormat, XOutOfRange, XBadHeader, TG_KINDS, TG_REF_COUNTS, TG_REF_COUNTS_0, TG_REF_COUNTS_1, TG_REF_COUNTS_2, fa⟩ : Ads).c_MotionGrid "_vector_at" (sp_MotionGrid__vector_at K ⟨TD_PictureHeader___init___store, TD_PictureHeader___init___refs, CDecoder, CSymbolReader, CMotionGrid, CFormat, CSettings, CPictureHeader, fa, XBadFormat, XOutOfRange, XBadHeader, TG_KINDS, TG_REF_COUNTS, TG_REF_COUNTS_0, TG_REF_COUNTS_1, TG_REF_COUNTS_2, fa⟩) pats_MotionGrid__vector_at := fun base => ok_MotionGrid__vector_at D_36 T (R_MotionGrid_motion_at base)
  have R_MotionGrid_predicted : ∀ base : Heap, MetX l.prog w K mg base 4 (⟨TD_PictureHeader___init___store, TD_PictureHeader___init___refs, CDecoder, CSymbolReader, CMotionGrid, CFormat, CSettings, CPictureHeader, fa, XBadFormat, XOutOfRange, XBadHeader, TG_KINDS, TG_REF_COUNTS, TG_REF_COUNTS_0, TG_REF_COUNTS_1, TG_REF_COUNTS_2, fa⟩ : Ads).c_MotionGrid "predicted" (sp_MotionGrid_predicted K ⟨TD_PictureHeader___init___store, TD_PictureHeader___init___refs, CDecoder, CSymbolReader, CMotionGrid, CFormat, CSettings, CPictureHeader, fa, XBadFormat, XOutOfRange, XBadHeader, TG_KINDS, TG_REF_COUNTS, TG_REF_COUNTS_0, TG_REF_COUNTS_1, TG_REF_COUNTS_2, fa⟩) pats_MotionGrid_predicted := fun base => ok_MotionGrid_predicted D_37 T (R_MotionGrid__vector_at base) (R__median base)
  have R_read_motion : ∀ base : Heap, CalX l.prog w K mg base 8 "read_motion" (sp_read_motion K ⟨TD_PictureHeader___init___store, TD_PictureHeader___init___refs, CDecoder, CSymbolReader, CMotionGrid, CFormat, CSettings, CPictureHeader, fa, XBadFormat, XOutOfRange, XBadHeader, TG_KINDS, TG_REF_COUNTS, TG_REF_COUNTS_0, TG_REF_COUNTS_1, TG_REF_COUNTS_2, fa⟩) pats_read_motion := fun base => ok_read_motion D_38 T (R_SymbolReader_choice base) (R__read_vector base) (R_MotionGrid_predicted base)
  have R_MotionGrid_keep_quarter : ∀ base : Heap, MetX l.prog w K mg base 2 (⟨TD_PictureHeader___init___store, TD_PictureHeader___init___refs, CDecoder, CSymbolReader, CMotionGrid, CFormat, CSettings, CPictureHeader, fa, XBadFormat, XOutOfRange, XBadHeader, TG_KINDS, TG_REF_COUNTS, TG_REF_COUNTS_0, TG_REF_COUNTS_1, TG_REF_COUNTS_2, fa⟩ : Ads).c_MotionGrid "keep_quarter" (sp_MotionGrid_keep_quarter K ⟨TD_PictureHeader___init___store, TD_PictureHeader___init___refs, CDecoder, CSymbolReader, CMotionGrid, CFormat, CSettings, CPictureHeader, fa, XBadFormat, XOutOfRange, XBadHeader, TG_KINDS, TG_REF_COUNTS, TG_REF_COUNTS_0, TG_REF_COUNTS_1, TG_REF_COUNTS_2, fa⟩) pats_MotionGrid_keep_quarter := fun base => ok_MotionGrid_keep_quarter D_39 T (R_MotionGrid__has base)
  have R__law_is_vector : ∀ base : Heap, CalX l.prog w K mg base 1 "_law_is_vector" (sp__law_is_vector K ⟨TD_PictureHeader___init___store, TD_PictureHeader___init___refs, CDecoder, CSymbolReader, CMotionGrid, CFormat, CSettings, CPictureHeader, fa, XBadFormat, XOutOfRange, XBadHeader, TG_KINDS, TG_REF_COUNTS, TG_REF_COUNTS_0, TG_REF_COUNTS_1, TG_REF_COUNTS_2, fa⟩) pats__law_is_vector := fun base => ok__law_is_vector D_40 T 
  have R__law_is_motion : ∀ base : Heap, CalX l.prog w K mg base 2 "_law_is_motion" (sp__law_is_motion K ⟨TD_PictureHeader___init___store, TD_PictureHeader___init___refs, CDecoder, CSymbolReader, CMotionGrid, CFormat, CSettings, CPictureHeader, fa, XBadFormat, XOutOfRange, XBadHeader, TG_KINDS, TG_REF_COUNTS, TG_REF_COUNTS_0, TG_REF_COUNTS_1, TG_REF_COUNTS_2, fa⟩) pats__law_is_motion := fun base => ok__law_is_motion D_41 T (R__law_is_vector base)

  refine ⟨PySem.W.fnOf "law" "law" (defArgs s_law) (defBody s_law) (defScope s_law) .none kV42 dc42 pm42 an42 cd42 ct42, fun s v => .of_eq rfl, fun base _ _ => (ok_law (AD := ⟨TD_PictureHeader___init___store, TD_PictureHeader___init___refs, CDecoder, CSymbolReader, CMotionGrid, CFormat, CSettings, CPictureHeader, fa, XBadFormat, XOutOfRange, XBadHeader, TG_KINDS, TG_REF_COUNTS, TG_REF_COUNTS_0, TG_REF_COUNTS_1, TG_REF_COUNTS_2, fa⟩) F42 T (R__law_draws base) (R__law_cell base) (R_Settings___init__ base) (R_Format___init__ base) (R_PictureHeader___init__ base) (R_MotionGrid___init__ base) (R_SymbolReader___init__ base) (R_Decoder___init__ base) (R__law_due base) (R_read_motion base) (R__law_is_motion base) (R_MotionGrid_motion_at base) (R_MotionGrid_keep_quarter base)).imp ?_⟩
  rintro vs H Q E ⟨a, xs, rfl, hs, hl, q⟩
  exact ⟨a, xs, rfl, hs, by rw [law_true xs hl]; exact cW_mk rfl, q⟩
end Vx
open PySem PySem.W PyProof.Rows
set_option maxRecDepth 100000 in
set_option maxHeartbeats 0 in
theorem PySem.Challenge.cw_thaumatrope_k34_any_octets_read_as_motio_holds : PySem.Challenge.rw_thaumatrope_k34_any_octets_read_as_motio.Holds := by
  w_on; o_law; k_head; (case hw => w_witness2)
  k_fill
  refine Vx.walkG (l := PySem.Challenge.rw_thaumatrope_k34_any_octets_read_as_motio) (n := 63) (k := 9) (x := "script") rfl (by decide) rfl ⟨rfl, by decide, by decide⟩ (fun w h Y => PySem.W.kIn_of Y) ?F
  case F =>
    intro w mg fa h KX G hmg
    refine' Vx.all_mk KX G hmg ?wDecoder ?wSymbolReader ?wMotionGrid ?wFormat ?wSettings ?wPictureHeader ?vBadFormat ?vOutOfRange ?vBadHeader ?a0 ?l0 ?c0 ?k0 ?a1 ?l1 ?c1 ?k1 ?a2 ?b2 ?d2 ?e2 ?l2 ?c2 ?k2 ?kd2_0 ?kd2_1 ?kd2_2 ?kd2_3 ?kd2_4 ?a3 ?l3 ?c3 ?k3 ?a4 ?l4 ?c4 ?k4 ?a5 ?l5 ?c5 ?k5 ?a6 ?l6 ?c6 ?k6 ?a7 ?b7 ?l7 ?c7 ?k7 ?a8 ?b8 ?l8 ?c8 ?k8 ?a9 ?b9 ?l9 ?c9 ?k9 ?a10 ?b10 ?l10 ?c10 ?k10 ?a11 ?l11 ?c11 ?k11 ?a12 ?b12 ?l12 ?c12 ?k12 ?a13 ?b13 ?l13 ?c13 ?k13 ?a14 ?l14 ?c14 ?k14 ?a15 ?l15 ?c15 ?k15 ?a16 ?b16 ?d16 ?e16 ?l16 ?c16 ?k16 ?kd16_0 ?kd16_1 ?kd16_2 ?kd16_3 ?kd16_4 ?kd16_5 ?kd16_6 ?kd16_7 ?a17 ?b17 ?d17 ?e17 ?l17 ?c17 ?k17 ?a18 ?b18 ?d18 ?e18 ?l18 ?c18 ?k18 ?a19 ?l19 ?c19 ?k19 ?a20 ?b20 ?d20 ?e20 ?l20 ?c20 ?k20 ?kd20_0 ?kd20_1 ?a21 ?b21 ?d21 ?e21 ?l21 ?c21 ?k21 ?a22 ?l22 ?c22 ?k22 ?a23 ?b23 ?l23 ?c23 ?k23 ?a24 ?l24 ?c24 ?k24 ?a25 ?l25 ?c25 ?k25 ?a26 ?l26 ?c26 ?k26 ?a27 ?b27 ?l27 ?c27 ?k27 ?a28 ?l28 ?c28 ?k28 ?a29 ?l29 ?c29 ?k29 ?a30 ?l30 ?c30 ?k30 ?a31 ?l31 ?c31 ?k31 ?a32 ?l32 ?c32 ?k32 ?a33 ?l33 ?c33 ?k33 ?a34 ?b34 ?l34 ?c34 ?k34 ?a35 ?b35 ?l35 ?c35 ?k35 ?a36 ?b36 ?l36 ?c36 ?k36 ?a37 ?b37 ?l37 ?c37 ?k37 ?kd37_0 ?a38 ?l38 ?c38 ?k38 ?a39 ?b39 ?l39 ?c39 ?k39 ?a40 ?l40 ?c40 ?k40 ?a41 ?l41 ?c41 ?k41 ?a42 ?l42 ?c42 ?k42 ?z0 ?z1 ?z2 ?z3 ?z4 ?z5 ?z6 ?z7 ?z8 ?z9 ?z10 ?z11 ?z12 ?z13 ?z14 ?z15 ?z16 ?z17 ?y17 ?z18 ?z19 ?z20 ?z21 ?z22 ?y22 ?u22_0 ?u22_1 ?u22_2 ?y22_2 ?y22_1 ?y22_0 ?z23 ?z24 ?z25 ?z26 ?z27 ?z28 ?z29 ?z30 ?z31 ?z32 ?z33 ?z34 ?z35 ?z36 ?ytPictureHeader___init___store ?ytPictureHeader___init___refs ?ySettings0 ?ySettings1 ?ySettings2 ?ySettings3 ?xSettings0 ?xSettings1 ?xSettings2 ?xSettings3 ?xSettings4 ?xSettings5 ?yDecoder0 ?yDecoder1 ?yDecoder2 ?yDecoder3 ?xDecoder0 ?xDecoder1 ?xDecoder2 ?xDecoder3 ?xDecoder4 ?ySymbolReader0 ?ySymbolReader1 ?ySymbolReader2 ?ySymbolReader3 ?xSymbolReader0 ?yPictureHeader0 ?yPictureHeader1 ?yPictureHeader2 ?yPictureHeader3 ?xPictureHeader0 ?xPictureHeader1 ?xPictureHeader2 ?xPictureHeader3 ?xPictureHeader4 ?xPictureHeader5 ?xPictureHeader6 ?xPictureHeader7 ?xPictureHeader8 ?yMotionGrid0 ?yMotionGrid1 ?yMotionGrid2 ?yMotionGrid3 ?xMotionGrid0 ?xMotionGrid1 ?xMotionGrid2 ?yFormat0 ?yFormat1 ?yFormat2 ?yFormat3 ?xFormat0 ?xFormat1 ?xFormat2 ?xFormat3 ?exBadHeader ?ekBadHeader ?ebBadHeader ?etBadHeader ?exOutOfRange ?ekOutOfRange ?ebOutOfRange ?etOutOfRange ?exBadFormat ?ekBadFormat ?ebBadFormat ?etBadFormat
    (case wDecoder => k_is)
    (case wSymbolReader => k_is)
    (case wMotionGrid => k_is)
    (case wFormat => k_is)
    (case wSettings => k_is)
    (case wPictureHeader => k_is)
    (case vBadFormat => k_is)
    (case vOutOfRange => k_is)
    (case vBadHeader => k_is)
    (case a0 => k_is)
    (case l0 => k_is)
    (case c0 => k_is)
    (case k0 => k_is)
    (case a1 => k_is)
    (case l1 => k_is)
    (case c1 => k_is)
    (case k1 => k_is)
    (case a2 => k_is)
    (case b2 => k_is)
    (case d2 => k_is)
    (case e2 => k_is)
    (case l2 => k_is)
    (case c2 => k_is)
    (case k2 => k_is)
    (case kd2_0 => k_is)
    (case kd2_1 => k_is)
    (case kd2_2 => k_is)
    (case kd2_3 => k_is)
    (case kd2_4 => k_is)
    (case a3 => k_is)
    (case l3 => k_is)
    (case c3 => k_is)
    (case k3 => k_is)
    (case a4 => k_is)
    (case l4 => k_is)
    (case c4 => k_is)
    (case k4 => k_is)
    (case a5 => k_is)
    (case l5 => k_is)
    (case c5 => k_is)
    (case k5 => k_is)
    (case a6 => k_is)
    (case l6 => k_is)
    (case c6 => k_is)
    (case k6 => k_is)
    (case a7 => k_is)
    (case b7 => k_is)
    (case l7 => k_is)
    (case c7 => k_is)
    (case k7 => k_is)
    (case a8 => k_is)
    (case b8 => k_is)
    (case l8 => k_is)
    (case c8 => k_is)
    (case k8 => k_is)
    (case a9 => k_is)
    (case b9 => k_is)
    (case l9 => k_is)
    (case c9 => k_is)
    (case k9 => k_is)
    (case a10 => k_is)
    (case b10 => k_is)
    (case l10 => k_is)
    (case c10 => k_is)
    (case k10 => k_is)
    (case a11 => k_is)
    (case l11 => k_is)
    (case c11 => k_is)
    (case k11 => k_is)
    (case a12 => k_is)
    (case b12 => k_is)
    (case l12 => k_is)
    (case c12 => k_is)
    (case k12 => k_is)
    (case a13 => k_is)
    (case b13 => k_is)
    (case l13 => k_is)
    (case c13 => k_is)
    (case k13 => k_is)
    (case a14 => k_is)
    (case l14 => k_is)
    (case c14 => k_is)
    (case k14 => k_is)
    (case a15 => k_is)
    (case l15 => k_is)
    (case c15 => k_is)
    (case k15 => k_is)
    (case a16 => k_is)
    (case b16 => k_is)
    (case d16 => k_is)
    (case e16 => k_is)
    (case l16 => k_is)
    (case c16 => k_is)
    (case k16 => k_is)
    (case kd16_0 => k_is)
    (case kd16_1 => k_is)
    (case kd16_2 => k_is)
    (case kd16_3 => k_is)
    (case kd16_4 => k_is)
    (case kd16_5 => k_is)
    (case kd16_6 => k_is)
    (case kd16_7 => k_is)
    (case a17 => k_is)
    (case b17 => k_is)
    (case d17 => k_is)
    (case e17 => k_is)
    (case l17 => k_is)
    (case c17 => k_is)
    (case k17 => k_is)
    (case a18 => k_is)
    (case b18 => k_is)
    (case d18 => k_is)
    (case e18 => k_is)
    (case l18 => k_is)
    (case c18 => k_is)
    (case k18 => k_is)
    (case a19 => k_is)
    (case l19 => k_is)
    (case c19 => k_is)
    (case k19 => k_is)
    (case a20 => k_is)
    (case b20 => k_is)
    (case d20 => k_is)
    (case e20 => k_is)
    (case l20 => k_is)
    (case c20 => k_is)
    (case k20 => k_is)
    (case kd20_0 => k_is)
    (case kd20_1 => k_is)
    (case a21 => k_is)
    (case b21 => k_is)
    (case d21 => k_is)
    (case e21 => k_is)
    (case l21 => k_is)
    (case c21 => k_is)
    (case k21 => k_is)
    (case a22 => k_is)
    (case l22 => k_is)
    (case c22 => k_is)
    (case k22 => k_is)
    (case a23 => k_is)
    (case b23 => k_is)
    (case l23 => k_is)
    (case c23 => k_is)
    (case k23 => k_is)
    (case a24 => k_is)
    (case l24 => k_is)
    (case c24 => k_is)
    (case k24 => k_is)
    (case a25 => k_is)
    (case l25 => k_is)
    (case c25 => k_is)
    (case k25 => k_is)
    (case a26 => k_is)
    (case l26 => k_is)
    (case c26 => k_is)
    (case k26 => k_is)
    (case a27 => k_is)
    (case b27 => k_is)
    (case l27 => k_is)
    (case c27 => k_is)
    (case k27 => k_is)
    (case a28 => k_is)
    (case l28 => k_is)
    (case c28 => k_is)
    (case k28 => k_is)
    (case a29 => k_is)
    (case l29 => k_is)
    (case c29 => k_is)
    (case k29 => k_is)
    (case a30 => k_is)
    (case l30 => k_is)
    (case c30 => k_is)
    (case k30 => k_is)
    (case a31 => k_is)
    (case l31 => k_is)
    (case c31 => k_is)
    (case k31 => k_is)
    (case a32 => k_is)
    (case l32 => k_is)
    (case c32 => k_is)
    (case k32 => k_is)
    (case a33 => k_is)
    (case l33 => k_is)
    (case c33 => k_is)
    (case k33 => k_is)
    (case a34 => k_is)
    (case b34 => k_is)
    (case l34 => k_is)
    (case c34 => k_is)
    (case k34 => k_is)
    (case a35 => k_is)
    (case b35 => k_is)
    (case l35 => k_is)
    (case c35 => k_is)
    (case k35 => k_is)
    (case a36 => k_is)
    (case b36 => k_is)
    (case l36 => k_is)
    (case c36 => k_is)
    (case k36 => k_is)
    (case a37 => k_is)
    (case b37 => k_is)
    (case l37 => k_is)
    (case c37 => k_is)
    (case k37 => k_is)
    (case kd37_0 => k_is)
    (case a38 => k_is)
    (case l38 => k_is)
    (case c38 => k_is)
    (case k38 => k_is)
    (case a39 => k_is)
    (case b39 => k_is)
    (case l39 => k_is)
    (case c39 => k_is)
    (case k39 => k_is)
    (case a40 => k_is)
    (case l40 => k_is)
    (case c40 => k_is)
    (case k40 => k_is)
    (case a41 => k_is)
    (case l41 => k_is)
    (case c41 => k_is)
    (case k41 => k_is)
    (case a42 => k_is)
    (case l42 => k_is)
    (case c42 => k_is)
    (case k42 => k_is)
    (case z0 => k_is)
    (case z1 => k_is)
    (case z2 => k_is)
    (case z3 => k_is)
    (case z4 => k_is)
    (case z5 => k_is)
    (case z6 => k_is)
    (case z7 => k_is)
    (case z8 => k_is)
    (case z9 => k_is)
    (case z10 => k_is)
    (case z11 => k_is)
    (case z12 => k_is)
    (case z13 => k_is)
    (case z14 => k_is)
    (case z15 => k_is)
    (case z16 => k_is)
    (case z17 => k_is)
    (case y17 => k_is)
    (case z18 => k_is)
    (case z19 => k_is)
    (case z20 => k_is)
    (case z21 => k_is)
    (case z22 => k_is)
    (case y22 => k_is)
    (case u22_0 => rfl)
    (case u22_1 => rfl)
    (case u22_2 => rfl)
    (case y22_2 => k_is)
    (case y22_1 => k_is)
    (case y22_0 => k_is)
    (case z23 => k_is)
    (case z24 => k_is)
    (case z25 => k_is)
    (case z26 => k_is)
    (case z27 => k_is)
    (case z28 => k_is)
    (case z29 => k_is)
    (case z30 => k_is)
    (case z31 => k_is)
    (case z32 => k_is)
    (case z33 => k_is)
    (case z34 => k_is)
    (case z35 => k_is)
    (case z36 => k_is)
    (case ytPictureHeader___init___store => k_is)
    (case ytPictureHeader___init___refs => k_is)
    (case ySettings0 => k_is)
    (case ySettings1 => k_is)
    (case ySettings2 => k_is)
    (case ySettings3 => k_is)
    (case xSettings0 => k_is)
    (case xSettings1 => k_is)
    (case xSettings2 => k_is)
    (case xSettings3 => k_is)
    (case xSettings4 => k_is)
    (case xSettings5 => k_is)
    (case yDecoder0 => k_is)
    (case yDecoder1 => k_is)
    (case yDecoder2 => k_is)
    (case yDecoder3 => k_is)
    (case xDecoder0 => k_is)
    (case xDecoder1 => k_is)
    (case xDecoder2 => k_is)
    (case xDecoder3 => k_is)
    (case xDecoder4 => k_is)
    (case ySymbolReader0 => k_is)
    (case ySymbolReader1 => k_is)
    (case ySymbolReader2 => k_is)
    (case ySymbolReader3 => k_is)
    (case xSymbolReader0 => k_is)
    (case yPictureHeader0 => k_is)
    (case yPictureHeader1 => k_is)
    (case yPictureHeader2 => k_is)
    (case yPictureHeader3 => k_is)
    (case xPictureHeader0 => k_is)
    (case xPictureHeader1 => k_is)
    (case xPictureHeader2 => k_is)
    (case xPictureHeader3 => k_is)
    (case xPictureHeader4 => k_is)
    (case xPictureHeader5 => k_is)
    (case xPictureHeader6 => k_is)
    (case xPictureHeader7 => k_is)
    (case xPictureHeader8 => k_is)
    (case yMotionGrid0 => k_is)
    (case yMotionGrid1 => k_is)
    (case yMotionGrid2 => k_is)
    (case yMotionGrid3 => k_is)
    (case xMotionGrid0 => k_is)
    (case xMotionGrid1 => k_is)
    (case xMotionGrid2 => k_is)
    (case yFormat0 => k_is)
    (case yFormat1 => k_is)
    (case yFormat2 => k_is)
    (case yFormat3 => k_is)
    (case xFormat0 => k_is)
    (case xFormat1 => k_is)
    (case xFormat2 => k_is)
    (case xFormat3 => k_is)
    (case exBadHeader => k_exc)
    (case ekBadHeader => k_is)
    (case ebBadHeader => k_is)
    (case etBadHeader => k_is)
    (case exOutOfRange => k_exc)
    (case ekOutOfRange => k_is)
    (case ebOutOfRange => k_is)
    (case etOutOfRange => k_is)
    (case exBadFormat => k_exc)
    (case ekBadFormat => k_is)
    (case ebBadFormat => k_is)
    (case etBadFormat => k_is)
