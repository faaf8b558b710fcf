import PyProof.Rows.All
import Wide.All
import OpenK.AllK
import Wide.FinOn
import HandS.ForMost
import HandS.Codes
import HandS.Steps
import HandS.IsInst
import HandS.Property
import HandS.Wide
import HandS.WideBits
import HandS.Exc
import HandS.Defaults
import HandS.ExcOwn
import HandS.TryOnly
import HandS.WordsExc
import HandS.ExcIs
import HandS.MakeKwOnly
import HandS.RaiseMore
import HandS.Style
import HandS.Zip
import HandS.Iter
import HandS.Walk
import PySem.Challenge.RW_thaumatrope_k71_containers_packed_and_op
set_option Elab.async false
set_option linter.all false
set_option maxRecDepth 100000
set_option maxHeartbeats 8000000
namespace Vx
open PySem PySem.Spec PyProof.Rows L2

/-! ### heaps -/
def SameX (m : Addr) (H H' : Hp) : Prop := ∀ b o, H b = some o → b ≠ m → H' b = some o
theorem gen_new {H H' : Hp} {p : Addr} {o : HO} (n : H p = none) (h : upd H p o = H') : Same H H' ∧ H' p = some o := by
  subst h
  exact ⟨fun b u e => by rw [upd_ne (ne_of_none e n)]; exact e, upd_same⟩
theorem gen_mut {H H' : Hp} {m : Addr} {o : HO} (h : upd H m o = H') : SameX m H H' ∧ H' m = some o := by
  subst h
  exact ⟨fun b u e n => by rw [upd_ne n]; exact e, upd_same⟩
theorem same_mut {H0 H H' : Hp} {m : Addr} (B : Same H0 H) (x : SameX m H H') (f : H0 m = none) : Same H0 H' :=
  fun b o e => x b o (B b o e) (ne_of_none e f)
theorem map_get {xs : List Int} {i : Nat} {x : V} (h : (xs.map V.int)[i]? = some x) : ∃ o, xs[i]? = some o ∧ x = .int o := by
  rw [List.getElem?_map] at h
  cases e : xs[i]? with
  | none => rw [e] at h; cases h
  | some z => rw [e] at h; exact ⟨z, rfl, (Option.some.inj h).symm⟩
theorem get_len {α : Type} {xs : List α} {i : Nat} {x : α} (h : xs[i]? = some x) : i < xs.length := (List.getElem?_eq_some_iff.mp h).1
theorem eq_int {Q : VK} {H : Hp} {a b : Int} (h : Q (.int a) H) (e : a = b) : Q (.int b) H := e ▸ h
theorem eq_bl {Q : VK} {H : Hp} {a b : Bool} (h : Q (.bl a) H) (e : a = b) : Q (.bl b) H := e ▸ h
theorem small {n : Nat} (h : n ≤ 1000000) : n < sizeLine := Nat.lt_of_le_of_lt h (by decide)
theorem smallE {n : Nat} (h : n ≤ 1000000) : n ≤ sizeLine := Nat.le_of_lt (small h)
theorem snoc_int {xs : List Int} {y : Int} {H : Hp} {p : Addr} (h : H p = some (.lst (xs.map V.int ++ [V.int y]))) : H p = some (.lst ((xs ++ [y]).map V.int)) := by
  rw [List.map_append]; exact h
theorem cat_int {xs ys : List Int} {H : Hp} {p : Addr} (h : H p = some (.lst (xs.map V.int ++ ys.map V.int))) : H p = some (.lst ((xs ++ ys).map V.int)) := by
  rw [List.map_append]; exact h
theorem cast_lst {xs ys : List Int} {H : Hp} {p : Addr} (h : H p = some (.lst (xs.map V.int))) (e : xs = ys) : H p = some (.lst (ys.map V.int)) := e ▸ h

/-! ### tests -/
theorem dT {p : Prop} [Decidable p] (h : decide p = true) : p := of_decide_eq_true h
theorem dF {p : Prop} [Decidable p] (h : ¬ decide p = true) : ¬ p := fun x => h (decide_eq_true x)
theorem iteD {p A B : Prop} [Decidable p] (h1 : p → A) (h2 : ¬ p → B) : if decide p = true then A else B := by
  by_cases h : p
  · rw [if_pos (decide_eq_true h)]; exact h1 h
  · rw [if_neg (fun x => h (of_decide_eq_true x))]; exact h2 h
theorem iteN {p A B : Prop} [Decidable p] (h1 : ¬ p → A) (h2 : p → B) : if (!decide p) = true then A else B := by
  by_cases h : p
  · rw [decide_eq_true h]; exact iteF (h2 h)
  · rw [decide_eq_false h]; exact iteT (h1 h)
theorem iteB {b : Bool} {A B : Prop} (h1 : b = true → A) (h2 : b = false → B) : if b = true then A else B := by
  cases b with
  | true => exact iteT (h1 rfl)
  | false => exact iteF (h2 rfl)
theorem iteBN {b : Bool} {A B : Prop} (h1 : b = false → A) (h2 : b = true → B) : if (!b) = true then A else B := by
  cases b with
  | true => exact iteF (h2 rfl)
  | false => exact iteT (h1 rfl)
theorem iteDT {p A B : Prop} [Decidable p] (h : p) (k : A) : if decide p = true then A else B := by
  rw [if_pos (decide_eq_true h)]; exact k
theorem iteDF {p A B : Prop} [Decidable p] (h : ¬ p) (k : B) : if decide p = true then A else B := by
  rw [if_neg (fun x => h (of_decide_eq_true x))]; exact k
theorem iteNT {p A B : Prop} [Decidable p] (h : ¬ p) (k : A) : if (!decide p) = true then A else B := iteN (fun _ => k) (fun x => (h x).elim)
theorem iteNF {p A B : Prop} [Decidable p] (h : p) (k : B) : if (!decide p) = true then A else B := iteN (fun x => (x h).elim) (fun _ => k)

/-! ### equality of lists of ints -/
theorem eqvAll_ints : ∀ xs ys : List Int, PyData.eqvAll (xs.map PyData.int) (ys.map PyData.int) = decide (xs = ys)
  | [], [] => by simp [PyData.eqvAll]
  | [], y :: ys => by simp [PyData.eqvAll]
  | x :: xs, [] => by simp [PyData.eqvAll]
  | x :: xs, y :: ys => by
    have ih := eqvAll_ints xs ys
    simp only [List.map_cons, PyData.eqvAll, PyData.eqv, ih]
    by_cases h : x = y <;> by_cases h2 : xs = ys <;> simp [h, h2]
end Vx

namespace Vx
open PySem PySem.Spec PyProof.Rows L2
section
variable {X : Cx}
def rEqLi (K : PySem.W.Frag) : R2 := fun x y H Q => ∃ (a b : Addr) (xs ys : List Int), x = .ref a ∧ y = .ref b ∧ SqL K H a (xs.map V.int) ∧ SqL K H b (ys.map V.int) ∧ Q (.bl (decide (xs = ys))) H
def rNeLi (K : PySem.W.Frag) : R2 := fun x y H Q => ∃ (a b : Addr) (xs ys : List Int), x = .ref a ∧ y = .ref b ∧ SqL K H a (xs.map V.int) ∧ SqL K H b (ys.map V.int) ∧ Q (.bl (!decide (xs = ys))) H
theorem dpAll_ints {K : PySem.W.Frag} {H : Hp} : ∀ xs : List Int, DpAll K H (xs.map V.int) (xs.map PyData.int)
  | [] => .nil
  | x :: xs => .cons (.int x) (dpAll_ints xs)
theorem dp_ints {K : PySem.W.Frag} {H : Hp} {a : Addr} {xs : List Int} (h : SqL K H a (xs.map V.int)) : Dp K H (.ref a) (.list (xs.map PyData.int)) := .lst h (dpAll_ints xs)
theorem canLay_ints : ∀ xs : List Int, PyData.canLayAll0 (xs.map PyData.int) = true
  | [] => by simp [PyData.canLayAll0]
  | x :: xs => by simp [PyData.canLayAll0, PyData.canLay0, canLay_ints xs]
theorem depth_ints : ∀ xs : List Int, PyData.depthAll (xs.map PyData.int) = 0
  | [] => by simp [PyData.depthAll]
  | x :: xs => by simp [PyData.depthAll, PyData.depth, depth_ints xs]
theorem shaped_ints (xs : List Int) : SeqAt.shaped (.list (xs.map PyData.int)) = true := by
  unfold SeqAt.shaped
  simp [PyData.canLay0, canLay_ints, PyData.depth, depth_ints]
theorem eqv_ints (xs ys : List Int) : PyData.eqv (.list (xs.map PyData.int)) (.list (ys.map PyData.int)) = decide (xs = ys) := by
  simp only [PyData.eqv]
  exact eqvAll_ints xs ys
theorem op_eqLi (hu : X.A.units + 64 < cLine) : OpR X (compareOp .Eq) (rEqLi X.K) := by
  intro pins s σ H x y v u Q I rx ry h
  obtain ⟨a, b, xs, ys, rfl, rfl, h1, h2, q⟩ := h
  exact op_eqD hu pins s σ H _ _ v u Q I rx ry ⟨_, _, dp_ints h1, dp_ints h2, shaped_ints xs, shaped_ints ys, by rw [eqv_ints]; exact q⟩
theorem op_neLi (hu : X.A.units + 64 < cLine) : OpR X (compareOp .NotEq) (rNeLi X.K) := by
  intro pins s σ H x y v u Q I rx ry h
  obtain ⟨a, b, xs, ys, rfl, rfl, h1, h2, q⟩ := h
  exact op_neD hu pins s σ H _ _ v u Q I rx ry ⟨_, _, dp_ints h1, dp_ints h2, shaped_ints xs, shaped_ints ys, by rw [eqv_ints]; exact q⟩

/-! ### items, slices, repetition, comprehensions of ints -/
def itI (xs : List Int) (i : Int) : Int := (atI xs i).getD 0
theorem atI_int {xs : List Int} {i : Int} (h : -(xs.length : Int) ≤ i ∧ i < xs.length) : atI (xs.map V.int) i = some (.int (itI xs i)) := by
  unfold itI atI
  rw [List.length_map]
  have hk : ∃ j, ixN xs.length i = some j ∧ j < xs.length := by
    unfold ixN
    by_cases h0 : 0 ≤ i
    · refine ⟨i.toNat, ?_, by omega⟩
      rw [if_pos h0, if_pos h.2]
    · refine ⟨(i + xs.length).toNat, ?_, by omega⟩
      rw [if_neg h0, if_pos h.1]
  obtain ⟨j, e, hj⟩ := hk
  rw [e]
  show (xs.map V.int)[j]? = some (V.int ((xs[j]?).getD 0))
  rw [List.getElem?_map, List.getElem?_eq_getElem hj] <;> rfl
def cutI (xs : List Int) (lo hi : Option Int) : List Int := (xs.drop (HT.sIx xs.length 0 lo)).take (HT.sIx xs.length xs.length hi - HT.sIx xs.length 0 lo)
theorem cut_int {xs : List Int} {lo hi : Option Int} {H : Hp} {p : Addr} (h : H p = some (.lst (cutV (xs.map V.int) lo hi))) : H p = some (.lst ((cutI xs lo hi).map V.int)) := by
  rw [h]
  unfold cutV cutI
  rw [List.length_map, List.map_take, List.map_drop]
def rep (xs : List Int) (k : Int) : List Int := (List.replicate k.toNat xs).flatten
theorem rep_int {xs : List Int} {k : Int} {H : Hp} {p : Addr} (h : H p = some (.lst (List.replicate k.toNat (xs.map V.int)).flatten)) : H p = some (.lst ((rep xs k).map V.int)) := by
  rw [h]
  unfold rep
  rw [List.map_flatten, List.map_replicate]
theorem divW_lit {i j : Int} (h : 0 < j) (h2 : j.natAbs.log2 < 9000) : CDivW i j := ⟨h, h2⟩
theorem divW_small {i j : Int} (h : 0 < j) (h2 : j < 2 ^ 128) : CDivW i j := wide_div h (show j.natAbs < 2 ^ 128 by omega) (by decide) (by decide)
theorem comp_list {xs : List Int} {i : Nat} {x y : Int} {f : Int → Int} {H : Hp} {D : Addr} (hi : xs[i]? = some x) (h : H D = some (.lst (((xs.take i).map f).map V.int ++ [V.int y]))) (e : f x = y) : H D = some (.lst (((xs.take (i + 1)).map f).map V.int)) := by
  rw [h, ← e, List.take_succ, hi, List.map_append, List.map_append] <;> rfl
theorem comp_done {xs : List Int} {f : Int → Int} {H : Hp} {D : Addr} (h : H D = some (.lst (((xs.take (xs.map V.int).length).map f).map V.int))) : H D = some (.lst ((xs.map f).map V.int)) := by
  rw [List.length_map, List.take_length] at h
  exact h
theorem comp_range {i : Nat} {y : Int} {f : Nat → Int} {H : Hp} {D : Addr} (h : H D = some (.lst (((List.range i).map f).map V.int ++ [V.int y]))) (e : f i = y) : H D = some (.lst (((List.range (i + 1)).map f).map V.int)) := by
  rw [h, ← e, List.range_succ, List.map_append, List.map_append] <;> rfl
theorem iteBT {b : Bool} {A B : Prop} (h : b = true) (k : A) : if b = true then A else B := by rw [if_pos h]; exact k
theorem iteBF {b : Bool} {A B : Prop} (h : b = false) (k : B) : if b = true then A else B := by rw [if_neg (by rw [h]; decide)]; exact k
theorem take_succ_get {α : Type} {xs : List α} {i : Nat} {x : α} (hi : xs[i]? = some x) : xs.take (i + 1) = xs.take i ++ [x] := by rw [List.take_succ, hi] <;> rfl
end

/-! ### defs of the module, as callers see them -/
section
variable {P : Program} {w : World} {K : PySem.W.Frag} {mg : Str → Option Value} {base : Heap}
structure DefIn (K : PySem.W.Frag) (mg : Str → Option Value) (x : Str) (st : Stmt) (ps : List Str) : Prop where
  ex : ∃ (f : Addr) (fd : FuncData), Fun K x x st f fd ∧ mg x = some (.ref f) ∧ Binds K fd ps []
structure Cal (P : Program) (w : World) (K : PySem.W.Frag) (mg : Str → Option Value) (base : Heap) (k : Nat) (x : Str) (sp : Sp) : Prop where
  ex : ∃ (f : Addr) (fd : FuncData) (ps : List Str), FnOk P w K mg base CX0 k f fd ps sp ∧ mg x = some (.ref f) ∧ PySem.W.keepIn K (.ref f) = true ∧ Binds K fd ps []
theorem DefIn.ok {x : Str} {st : Stmt} {N ps : List Str} {k : Nat} {sp : Sp} (D : DefIn K mg x st ps) (S : FnScope N ps (defScope st)) (len : ∀ vs H Q E, sp vs H Q E → vs.length = ps.length)
    (hbody : ∀ (f : Addr) (cdv : Value) (A : Around) (outer : List Env) (s : Shared) (H : Hp) (vs : List V) (Q : VK) (E : XK), Room k (A.deeper (envOfC x (defScope st) s.heap.objs.size f cdv)) → sp vs H Q E →
      ∃ t, PSs (cxOf CX0 P w K mg base N x (defScope st) f cdv A outer s H E).nox (defBody st) t ∧ t { nx := fun _ H' => Q .non H', rt := Q } (start N vs) H) : Cal P w K mg base (k + 1) x sp := by
  obtain ⟨f, fd, F, hm, b⟩ := D.ex
  exact ⟨f, fd, ps, F.ok S len (fun cdv A outer s H vs Q E hr h => hbody f cdv A outer s H vs Q E hr h), hm, F.kp, b⟩
end
section
variable {X : Cx} {k j : Nat} {x : Str} {sp : Sp} {p pos : Pos} {e : Expr} {es : List Expr} {t : TA}
theorem vx_call (c : Cal X.prog X.w X.K X.mg X.base k x sp) (hr : Room j X.A) (hk : k ≤ j) (hg : Gl X x) (ha : PA X (e :: es) t)
    (hdb : (x == ("__debug__" : Str)) = false := by decide) (he : starEach (e :: es) X.env = (false, eval e X.env) :: starEach es X.env := by rfl) (hpl : (backTo pos (starEach es X.env)).any (·.1) = false := by rfl) :
    PE X (.Call (.Name x p) (e :: es) [] pos) (tCall sp [] E0 t) := by
  obtain ⟨f, fd, ps, F, hm, kp, b⟩ := c.ex
  exact pe_call F (hr.mono hk) hg hm kp b .nil pass0 ha hdb he hpl
end
end Vx

namespace Vx
open PySem PySem.Spec PyProof.Rows L2
section
variable {σ : L2.St} {H : Hp} {ta tb : TE} {x y z : V} {t : TT}
theorem vv_and {a b : Bool} (h1 : Val ta σ H (.bl a)) (h2 : Val tb σ H (.bl b)) : Val (tAndV ta tb) σ H (.bl (a && b)) := fun Q q => h1 _ ⟨a, rfl, by
  cases a with
  | true => exact iteT (h2 Q q)
  | false => exact iteF q⟩
theorem vv_or {a b : Bool} (h1 : Val ta σ H (.bl a)) (h2 : Val tb σ H (.bl b)) : Val (tOrV ta tb) σ H (.bl (a || b)) := fun Q q => h1 _ ⟨a, rfl, by
  cases a with
  | true => exact iteT q
  | false => exact iteF (h2 Q q)⟩
theorem vv_not {a : Bool} (h1 : Val ta σ H (.bl a)) : Val (tNotV ta) σ H (.bl (!a)) := fun Q q => h1 _ ⟨a, rfl, q⟩
theorem vv_un {r : V → Hp → VK → Prop} (ha : Val ta σ H x) (hr : ∀ Q : VK, Q z H → r x H Q) : Val (tUn r ta) σ H z := fun Q q => ha _ (hr Q q)
theorem vv_cmp {p : Int → Int → Bool} (ha : Val ta σ H x) (hb : Val tb σ H y) (hr : ∀ Q : VK, Q z H → ∃ i j, x = .int i ∧ y = .int j ∧ Q (.bl (p i j)) H) : Val (tCmp p ta tb) σ H z := fun Q q => ha _ (hb _ (hr Q q))
theorem vv_call1 {r : List V → Hp → VK → Prop} (ha : Val ta σ H x) (hr : ∀ Q : VK, Q z H → r [x] H Q) : Val (tCB r (tCons ta tNil)) σ H z := fun Q q => ha _ (hr Q q)
theorem vt_cmp {b : Bool} (h : Val ta σ H (.bl b)) : Ans (tB ta) σ H b := fun Q q => h _ ⟨b, rfl, q⟩
theorem vt_val {b : Bool} (h : Val ta σ H (.bl b)) : Ans (tB ta) σ H b := fun Q q => h _ ⟨b, rfl, q⟩
theorem vt_int {i : Int} {K : PySem.W.Frag} (h : Val ta σ H (.int i)) : Ans (fun σ H Q => ta σ H fun x H' => ∃ k, TruV K x H' k ∧ Q k H') σ H (i != 0) := fun Q q => h _ ⟨_, rfl, q⟩
theorem vv_if {p : Prop} [Decidable p] {a b : Int} (ht : Ans t σ H (decide p)) (hx : Val ta σ H (.int a)) (hy : Val tb σ H (.int b)) : Val (tIf t ta tb) σ H (.int (if p then a else b)) := fun Q q => ht _ (by
  by_cases h : p
  · rw [if_pos h] at q; exact iteDT h (hx Q q)
  · rw [if_neg h] at q; exact iteDF h (hy Q q))
theorem vv_ifb {c : Bool} {a b : Int} (ht : Ans t σ H c) (hx : Val ta σ H (.int a)) (hy : Val tb σ H (.int b)) : Val (tIf t ta tb) σ H (.int (if c = true then a else b)) := fun Q q => ht _ (by
  cases c with
  | true => exact iteT (hx Q q)
  | false => exact iteF (hy Q q))
end
end Vx

namespace Vx
open PySem PySem.Spec PyProof.Rows L2
def rLenLi (K : PySem.W.Frag) : List V → Hp → VK → Prop := fun xs H Q => ∃ (p : Addr) (ns : List Int), xs = [.ref p] ∧ SqL K H p (ns.map V.int) ∧ Q (.int (ns.length : Int)) H
theorem call_lenLi {X : Cx} : CallR X (.builtin "len") (rLenLi X.K) := by
  intro pins s σ H xs us Q I r h
  obtain ⟨p, ns, rfl, hs, q⟩ := h
  exact call_len_seq pins s σ H _ us Q I r ⟨p, _, rfl, Or.inl hs, by rw [List.length_map]; exact q⟩
end Vx

namespace Vx
open PySem PySem.Spec PyProof.Rows L2
section
variable {X : Cx} {K : PySem.W.Frag}
theorem ix_listK (hK : X.K = K := by rfl) : IxR X (rIxL K) := hK ▸ ix_list
theorem sl_listK (hK : X.K = K := by rfl) : SlR X (rSlL K) := hK ▸ sl_list
theorem call_lenLiK (hK : X.K = K := by rfl) : CallR X (.builtin "len") (rLenLi K) := hK ▸ call_lenLi
theorem op_eqLiK (hu : X.A.units + 64 < cLine) (hK : X.K = K := by rfl) : OpR X (compareOp .Eq) (rEqLi K) := hK ▸ op_eqLi hu
theorem op_neLiK (hu : X.A.units + 64 < cLine) (hK : X.K = K := by rfl) : OpR X (compareOp .NotEq) (rNeLi K) := hK ▸ op_neLi hu
theorem pi_listK {tg l : Expr} {tl : TE} (hl : PE X l tl) (hK : X.K = K := by rfl) : PI X tg l (iList K tl) := hK ▸ pi_list hl
theorem cr_sumK (hc : X.calm = true) (hK : X.K = K := by rfl) : CallR X (.builtin "sum") (rSum K) := hK ▸ cr_sum hc
theorem cr_maxK (hc : X.calm = true) (hK : X.K = K := by rfl) : CallR X (.builtin "max") (rMax K) := hK ▸ cr_max hc
theorem cr_minK (hc : X.calm = true) (hK : X.K = K := by rfl) : CallR X (.builtin "min") (rMin K) := hK ▸ cr_min hc
end
end Vx

namespace Vx
open PySem PySem.Spec PyProof.Rows L2
theorem tyes_go {σ : L2.St} {H : Hp} {f g : Hp → Prop} (h : f H) : tYes σ H (fun b H3 => if b = true then f H3 else g H3) := by
  show if true = true then f H else g H
  exact iteT h
end Vx

/-! # second part: data of any depth, the stable heap G, the owned addresses O -/
namespace Vx
open PySem PySem.Spec PyProof.Rows L2
mutual
inductive Rp (H : Hp) : V → PyData → Prop
  | non : Rp H .non .none
  | bl (b : Bool) : Rp H (.bl b) (.bool b)
  | int (i : Int) : Rp H (.int i) (.int i)
  | str (x : Str) : Rp H (.str x) (.str x)
  | lst {a : Addr} {xs : List V} {ds : List PyData} : H a = some (.lst xs) → RpAll H xs ds → Rp H (.ref a) (.list ds)
  | tup {a : Addr} {xs : List V} {ds : List PyData} : H a = some (.tup xs) → RpAll H xs ds → Rp H (.ref a) (.tuple ds)
inductive RpAll (H : Hp) : List V → List PyData → Prop
  | nil : RpAll H [] []
  | cons {v : V} {vs : List V} {d : PyData} {ds : List PyData} : Rp H v d → RpAll H vs ds → RpAll H (v :: vs) (d :: ds)
end
mutual
theorem Rp.mono {H H' : Hp} (e : Same H H') : ∀ {v : V} {d : PyData}, Rp H v d → Rp H' v d
  | _, _, .non => .non
  | _, _, .bl b => .bl b
  | _, _, .int i => .int i
  | _, _, .str x => .str x
  | _, _, .lst h r => .lst (e _ _ h) (RpAll.mono e r)
  | _, _, .tup h r => .tup (e _ _ h) (RpAll.mono e r)
theorem RpAll.mono {H H' : Hp} (e : Same H H') : ∀ {vs : List V} {ds : List PyData}, RpAll H vs ds → RpAll H' vs ds
  | _, _, .nil => .nil
  | _, _, .cons a b => .cons (Rp.mono e a) (RpAll.mono e b)
end
mutual
theorem Rp.dp {K : PySem.W.Frag} {H : Hp} : ∀ {v : V} {d : PyData}, Rp H v d → Dp K H v d
  | _, _, .non => .non
  | _, _, .bl b => .bl b
  | _, _, .int i => .int i
  | _, _, .str x => .str x
  | _, _, .lst h r => .lst (SqL.of h) (RpAll.dp r)
  | _, _, .tup h r => .tup (SqT.of h) (RpAll.dp r)
theorem RpAll.dp {K : PySem.W.Frag} {H : Hp} : ∀ {vs : List V} {ds : List PyData}, RpAll H vs ds → DpAll K H vs ds
  | _, _, .nil => .nil
  | _, _, .cons a b => .cons (Rp.dp a) (RpAll.dp b)
end
theorem RpAll.append {H : Hp} : ∀ {xs ys : List V} {ds es : List PyData}, RpAll H xs ds → RpAll H ys es → RpAll H (xs ++ ys) (ds ++ es)
  | _, _, _, _, .nil, s => s
  | _, _, _, _, .cons r t, s => .cons r (RpAll.append t s)
theorem RpAll.ints {H : Hp} : ∀ xs : List Int, RpAll H (xs.map V.int) (xs.map PyData.int)
  | [] => .nil
  | x :: xs => .cons (.int x) (RpAll.ints xs)
theorem RpAll.bls {H : Hp} : ∀ xs : List Bool, RpAll H (xs.map V.bl) (xs.map PyData.bool)
  | [] => .nil
  | x :: xs => .cons (.bl x) (RpAll.bls xs)
theorem RpAll.one {H : Hp} {v : V} {d : PyData} (h : Rp H v d) : RpAll H [v] [d] := .cons h .nil
theorem RpAll.len {H : Hp} : ∀ {vs : List V} {ds : List PyData}, RpAll H vs ds → vs.length = ds.length
  | _, _, .nil => rfl
  | _, _, .cons _ t => by rw [List.length_cons, List.length_cons, RpAll.len t]
theorem RpAll.at {H : Hp} : ∀ {vs : List V} {ds : List PyData} {i : Nat} {v : V}, RpAll H vs ds → vs[i]? = some v → ∃ d, ds[i]? = some d ∧ Rp H v d
  | _, _, _, _, .nil, h => by simp at h
  | _, _, 0, _, .cons r _, h => by
    simp at h
    subst h
    exact ⟨_, rfl, r⟩
  | _, _, i + 1, _, .cons _ t, h => by
    obtain ⟨d, h1, h2⟩ := RpAll.at (i := i) t (by simpa using h)
    exact ⟨d, by simpa using h1, h2⟩
theorem RpAll.at' {H : Hp} : ∀ {vs : List V} {ds : List PyData} {i : Nat} {d : PyData}, RpAll H vs ds → ds[i]? = some d → ∃ v, vs[i]? = some v ∧ Rp H v d
  | _, _, _, _, .nil, h => by simp at h
  | _, _, 0, _, .cons r _, h => by
    simp at h
    subst h
    exact ⟨_, rfl, r⟩
  | _, _, i + 1, _, .cons _ t, h => by
    obtain ⟨v, h1, h2⟩ := RpAll.at' (i := i) t (by simpa using h)
    exact ⟨v, by simpa using h1, h2⟩
theorem RpAll.take {H : Hp} : ∀ (n : Nat) {vs : List V} {ds : List PyData}, RpAll H vs ds → RpAll H (vs.take n) (ds.take n)
  | 0, _, _, _ => by simpa using RpAll.nil
  | n + 1, _, _, .nil => by simpa using RpAll.nil
  | n + 1, _, _, .cons r t => .cons r (RpAll.take n t)
theorem RpAll.drop {H : Hp} : ∀ (n : Nat) {vs : List V} {ds : List PyData}, RpAll H vs ds → RpAll H (vs.drop n) (ds.drop n)
  | 0, _, _, r => r
  | n + 1, _, _, .nil => by simpa using RpAll.nil
  | n + 1, _, _, .cons r t => RpAll.drop n t
theorem RpAll.set {H : Hp} {v : V} {d : PyData} (h : Rp H v d) : ∀ (n : Nat) {vs : List V} {ds : List PyData}, RpAll H vs ds → RpAll H (vs.set n v) (ds.set n d)
  | _, _, _, .nil => .nil
  | 0, _, _, .cons _ t => .cons h t
  | n + 1, _, _, .cons r t => .cons r (RpAll.set h n t)
theorem RpAll.rep {H : Hp} {vs : List V} {ds : List PyData} (h : RpAll H vs ds) : ∀ n : Nat, RpAll H (List.replicate n vs).flatten (List.replicate n ds).flatten
  | 0 => by simpa using RpAll.nil
  | n + 1 => by
    rw [List.replicate_succ, List.flatten_cons, List.replicate_succ, List.flatten_cons]
    exact RpAll.append h (RpAll.rep h n)
theorem RpAll.get {α : Type} {f : α → PyData} {H : Hp} {vs : List V} {xs : List α} {i : Nat} {v : V} (r : RpAll H vs (xs.map f)) (h : vs[i]? = some v) : ∃ x, xs[i]? = some x ∧ Rp H v (f x) := by
  obtain ⟨d, h1, h2⟩ := RpAll.at r h
  rw [List.getElem?_map] at h1
  cases e : xs[i]? with
  | none => rw [e] at h1; cases h1
  | some x =>
    rw [e] at h1
    have : f x = d := Option.some.inj h1
    exact ⟨x, rfl, this ▸ h2⟩
/-- the item at an index, data -/
theorem RpAll.ix {α : Type} {f : α → PyData} {H : Hp} {vs : List V} {xs : List α} {k : Int} (r : RpAll H vs (xs.map f)) (h : -(xs.length : Int) ≤ k ∧ k < xs.length) : ∃ v x, atI vs k = some v ∧ atI xs k = some x ∧ Rp H v (f x) := by
  have hl : vs.length = xs.length := by rw [r.len, List.length_map]
  have hk : ∃ j, ixN xs.length k = some j ∧ j < xs.length := by
    unfold ixN
    by_cases h0 : 0 ≤ k
    · refine ⟨k.toNat, ?_, by omega⟩
      rw [if_pos h0, if_pos h.2]
    · refine ⟨(k + xs.length).toNat, ?_, by omega⟩
      rw [if_neg h0, if_pos h.1]
  obtain ⟨j, e, hj⟩ := hk
  have hx := List.getElem?_eq_getElem hj
  obtain ⟨v, h1, h2⟩ := RpAll.at' (i := j) (d := f xs[j]) r (by rw [List.getElem?_map, hx] <;> rfl)
  refine ⟨v, xs[j], ?_, ?_, h2⟩
  · unfold atI
    rw [hl, e]
    exact h1
  · unfold atI
    rw [e]
    exact hx

/-! ### types -/
def encL {α : Type} (f : α → PyData) (xs : List α) : PyData := .list (xs.map f)
def encT2 {α β : Type} (f : α → PyData) (g : β → PyData) (p : α × β) : PyData := .tuple [f p.1, g p.2]
def encT3 {α β γ : Type} (f : α → PyData) (g : β → PyData) (h : γ → PyData) (p : α × β × γ) : PyData := .tuple [f p.1, g p.2.1, h p.2.2]
def encT4 {α β γ δ : Type} (f : α → PyData) (g : β → PyData) (h : γ → PyData) (i : δ → PyData) (p : α × β × γ × δ) : PyData := .tuple [f p.1, g p.2.1, h p.2.2.1, i p.2.2.2]
structure EncOk {α : Type} [DecidableEq α] (n : Nat) (f : α → PyData) : Prop where
  lay : ∀ x, PyData.canLay0 (f x) = true
  dep : ∀ x, PyData.depth (f x) ≤ n
  eqv : ∀ x y, PyData.eqv (f x) (f y) = decide (x = y)
theorem encOk_int : EncOk 0 PyData.int := ⟨fun _ => by simp [PyData.canLay0], fun _ => by simp [PyData.depth], fun x y => by simp [PyData.eqv]; by_cases h : x = y <;> simp [h]⟩
theorem encOk_bool : EncOk 0 PyData.bool := ⟨fun _ => by simp [PyData.canLay0], fun _ => by simp [PyData.depth], fun x y => by cases x <;> cases y <;> simp [PyData.eqv]⟩
section
variable {α β γ δ : Type} [DecidableEq α] [DecidableEq β] [DecidableEq γ] [DecidableEq δ] {n m l o : Nat} {f : α → PyData} {g : β → PyData} {h : γ → PyData} {i : δ → PyData}
theorem lay_map (ok : EncOk n f) : ∀ xs : List α, PyData.canLayAll0 (xs.map f) = true
  | [] => by simp [PyData.canLayAll0]
  | x :: xs => by simp [PyData.canLayAll0, ok.lay x, lay_map ok xs]
theorem dep_map (ok : EncOk n f) : ∀ xs : List α, PyData.depthAll (xs.map f) ≤ n
  | [] => by simp [PyData.depthAll]
  | x :: xs => by
    have h1 := ok.dep x
    have h2 := dep_map ok xs
    simp only [List.map_cons, PyData.depthAll]
    omega
theorem eqv_map (ok : EncOk n f) : ∀ xs ys : List α, PyData.eqvAll (xs.map f) (ys.map f) = decide (xs = ys)
  | [], [] => by simp [PyData.eqvAll]
  | [], y :: ys => by simp [PyData.eqvAll]
  | x :: xs, [] => by simp [PyData.eqvAll]
  | x :: xs, y :: ys => by
    have ih := eqv_map ok xs ys
    simp only [List.map_cons, PyData.eqvAll, ok.eqv, ih]
    by_cases h : x = y <;> by_cases h2 : xs = ys <;> simp [h, h2]
theorem encOk_L (ok : EncOk n f) : EncOk (n + 1) (encL f) := ⟨fun xs => by simp [encL, PyData.canLay0, lay_map ok], fun xs => by
  have := dep_map ok xs
  simp only [encL, PyData.depth]
  omega, fun xs ys => by simp only [encL, PyData.eqv]; exact eqv_map ok xs ys⟩
theorem encOk_T2 (ok : EncOk n f) (ok2 : EncOk m g) : EncOk (max n m + 1) (encT2 f g) := ⟨fun x => by simp [encT2, PyData.canLay0, PyData.canLayAll0, ok.lay, ok2.lay], fun x => by
  have h1 := ok.dep x.1
  have h2 := ok2.dep x.2
  simp only [encT2, PyData.depth, PyData.depthAll]
  omega, fun x y => by
  obtain ⟨a, b⟩ := x
  obtain ⟨c, d⟩ := y
  simp only [encT2, PyData.eqv, PyData.eqvAll, ok.eqv, ok2.eqv, Prod.mk.injEq]
  by_cases h1 : a = c <;> by_cases h2 : b = d <;> simp [h1, h2]⟩
theorem encOk_T3 (ok : EncOk n f) (ok2 : EncOk m g) (ok3 : EncOk l h) : EncOk (max n (max m l) + 1) (encT3 f g h) := ⟨fun x => by simp [encT3, PyData.canLay0, PyData.canLayAll0, ok.lay, ok2.lay, ok3.lay], fun x => by
  have h1 := ok.dep x.1
  have h2 := ok2.dep x.2.1
  have h3 := ok3.dep x.2.2
  simp only [encT3, PyData.depth, PyData.depthAll]
  omega, fun x y => by
  obtain ⟨a, b, e⟩ := x
  obtain ⟨c, d, e'⟩ := y
  simp only [encT3, PyData.eqv, PyData.eqvAll, ok.eqv, ok2.eqv, ok3.eqv, Prod.mk.injEq]
  by_cases h1 : a = c <;> by_cases h2 : b = d <;> by_cases h3 : e = e' <;> simp [h1, h2, h3]⟩
theorem encOk_T4 (ok : EncOk n f) (ok2 : EncOk m g) (ok3 : EncOk l h) (ok4 : EncOk o i) : EncOk (max n (max m (max l o)) + 1) (encT4 f g h i) := ⟨fun x => by simp [encT4, PyData.canLay0, PyData.canLayAll0, ok.lay, ok2.lay, ok3.lay, ok4.lay], fun x => by
  have h1 := ok.dep x.1
  have h2 := ok2.dep x.2.1
  have h3 := ok3.dep x.2.2.1
  have h4 := ok4.dep x.2.2.2
  simp only [encT4, PyData.depth, PyData.depthAll]
  omega, fun x y => by
  obtain ⟨a, b, e, u⟩ := x
  obtain ⟨c, d, e', u'⟩ := y
  simp only [encT4, PyData.eqv, PyData.eqvAll, ok.eqv, ok2.eqv, ok3.eqv, ok4.eqv, Prod.mk.injEq]
  by_cases h1 : a = c <;> by_cases h2 : b = d <;> by_cases h3 : e = e' <;> by_cases h4 : u = u' <;> simp [h1, h2, h3, h4]⟩
end
section
variable {X : Cx} {α : Type} [DecidableEq α] {n : Nat} {f : α → PyData}
def rEqT (f : α → PyData) : R2 := fun x y H Q => ∃ (a b : α), Rp H x (f a) ∧ Rp H y (f b) ∧ Q (.bl (decide (a = b))) H
def rNeT (f : α → PyData) : R2 := fun x y H Q => ∃ (a b : α), Rp H x (f a) ∧ Rp H y (f b) ∧ Q (.bl (!decide (a = b))) H
theorem shaped_of (ok : EncOk n f) (hn : n ≤ 64) (a : α) : SeqAt.shaped (f a) = true := by
  unfold SeqAt.shaped
  have h := ok.dep a
  rw [ok.lay]
  simp
  omega
theorem op_eqT (ok : EncOk n f) (hu : X.A.units + 64 < cLine) (hn : n ≤ 64 := by decide) : OpR X (compareOp .Eq) (rEqT f) := by
  intro pins s σ H x y v u Q I rx ry h
  obtain ⟨a, b, h1, h2, q⟩ := h
  exact op_eqD hu pins s σ H _ _ v u Q I rx ry ⟨_, _, h1.dp, h2.dp, shaped_of ok hn a, shaped_of ok hn b, by rw [ok.eqv]; exact q⟩
theorem op_neT (ok : EncOk n f) (hu : X.A.units + 64 < cLine) (hn : n ≤ 64 := by decide) : OpR X (compareOp .NotEq) (rNeT f) := by
  intro pins s σ H x y v u Q I rx ry h
  obtain ⟨a, b, h1, h2, q⟩ := h
  exact op_neD hu pins s σ H _ _ v u Q I rx ry ⟨_, _, h1.dp, h2.dp, shaped_of ok hn a, shaped_of ok hn b, by rw [ok.eqv]; exact q⟩
end
section
variable {H : Hp} {v : V} {α β γ δ : Type} {f : α → PyData} {g : β → PyData} {h : γ → PyData} {i : δ → PyData}
theorem rp_int {x : Int} (r : Rp H v (.int x)) : v = .int x := by cases r; rfl
theorem rp_bool {x : Bool} (r : Rp H v (.bool x)) : v = .bl x := by cases r; rfl
theorem rp_str {x : Str} (r : Rp H v (.str x)) : v = .str x := by cases r; rfl
theorem rp_list {xs : List α} (r : Rp H v (encL f xs)) : ∃ a vs, v = .ref a ∧ H a = some (.lst vs) ∧ RpAll H vs (xs.map f) := by
  unfold encL at r
  cases r with
  | lst h1 h2 => exact ⟨_, _, rfl, h1, h2⟩
theorem rpAll_ints : ∀ {vs : List V} {xs : List Int}, RpAll H vs (xs.map PyData.int) → vs = xs.map V.int
  | _, [], .nil => rfl
  | _, x :: xs, .cons r t => by rw [rp_int r, rpAll_ints t] <;> rfl
theorem rp_ints {xs : List Int} (r : Rp H v (encL PyData.int xs)) : ∃ a, v = .ref a ∧ H a = some (.lst (xs.map V.int)) := by
  obtain ⟨a, vs, e, h1, h2⟩ := rp_list r
  rw [rpAll_ints h2] at h1
  exact ⟨a, e, h1⟩
theorem rp_tup2 {x : α × β} (r : Rp H v (encT2 f g x)) : ∃ a v1 v2, v = .ref a ∧ H a = some (.tup [v1, v2]) ∧ Rp H v1 (f x.1) ∧ Rp H v2 (g x.2) := by
  unfold encT2 at r
  cases r with
  | tup h1 h2 =>
    cases h2 with
    | cons a b =>
      cases b with
      | cons b c =>
        cases c
        exact ⟨_, _, _, rfl, h1, a, b⟩
theorem rp_tup3 {x : α × β × γ} (r : Rp H v (encT3 f g h x)) : ∃ a v1 v2 v3, v = .ref a ∧ H a = some (.tup [v1, v2, v3]) ∧ Rp H v1 (f x.1) ∧ Rp H v2 (g x.2.1) ∧ Rp H v3 (h x.2.2) := by
  unfold encT3 at r
  cases r with
  | tup h1 h2 =>
    cases h2 with
    | cons a b =>
      cases b with
      | cons b c =>
        cases c with
        | cons c d =>
          cases d
          exact ⟨_, _, _, _, rfl, h1, a, b, c⟩
theorem rp_mk_list {a : Addr} {vs : List V} {xs : List α} (h1 : H a = some (.lst vs)) (h2 : RpAll H vs (xs.map f)) : Rp H (.ref a) (encL f xs) := .lst h1 h2
theorem rp_mk_ints {a : Addr} {xs : List Int} (h1 : H a = some (.lst (xs.map V.int))) : Rp H (.ref a) (encL PyData.int xs) := .lst h1 (RpAll.ints xs)
theorem rp_mk2 {a : Addr} {v1 v2 : V} {x : α} {y : β} (h1 : H a = some (.tup [v1, v2])) (r1 : Rp H v1 (f x)) (r2 : Rp H v2 (g y)) : Rp H (.ref a) (encT2 f g (x, y)) := .tup h1 (.cons r1 (.cons r2 .nil))
theorem rp_mk3 {a : Addr} {v1 v2 v3 : V} {x : α} {y : β} {z : γ} (h1 : H a = some (.tup [v1, v2, v3])) (r1 : Rp H v1 (f x)) (r2 : Rp H v2 (g y)) (r3 : Rp H v3 (h z)) : Rp H (.ref a) (encT3 f g h (x, y, z)) := .tup h1 (.cons r1 (.cons r2 (.cons r3 .nil)))
end

/-! ### the two heaps -/
def SameXs (L : List Addr) (H H' : Hp) : Prop := ∀ b o, H b = some o → b ∉ L → H' b = some o
theorem SameXs.of {H H' : Hp} {m : Addr} (x : SameX m H H') : SameXs [m] H H' := fun b o e n => x b o e (fun z => n (by rw [z]; exact List.mem_cons_self))
theorem ni1 {b m : Addr} (h : b ≠ m) : b ∉ [m] := by simpa using h
theorem ni2 {b m n : Addr} (h : b ≠ m) (h2 : b ≠ n) : b ∉ [m, n] := by simp [h, h2]
theorem ni3 {b m n o : Addr} (h : b ≠ m) (h2 : b ≠ n) (h3 : b ≠ o) : b ∉ [m, n, o] := by simp [h, h2, h3]
theorem ni4 {b m n o p : Addr} (h : b ≠ m) (h2 : b ≠ n) (h3 : b ≠ o) (h4 : b ≠ p) : b ∉ [m, n, o, p] := by simp [h, h2, h3, h4]
def hideL (L : List Addr) (H : Hp) : Hp := fun b => if b ∈ L then none else H b
theorem hideL_same (L : List Addr) (H : Hp) : Same (hideL L H) H := fun b o e => by
  unfold hideL at e
  split at e
  · cases e
  · exact e
theorem hideL_in {L : List Addr} {H : Hp} {b : Addr} (h : b ∈ L) : hideL L H b = none := if_pos h
theorem hideL_out {L : List Addr} {H : Hp} {b : Addr} (h : b ∉ L) : hideL L H b = H b := if_neg h
/-- M: owned from outside; H0, G0: at the entry; G: what stays as it is; O: what may change -/
structure Sep (M : List Addr) (H0 G0 G H : Hp) (O : List Addr) : Prop where
  base : SameXs M H0 H
  pm : ∀ a ∈ M, H a ≠ none
  sG : Same G H
  g0 : Same G0 G
  gn : ∀ b, H0 b ≠ none → G0 b = none → G b = none
  ow : ∀ a ∈ O, G a = none ∧ H a ≠ none ∧ (a ∈ M ∨ H0 a = none)
theorem all_nil {P : Addr → Prop} : ∀ x ∈ ([] : List Addr), P x := fun x h => by cases h
theorem all_cons {P : Addr → Prop} {a : Addr} {l : List Addr} (h : P a) (t : ∀ x ∈ l, P x) : ∀ x ∈ a :: l, P x := fun x hx => by
  cases hx with
  | head => exact h
  | tail _ hx => exact t x hx
theorem some_ne {H : Hp} {a : Addr} {o : HO} (h : H a = some o) : H a ≠ none := by
  rw [h]
  exact fun z => nomatch z
theorem same_ne {H H' : Hp} {a : Addr} (e : Same H H') (h : H a ≠ none) : H' a ≠ none := by
  cases q : H a with
  | none => exact absurd q h
  | some o => exact some_ne (e a o q)
section
variable {M : List Addr} {H0 G0 G H H' : Hp} {O : List Addr} {p m : Addr} {o : HO}
theorem Sep.start (M : List Addr) (H : Hp) (hM : ∀ a ∈ M, H a ≠ none) : Sep M H (hideL M H) (hideL M H) H M :=
  ⟨fun _ _ e _ => e, hM, hideL_same M H, Same.refl _, fun _ _ e => e, fun a ha => ⟨hideL_in ha, hM a ha, .inl ha⟩⟩
theorem Sep.startG {G H : Hp} (e : Same G H) : Sep [] H G G H [] := ⟨fun _ _ e _ => e, all_nil, e, Same.refl _, fun _ _ e => e, fun a ha => by cases ha⟩
theorem Sep.start0 (H : Hp) : Sep [] H H H H [] := Sep.startG (Same.refl H)
theorem Sep.b0 (S : Sep [] H0 G0 G H O) : Same H0 H := fun b o e => S.base b o e List.not_mem_nil
theorem Sep.free (S : Sep M H0 G0 G H O) {q : Addr} (n : H q = none) : H0 q = none := by
  cases e : H0 q with
  | none => rfl
  | some o =>
    by_cases h : q ∈ M
    · exact absurd n (S.pm q h)
    · rw [S.base q o e h] at n
      cases n
theorem Sep.same (S : Sep M H0 G0 G H O) (e : Same H H') : Sep M H0 G0 G H' O :=
  ⟨fun b o h n => e b o (S.base b o h n), fun a ha => same_ne e (S.pm a ha), S.sG.trans e, S.g0, S.gn, fun a ha => ⟨(S.ow a ha).1, same_ne e (S.ow a ha).2.1, (S.ow a ha).2.2⟩⟩
theorem Sep.gfree (S : Sep M H0 G0 G H O) {q : Addr} (n : H q = none) : G q = none := by
  cases e : G q with
  | none => rfl
  | some o => rw [S.sG q o e] at n; cases n
theorem Sep.new (S : Sep M H0 G0 G H O) (n : H p = none) (e : Same H H') (h : H' p = some o) (hm : H0 p = none) : Sep M H0 G0 G H' (p :: O) := by
  have S1 := S.same e
  refine ⟨S1.base, S1.pm, S1.sG, S1.g0, S1.gn, fun a ha => ?_⟩
  cases ha with
  | head => exact ⟨S.gfree n, some_ne h, .inr hm⟩
  | tail _ ha => exact S1.ow a ha
theorem Sep.grow (S : Sep M H0 G0 G H O) (n : H p = none) (e : Same H H') (h : H' p = some o) (hm : H0 p = none) : ∃ G', Same G G' ∧ G' p = some o ∧ Sep M H0 G0 G' H' O := by
  have S1 := S.same e
  have ng := S.gfree n
  refine ⟨upd G p o, fun b u q => by rw [upd_ne (ne_of_none q ng)]; exact q, upd_same, S1.base, S1.pm, fun b u q => ?_, fun b u q => ?_, fun b hb gb => ?_, fun a ha => ?_⟩
  · by_cases z : b = p
    · subst z
      rw [upd_same] at q
      exact q ▸ h
    · rw [upd_ne z] at q
      exact S1.sG b u q
  · have := S.g0 b u q
    rw [upd_ne (ne_of_none this ng)]
    exact this
  · by_cases z : b = p
    · subst z
      exact absurd hm hb
    · rw [upd_ne z]
      exact S.gn b hb gb
  · have hne : a ≠ p := fun z => (S.ow a ha).2.1 (by rw [z]; exact n)
    rw [upd_ne hne]
    exact S1.ow a ha
theorem Sep.mut (S : Sep M H0 G0 G H O) {L : List Addr} (x : SameXs L H H') (hL : ∀ a ∈ L, a ∈ O) (hs : ∀ a ∈ L, H' a ≠ none) : Sep M H0 G0 G H' O := by
  have keep : ∀ a, H a ≠ none → H' a ≠ none := fun a h => by
    by_cases hb : a ∈ L
    · exact hs a hb
    · cases q : H a with
      | none => exact absurd q h
      | some o => exact some_ne (x a o q hb)
  refine ⟨fun b o e n => ?_, fun a ha => keep a (S.pm a ha), fun b o e => ?_, S.g0, S.gn, fun a ha => ⟨(S.ow a ha).1, keep a (S.ow a ha).2.1, (S.ow a ha).2.2⟩⟩
  · refine x b o (S.base b o e n) fun hb => ?_
    rcases (S.ow b (hL b hb)).2.2 with z | z
    · exact n z
    · rw [e] at z; cases z
  · refine x b o (S.sG b o e) fun hb => ?_
    have := (S.ow b (hL b hb)).1
    rw [e] at this
    cases this
theorem Sep.mut1 (S : Sep M H0 G0 G H O) (x : SameX m H H') (hm : m ∈ O) (h : H' m = some o) : Sep M H0 G0 G H' O :=
  S.mut (SameXs.of x) (all_cons hm all_nil) (all_cons (some_ne h) all_nil)
theorem Sep.sub (S : Sep M H0 G0 G H O) {O' : List Addr} (h : ∀ a ∈ O', a ∈ O) : Sep M H0 G0 G H O' := ⟨S.base, S.pm, S.sG, S.g0, S.gn, fun a ha => S.ow a (h a ha)⟩
/-- what was owned and is to stay as it is from now on -/
theorem Sep.freeze (S : Sep M H0 G0 G H O) {O' : List Addr} (hp : p ∈ O) (h : H p = some o) (hm : H0 p = none) (hO : ∀ a ∈ O', a ∈ O ∧ a ≠ p) : ∃ G', Same G G' ∧ G' p = some o ∧ Sep M H0 G0 G' H O' := by
  have ng := (S.ow p hp).1
  refine ⟨upd G p o, fun b u q => by rw [upd_ne (ne_of_none q ng)]; exact q, upd_same, S.base, S.pm, fun b u q => ?_, fun b u q => ?_, fun b hb gb => ?_, fun a ha => ?_⟩
  · by_cases z : b = p
    · subst z
      rw [upd_same] at q
      exact q ▸ h
    · rw [upd_ne z] at q
      exact S.sG b u q
  · have := S.g0 b u q
    rw [upd_ne (ne_of_none this ng)]
    exact this
  · by_cases z : b = p
    · subst z
      exact absurd hm hb
    · rw [upd_ne z]
      exact S.gn b hb gb
  · rw [upd_ne (hO a ha).2]
    exact S.ow a (hO a ha).1
/-- a callee that hands on data in a stable heap of its own -/
theorem Sep.step (S : Sep M H0 G0 G H O) {G' : Hp} (e : Same H H') (eG : Same G G') (sG : Same G' H') (hn : ∀ b, H b ≠ none → G b = none → G' b = none) : Sep M H0 G0 G' H' O := by
  have S1 := S.same e
  refine ⟨S1.base, S1.pm, sG, S.g0.trans eG, fun b hb gb => ?_, fun a ha => ⟨hn a (S.ow a ha).2.1 (S.ow a ha).1, (S1.ow a ha).2⟩⟩
  refine hn b (fun z => ?_) (S.gn b hb gb)
  exact hb (S.free z)
theorem Sep.hid (S : Sep M H0 G0 G H O) {L : List Addr} (h : ∀ a ∈ L, a ∈ O) : Same G (hideL L H) := fun b o e => by
  rw [hideL_out fun z => by
    have := (S.ow b (h b z)).1
    rw [e] at this
    cases this]
  exact S.sG b o e
end
end Vx

namespace Vx
open PySem PySem.Spec PyProof.Rows L2
/-! ### lists of plain things (f : V.int, V.bl, V.str) -/
section
variable {α : Type} {f : α → V} {H : Hp} {p : Addr}
theorem cat_map {xs ys : List α} (h : H p = some (.lst (xs.map f ++ ys.map f))) : H p = some (.lst ((xs ++ ys).map f)) := by
  rw [List.map_append]; exact h
theorem snoc_map {xs : List α} {y : α} (h : H p = some (.lst (xs.map f ++ [f y]))) : H p = some (.lst ((xs ++ [y]).map f)) := by
  rw [List.map_append]; exact h
def repL (xs : List α) (k : Int) : List α := (List.replicate k.toNat xs).flatten
theorem rep_map {xs : List α} {k : Int} (h : H p = some (.lst (List.replicate k.toNat (xs.map f)).flatten)) : H p = some (.lst ((repL xs k).map f)) := by
  rw [h]
  unfold repL
  rw [List.map_flatten, List.map_replicate]
def cutL (xs : List α) (lo hi : Option Int) : List α := (xs.drop (HT.sIx xs.length 0 lo)).take (HT.sIx xs.length xs.length hi - HT.sIx xs.length 0 lo)
theorem cut_map {xs : List α} {lo hi : Option Int} (h : H p = some (.lst (cutV (xs.map f) lo hi))) : H p = some (.lst ((cutL xs lo hi).map f)) := by
  rw [h]
  unfold cutV cutL
  rw [List.length_map, List.map_take, List.map_drop]
theorem cast_map {xs ys : List α} (h : H p = some (.lst (xs.map f))) (e : xs = ys) : H p = some (.lst (ys.map f)) := e ▸ h
theorem drop_map {xs : List α} (h : H p = some (.lst (xs.map f).dropLast)) : H p = some (.lst (xs.dropLast.map f)) := by
  rw [h, List.map_dropLast]
theorem ixN_some {n : Nat} {k : Int} (h : -(n : Int) ≤ k ∧ k < n) : ∃ j, ixN n k = some j ∧ j < n := by
  unfold ixN
  by_cases h0 : 0 ≤ k
  · exact ⟨k.toNat, by rw [if_pos h0, if_pos h.2], by omega⟩
  · exact ⟨(k + n).toNat, by rw [if_neg h0, if_pos h.1], by omega⟩
def itD [Inhabited α] (xs : List α) (k : Int) : α := (atI xs k).getD default
theorem atI_map [Inhabited α] {xs : List α} {k : Int} (h : -(xs.length : Int) ≤ k ∧ k < xs.length) : atI (xs.map f) k = some (f (itD xs k)) := by
  obtain ⟨j, e, hj⟩ := ixN_some h
  unfold itD atI
  rw [List.length_map, e]
  show (xs.map f)[j]? = some (f ((xs[j]?).getD default))
  rw [List.getElem?_map, List.getElem?_eq_getElem hj] <;> rfl
def setL (xs : List α) (k : Int) (y : α) : List α := xs.set ((ixN xs.length k).getD 0) y
theorem ixN_map {xs : List α} {k : Int} (h : -(xs.length : Int) ≤ k ∧ k < xs.length) : ixN (xs.map f).length k = some ((ixN xs.length k).getD 0) := by
  obtain ⟨j, e, hj⟩ := ixN_some h
  rw [List.length_map, e] <;> rfl
theorem set_map {xs : List α} {k : Int} {y : α} (h : H p = some (.lst ((xs.map f).set ((ixN xs.length k).getD 0) (f y)))) : H p = some (.lst ((setL xs k y).map f)) := by
  rw [h]
  unfold setL
  rw [List.map_set]
def lastD [Inhabited α] (xs : List α) : α := xs.getLastD default
theorem pop_map [Inhabited α] {xs : List α} (h : xs ≠ []) : (xs.map f)[(xs.map f).length - 1]? = some (f (lastD xs)) := by
  rw [← List.getLast?_eq_getElem?, List.getLast?_map]
  unfold lastD
  cases e : xs.getLast? with
  | none => exact absurd (List.getLast?_eq_none_iff.mp e) h
  | some y =>
    rw [List.getLastD_eq_getLast?, e] <;> rfl
end
/-! ### lists of data -/
section
variable {α β : Type} {f : α → PyData} {g : β → PyData} {G : Hp} {vs ws : List V} {xs ys : List α}
theorem app_map (a : RpAll G vs (xs.map f)) (b : RpAll G ws (ys.map f)) : RpAll G (vs ++ ws) ((xs ++ ys).map f) := by
  rw [List.map_append]; exact a.append b
theorem one_map {v : V} {y : α} (a : RpAll G vs (xs.map f)) (b : Rp G v (f y)) : RpAll G (vs ++ [v]) ((xs ++ [y]).map f) := by
  rw [List.map_append]; exact a.append (.one b)
theorem rep_all (k : Int) (a : RpAll G vs (xs.map f)) : RpAll G (List.replicate k.toNat vs).flatten ((repL xs k).map f) := by
  unfold repL
  rw [List.map_flatten, List.map_replicate]
  exact a.rep _
theorem cut_all (lo hi : Option Int) (a : RpAll G vs (xs.map f)) : RpAll G (cutV vs lo hi) ((cutL xs lo hi).map f) := by
  unfold cutV cutL
  rw [a.len, List.length_map, List.map_take, List.map_drop]
  exact (a.drop _).take _
theorem rp_cast {v : V} {d e : PyData} (r : Rp G v d) (h : d = e) : Rp G v e := h ▸ r
theorem comp_listD {i : Nat} {x : α} {y : β} {v : V} {h : α → β} (hi : xs[i]? = some x) (a : RpAll G vs (((xs.take i).map h).map g)) (r : Rp G v (g y)) (e : h x = y) : RpAll G (vs ++ [v]) (((xs.take (i + 1)).map h).map g) := by
  rw [take_succ_get hi, List.map_append, List.map_append]
  exact a.append (.one (e ▸ r))
theorem comp_rangeD {i : Nat} {y : β} {v : V} {h : Nat → β} (a : RpAll G vs (((List.range i).map h).map g)) (r : Rp G v (g y)) (e : h i = y) : RpAll G (vs ++ [v]) (((List.range (i + 1)).map h).map g) := by
  rw [List.range_succ, List.map_append, List.map_append]
  exact a.append (.one (e ▸ r))
theorem comp_doneD {n : Nat} {h : List α → List β} (hl : n = xs.length) (a : RpAll G vs ((h (xs.take n)).map g)) : RpAll G vs ((h xs).map g) := by
  rw [hl, List.take_length] at a
  exact a
theorem comp_listFD {i : Nat} {x : α} {y : β} {v : V} {h : α → β} {q : α → Bool} (hi : xs[i]? = some x) (hq : q x = true) (a : RpAll G vs ((((xs.take i).filter q).map h).map g)) (r : Rp G v (g y)) (e : h x = y) : RpAll G (vs ++ [v]) ((((xs.take (i + 1)).filter q).map h).map g) := by
  rw [take_succ_get hi, List.filter_append, List.filter_cons, if_pos hq, List.map_append, List.map_append]
  exact a.append (.one (e ▸ r))
theorem skip_listD {i : Nat} {x : α} {h : α → β} {q : α → Bool} (hi : xs[i]? = some x) (hq : q x = false) (a : RpAll G vs ((((xs.take i).filter q).map h).map g)) : RpAll G vs ((((xs.take (i + 1)).filter q).map h).map g) := by
  rw [take_succ_get hi, List.filter_append, List.filter_cons, if_neg (by rw [hq]; decide), List.filter_nil, List.append_nil]
  exact a
end
section
variable {α β : Type} {f : β → V} {H : Hp} {D : Addr} {xs : List α}
theorem compM_list {i : Nat} {x : α} {y : β} {h : α → β} (hi : xs[i]? = some x) (a : H D = some (.lst (((xs.take i).map h).map f ++ [f y]))) (e : h x = y) : H D = some (.lst (((xs.take (i + 1)).map h).map f)) := by
  rw [a, ← e, take_succ_get hi, List.map_append, List.map_append] <;> rfl
theorem compM_range {i : Nat} {y : β} {h : Nat → β} (a : H D = some (.lst (((List.range i).map h).map f ++ [f y]))) (e : h i = y) : H D = some (.lst (((List.range (i + 1)).map h).map f)) := by
  rw [a, ← e, List.range_succ, List.map_append, List.map_append] <;> rfl
theorem compM_done {n : Nat} {h : List α → List β} (hl : n = xs.length) (a : H D = some (.lst ((h (xs.take n)).map f))) : H D = some (.lst ((h xs).map f)) := by
  rw [hl, List.take_length] at a
  exact a
theorem compM_listF {i : Nat} {x : α} {y : β} {h : α → β} {q : α → Bool} (hi : xs[i]? = some x) (hq : q x = true) (a : H D = some (.lst ((((xs.take i).filter q).map h).map f ++ [f y]))) (e : h x = y) : H D = some (.lst ((((xs.take (i + 1)).filter q).map h).map f)) := by
  rw [a, ← e, take_succ_get hi, List.filter_append, List.filter_cons, if_pos hq, List.map_append, List.map_append] <;> rfl
theorem skipM_list {i : Nat} {x : α} {h : α → β} {q : α → Bool} (hi : xs[i]? = some x) (hq : q x = false) (a : H D = some (.lst ((((xs.take i).filter q).map h).map f))) : H D = some (.lst ((((xs.take (i + 1)).filter q).map h).map f)) := by
  rw [a, take_succ_get hi, List.filter_append, List.filter_cons, if_neg (by rw [hq]; decide), List.filter_nil, List.append_nil]
theorem compM_rangeF {i : Nat} {y : β} {h : Nat → β} {q : Nat → Bool} (hq : q i = true) (a : H D = some (.lst ((((List.range i).filter q).map h).map f ++ [f y]))) (e : h i = y) : H D = some (.lst ((((List.range (i + 1)).filter q).map h).map f)) := by
  rw [a, ← e, List.range_succ, List.filter_append, List.filter_cons, if_pos hq, List.map_append, List.map_append] <;> rfl
theorem skipM_range {i : Nat} {h : Nat → β} {q : Nat → Bool} (hq : q i = false) (a : H D = some (.lst ((((List.range i).filter q).map h).map f))) : H D = some (.lst ((((List.range (i + 1)).filter q).map h).map f)) := by
  rw [a, List.range_succ, List.filter_append, List.filter_cons, if_neg (by rw [hq]; decide), List.filter_nil, List.append_nil]
end
/-! ### more rules -/
section
variable {X : Cx} {K : PySem.W.Frag}
theorem ix_tupK (hK : X.K = K := by rfl) : IxR X (rIxT K) := hK ▸ ix_tup
def rLenLK (K : PySem.W.Frag) : List V → Hp → VK → Prop := fun xs H Q => ∃ (p : Addr) (vs : List V) (n : Nat), xs = [.ref p] ∧ SqL K H p vs ∧ vs.length = n ∧ Q (.int (n : Int)) H
theorem call_lenLK (hK : X.K = K := by rfl) : CallR X (.builtin "len") (rLenLK K) := by
  subst hK
  intro pins s σ H xs us Q I r h
  obtain ⟨p, vs, n, rfl, hs, hn, q⟩ := h
  exact call_len_seq pins s σ H _ us Q I r ⟨p, _, rfl, Or.inl hs, by rw [hn]; exact q⟩
def rListLK (K : PySem.W.Frag) : List V → Hp → VK → Prop := fun xs H Q => ∃ (p : Addr) (vs : List V), xs = [.ref p] ∧ SqL K H p vs ∧ ∀ l, H l = none → Q (.ref l) (upd H l (.lst vs))
theorem call_listLK (hK : X.K = K := by rfl) : CallR X (.type "list") (rListLK K) := by
  subst hK
  intro pins s σ H xs us Q I r h
  obtain ⟨p, vs, rfl, hs, q⟩ := h
  exact call_list_of pins s σ H _ us Q I r ⟨p, _, rfl, Or.inl hs, q⟩
theorem cr_anyK (hc : X.calm = true) (hK : X.K = K := by rfl) : CallR X (.builtin "any") (rAny K) := hK ▸ cr_any hc
theorem cr_allK (hc : X.calm = true) (hK : X.K = K := by rfl) : CallR X (.builtin "all") (rAll K) := hK ▸ cr_all hc
theorem pi_tupK {tg l : Expr} {tl : TE} (hl : PE X l tl) (hK : X.K = K := by rfl) : PI X tg l (iTup K tl) := hK ▸ pi_tup hl
theorem pip {op : Operator} {r : R2} (h : OpR X (inplaceOp op) r) : PIp X op r := fun pins s σ H x y v u Q I rx ry q => h pins s σ H x y v u Q I rx ry q
/-- an item at a place from 0 on, by itself (ahead of o[i] op= e) -/
def rIxP (K : PySem.W.Frag) : R2 := fun x y H Q => ∃ (p : Addr) (xs : List V) (k : Int) (v : V), x = .ref p ∧ y = .int k ∧ SqL K H p xs ∧ 0 ≤ k ∧ k < 2 ^ 62 ∧ atI xs k = some v ∧ Q v H
theorem pget_list (hK : X.K = K := by rfl) : PGet X (rIxP K) := by
  subst hK
  intro pins s σ H o i ov iv Q I ro ri h
  obtain ⟨p, xs, k, v, rfl, rfl, hq, h0, h62, ha, q⟩ := h
  cases ro
  obtain ⟨t, rfl⟩ := ri
  obtain ⟨its, r, pl, hz⟩ := I.list hq
  obtain ⟨j, h1, h2, h3, h4, h5⟩ := atI_get ha
  obtain ⟨w, ew, rw'⟩ := r.get h2
  have hj : k.toNat = j := by
    rw [seqIndex_of h0 h5] at h1
    exact Option.some.inj h1
  exact getItem_listL pl.isList h0 (by omega) (by rw [hj]; simpa using ew) ⟨v, H, I, rw', q⟩
theorem tru_map {α : Type} [DecidableEq α] {f : α → V} {xs : List α} : (!decide (xs = [])) = !(xs.map f).isEmpty := by
  cases xs <;> simp
end
end Vx

namespace Vx
open PySem PySem.Spec PyProof.Rows L2
/-! ### objects -/
section
variable {M : List Addr} {H0 G0 G H H' : Hp} {O : List Addr} {p m : Addr} {o : HO}
theorem gen_obj {x dx : Addr} {o1 o2 : HO} (nx : H x = none) (nd : H dx = none) (ne : dx ≠ x) (h : upd (upd H dx o1) x o2 = H') : Same H H' ∧ H' x = some o2 := by
  subst h
  exact ⟨fun b u e => by rw [upd_ne (ne_of_none e nx), upd_ne (ne_of_none e nd)]; exact e, upd_same⟩
theorem sameX_of {m : Addr} (x : SameXs [m] H H') : SameX m H H' := fun b o e n => x b o e (by simpa using n)
theorem g_ne {a b : Addr} (h : G a = some o) (S : Sep M H0 G0 G H O) (hb : b ∈ O) : a ≠ b := fun z => by
  have := (S.ow b hb).1
  rw [← z, h] at this
  cases this
/-- an object whose making has laid some lists -/
theorem Sep.mutnew (S : Sep M H0 G0 G H O) {L : List Addr} (x : SameXs L H H') (hL : ∀ a ∈ L, a ∈ O) (hs : ∀ a ∈ L, H' a ≠ none) (hn : H p = none) (hp : H' p ≠ none) (h0 : H0 p = none) : Sep M H0 G0 G H' (p :: O) := by
  have S1 := S.mut x hL hs
  refine ⟨S1.base, S1.pm, S1.sG, S1.g0, S1.gn, all_cons ⟨S.gfree hn, hp, .inr h0⟩ S1.ow⟩
theorem Sep.init (S : Sep M H0 G0 G H O) (x : SameX m H H') (hm : m ∈ O) (h : H' m = some o) (L : List Addr) (hL : ∀ a ∈ L, H a = none ∧ H' a ≠ none ∧ H0 a = none) : Sep M H0 G0 G H' (L ++ O) := by
  have S1 := S.mut1 x hm h
  refine ⟨S1.base, S1.pm, S1.sG, S1.g0, S1.gn, fun a ha => ?_⟩
  rcases List.mem_append.mp ha with z | z
  · obtain ⟨h1, h2, h3⟩ := hL a z
    exact ⟨S.gfree h1, h2, .inr h3⟩
  · exact S1.ow a z
end
section
variable {P : Program} {w : World} {K : PySem.W.Frag} {mg : Str → Option Value} {base : Heap}
structure MethIn (K : PySem.W.Frag) (C : Addr) (q m : Str) (st : Stmt) (ps : List Str) : Prop where
  ex : ∃ (f : Addr) (fd : FuncData), Fun K m q st f fd ∧ Meth K C m f ∧ Binds K fd ps []
structure PropIn (K : PySem.W.Frag) (C : Addr) (q m : Str) (st : Stmt) (ps : List Str) : Prop where
  ex : ∃ (r f : Addr) (fd : FuncData), Fun K m q st f fd ∧ PropOf K C m r f ∧ Binds K fd ps []
structure InitIn (K : PySem.W.Frag) (mg : Str → Option Value) (C : Addr) (cn q : Str) (st : Stmt) (ps : List Str) : Prop where
  ex : ∃ (f : Addr) (fd : FuncData), Fun K "__init__" q st f fd ∧ Mk K C f ∧ mg cn = some (.ref C) ∧ Binds K fd ps []
structure MetC (P : Program) (w : World) (K : PySem.W.Frag) (mg : Str → Option Value) (base : Heap) (k : Nat) (C : Addr) (m : Str) (sp : Sp) : Prop where
  ex : ∃ (f : Addr) (fd : FuncData) (ps : List Str), Cls K C ∧ Meth K C m f ∧ FnOk P w K mg base CX0 k f fd ps sp ∧ Binds K fd ps []
structure PropC (P : Program) (w : World) (K : PySem.W.Frag) (mg : Str → Option Value) (base : Heap) (k : Nat) (C : Addr) (m : Str) (sp : Sp) : Prop where
  ex : ∃ (q f : Addr) (fd : FuncData) (ps : List Str), Cls K C ∧ PropOf K C m q f ∧ FnOk P w K mg base CX0 k f fd ps sp ∧ Binds K fd ps []
structure MakC (P : Program) (w : World) (K : PySem.W.Frag) (mg : Str → Option Value) (base : Heap) (k : Nat) (cn : Str) (C : Addr) (sp : Sp) : Prop where
  ex : ∃ (f : Addr) (fd : FuncData) (ps : List Str), Mk K C f ∧ FnOk P w K mg base CX0 k f fd ps sp ∧ mg cn = some (.ref C) ∧ Binds K fd ps []
abbrev Body (P : Program) (w : World) (K : PySem.W.Frag) (mg : Str → Option Value) (base : Heap) (x : Str) (st : Stmt) (N : List Str) (k : Nat) (sp : Sp) : Prop :=
  ∀ (f : Addr) (cdv : Value) (A : Around) (outer : List Env) (s : Shared) (H : Hp) (vs : List V) (Q : VK) (E : XK), Room k (A.deeper (envOfC x (defScope st) s.heap.objs.size f cdv)) → sp vs H Q E →
    ∃ t, PSs (cxOf CX0 P w K mg base N x (defScope st) f cdv A outer s H E).nox (defBody st) t ∧ t { nx := fun _ H' => Q .non H', rt := Q } (start N vs) H
theorem MethIn.ok {C : Addr} {q m : Str} {st : Stmt} {N ps : List Str} {k : Nat} {sp : Sp} (D : MethIn K C q m st ps) (c : Cls K C) (S : FnScope N ps (defScope st)) (len : ∀ vs H Q E, sp vs H Q E → vs.length = ps.length)
    (hbody : Body P w K mg base q st N k sp) : MetC P w K mg base (k + 1) C m sp := by
  obtain ⟨f, fd, F, me, b⟩ := D.ex
  exact ⟨f, fd, ps, c, me, F.ok S len (fun cdv A outer s H vs Q E hr h => hbody f cdv A outer s H vs Q E hr h), b⟩
theorem PropIn.ok {C : Addr} {q m : Str} {st : Stmt} {N ps : List Str} {k : Nat} {sp : Sp} (D : PropIn K C q m st ps) (c : Cls K C) (S : FnScope N ps (defScope st)) (len : ∀ vs H Q E, sp vs H Q E → vs.length = ps.length)
    (hbody : Body P w K mg base q st N k sp) : PropC P w K mg base (k + 1) C m sp := by
  obtain ⟨r, f, fd, F, me, b⟩ := D.ex
  exact ⟨r, f, fd, ps, c, me, F.ok S len (fun cdv A outer s H vs Q E hr h => hbody f cdv A outer s H vs Q E hr h), b⟩
theorem InitIn.ok {C : Addr} {cn q : Str} {st : Stmt} {N ps : List Str} {k : Nat} {sp : Sp} (D : InitIn K mg C cn q st ps) (S : FnScope N ps (defScope st)) (len : ∀ vs H Q E, sp vs H Q E → vs.length = ps.length)
    (hbody : Body P w K mg base q st N k sp) : MakC P w K mg base (k + 1) cn C sp := by
  obtain ⟨f, fd, F, me, hm, b⟩ := D.ex
  exact ⟨f, fd, ps, me, F.ok S len (fun cdv A outer s H vs Q E hr h => hbody f cdv A outer s H vs Q E hr h), hm, b⟩
end
section
variable {X : Cx} {k j : Nat} {C : Addr} {x m : Str} {sp : Sp} {p pos apos : Pos} {e o : Expr} {es : List Expr} {ta : TE} {t : TA}
theorem vx_call0 (c : Cal X.prog X.w X.K X.mg X.base k x sp) (hr : Room j X.A) (hk : k ≤ j) (hg : Gl X x) (hdb : (x == ("__debug__" : Str)) = false := by decide) : PE X (.Call (.Name x p) [] [] pos) (tCall sp [] E0 tNil) := by
  obtain ⟨f, fd, ps, F, hm, kp, b⟩ := c.ex
  exact pe_call0 F (hr.mono hk) hg hm kp b .nil pass0 hdb
theorem vx_make (c : MakC X.prog X.w X.K X.mg X.base k x C sp) (hr : Room j X.A) (hk : k + 1 ≤ j) (hg : Gl X x) (ha : PA X (e :: es) t)
    (hdb : (x == ("__debug__" : Str)) = false := by decide) (he : starEach (e :: es) X.env = (false, eval e X.env) :: starEach es X.env := by rfl) (hpl : (backTo pos (starEach es X.env)).any (·.1) = false := by rfl) :
    PE X (.Call (.Name x p) (e :: es) [] pos) (tMake C sp [] E0 t) := by
  obtain ⟨f, fd, ps, M, F, hm, b⟩ := c.ex
  exact pe_make M F (hr.mono hk) hg hm b .nil pass0 ha hdb he hpl
theorem vx_make0 (c : MakC X.prog X.w X.K X.mg X.base k x C sp) (hr : Room j X.A) (hk : k + 1 ≤ j) (hg : Gl X x) (hdb : (x == ("__debug__" : Str)) = false := by decide) :
    PE X (.Call (.Name x p) [] [] pos) (tMake C sp [] E0 tNil) := by
  obtain ⟨f, fd, ps, M, F, hm, b⟩ := c.ex
  exact pe_make0 M F (hr.mono hk) hg hm b .nil pass0 hdb
theorem vx_meth {pl : Sem Bool} (c : MetC X.prog X.w X.K X.mg X.base k C m sp) (hr : Room j X.A) (hk : k ≤ j) (he : PE X o ta) (ha : PA X (e :: es) t)
    (hst : starEach (e :: es) X.env = (false, eval e X.env) :: starEach es X.env := by rfl) (hpl : (backTo pos (starEach es X.env)).any (·.1) = false := by rfl)
    (ht : eval (.Call (.Attribute o m apos) (e :: es) [] pos) X.env = (do
      let ov ← eval o X.env
      standAt apos.atName
      let (f, first) ← holding [ov] (getMethod ov m pl)
      callWith pos f first (backTo pos (starEach (e :: es) X.env)) (backToKw pos (keywordEach [] X.env))) := by rfl) :
    PE X (.Call (.Attribute o m apos) (e :: es) [] pos) (tMeth C m sp [] E0 ta t) := by
  obtain ⟨f, fd, ps, hc, hm, F, b⟩ := c.ex
  exact pe_meth he hc hm F (hr.mono hk) b .nil pass0 ha hst hpl ht
theorem vx_meth0 {pl : Sem Bool} (c : MetC X.prog X.w X.K X.mg X.base k C m sp) (hr : Room j X.A) (hk : k ≤ j) (he : PE X o ta)
    (ht : eval (.Call (.Attribute o m apos) [] [] pos) X.env = (do
      let ov ← eval o X.env
      standAt apos.atName
      let (f, first) ← holding [ov] (getMethod ov m pl)
      callWith pos f first (backTo pos (starEach [] X.env)) (backToKw pos (keywordEach [] X.env))) := by rfl) :
    PE X (.Call (.Attribute o m apos) [] [] pos) (tMeth C m sp [] E0 ta tNil) := by
  obtain ⟨f, fd, ps, hc, hm, F, b⟩ := c.ex
  exact pe_meth0 he hc hm F (hr.mono hk) b .nil pass0 ht
theorem vx_prop (c : PropC X.prog X.w X.K X.mg X.base k C m sp) (hr : Room j X.A) (hk : k + 1 ≤ j) (he : PE X o ta) (hab : attributeBase o m X.env (eval o X.env) = eval o X.env) : PE X (.Attribute o m pos) (tProp C sp [] E0 ta) := by
  obtain ⟨q, f, fd, ps, hc, hp, F, b⟩ := c.ex
  exact pe_prop he hc hp F (hr.mono hk) b .nil pass0 hab
end
theorem iteBNT {b : Bool} {A B : Prop} (h : b = false) (k : A) : if (!b) = true then A else B := by rw [h]; exact iteT k
theorem iteNN {b : Bool} {A B : Prop} (h : if b = true then A else B) : if (!!b) = true then A else B := by rw [Bool.not_not]; exact h
theorem iteBNF {b : Bool} {A B : Prop} (h : b = true) (k : B) : if (!b) = true then A else B := by rw [h]; exact iteF k
theorem shl_side {i j : Int} (h0 : 0 ≤ j) (h1 : j ≤ 4096) (h2 : -(2 ^ 4096) < i) (h3 : i < 2 ^ 4096) : CShl i j := by
  obtain ⟨k, rfl⟩ := Int.eq_ofNat_of_zero_le h0
  exact shl_ok (n := 4096) (by omega) (by omega)
end Vx

namespace Vx
open PySem PySem.Spec PyProof.Rows L2
section
variable {X : Cx} {K : PySem.W.Frag}
theorem fldK {e : Expr} {f : Str} {pos : Pos} {ta : TE} (he : PE X e ta) (hb : attributeBase e f X.env (eval e X.env) = eval e X.env := by rfl) (hK : X.K = K := by rfl) : PE X (.Attribute e f pos) (tFld K ta f) := hK ▸ pe_fld he hb
theorem pg_tupK {es : List Expr} {k : Nat} {t : TGs} {n : Nat} {pos : Pos} (h : PGs X es t) (hc : X.calm = true := by rfl)
    (hn : (assignEach es X.env).length = n := by rfl) (hst : (assignEach es X.env).findIdx? (·.1) = none := by rfl) (hK : X.K = K := by rfl) : PG X (.Tuple es k pos) (gTup K n t) := hK ▸ pg_tup hc h hn hst
end
end Vx

namespace Vx
open PySem PySem.Spec PyProof.Rows L2
section
variable {α β : Type} {f : α → PyData} {g : β → PyData} {fv : α → V} {gv : β → V} {G : Hp} {vs ws : List V} {xs : List α} {ys : List β}
theorem big1 {n : Nat} (h : n ≤ 1000000) : n ≤ sizeLine := smallE h
theorem cat_len (a : RpAll G vs (xs.map f)) (b : RpAll G ws (ys.map g)) (h : xs.length + ys.length ≤ 1000000) : vs.length + ws.length ≤ sizeLine := by
  rw [a.len, b.len, List.length_map, List.length_map]; exact smallE h
theorem cat_lenM (h : xs.length + ys.length ≤ 1000000) : (xs.map fv).length + (ys.map gv).length ≤ sizeLine := by
  rw [List.length_map, List.length_map]; exact smallE h
theorem rep_len {k : Nat} (a : RpAll G vs (xs.map f)) (h : xs.length * k ≤ 1000000) : vs.length * k ≤ sizeLine := by
  rw [a.len, List.length_map]; exact smallE h
theorem rep_lenM {k : Nat} (h : xs.length * k ≤ 1000000) : (xs.map fv).length * k ≤ sizeLine := by
  rw [List.length_map]; exact smallE h
theorem app_len (a : RpAll G vs (xs.map f)) (h : xs.length ≤ 1000000) : vs.length < sizeLine := by
  rw [a.len, List.length_map]; exact small h
theorem app_lenM (h : xs.length ≤ 1000000) : (xs.map fv).length < sizeLine := by
  rw [List.length_map]; exact small h
theorem cutL_len {α : Type} (xs : List α) (lo hi : Option Int) : (cutL xs lo hi).length ≤ xs.length := by
  unfold cutL
  rw [List.length_take, List.length_drop]
  omega
theorem repL_len {α : Type} (xs : List α) (k : Int) : (repL xs k).length = k.toNat * xs.length := by
  unfold repL
  simp
end
end Vx
/-! # promises of defs that know that nothing is being shown (so that repr may be called) -/
namespace Vx
open PySem PySem.Spec PyProof.Rows L2
structure RoomG (k : Nat) (A : Around) : Prop extends Room k A where
  gd : A.guards = some []
theorem RoomG.low {j k : Nat} {A : Around} (r : RoomG k A) (h : j ≤ k) : RoomG j A := ⟨r.toRoom.mono h, r.gd⟩
theorem RoomG.one {k : Nat} {A : Around} (r : RoomG (k + 1) A) : RoomG k A.in1 := ⟨r.toRoom.in1, r.gd⟩
theorem make_gd {A : Around} (C : Addr) (us : List Value) (kw : List (Str × Value)) (h : A.guards = some []) : (A.under (.builtin "type.__call__" ⟨.ref C :: us, kw⟩)).guards = some [] := by
  obtain ⟨hd, d, fr, gs, u⟩ := A
  subst h
  simp [Around.under, Code.guards, Code.isGuard, guardIds, pushGuards]
theorem RoomG.made {k : Nat} {A : Around} (r : RoomG (k + 1) A) (C : Addr) (us : List Value) (kw : List (Str × Value)) : RoomG k (A.under (.builtin "type.__call__" ⟨.ref C :: us, kw⟩)) := ⟨r.toRoom.make C us kw, make_gd C us kw r.gd⟩
structure FnG (P : Program) (w : World) (K : PySem.W.Frag) (mg : Str → Option Value) (base : Heap) (cx : CXT) (k : Nat) (f : Addr) (fd : FuncData) (ps : List Str) (sp : Sp) : Prop where
  len : ∀ vs H Q E, sp vs H Q E → vs.length = ps.length
  run : ∀ (A : Around) (outer : List Env) (s : Shared) (H : Hp) (args : Args) (us : List Value) (vs : List V) (Q : VK) (E : XK), RoomG k A → Env0 P w K mg base A outer s H → BindsTo s fd args (ps.zip us) → Vals vs us → sp vs H Q E → codeAny (model P w) A (.call (.ref f) args) (CR cx outer P w H s Q E) s
section
variable {P : Program} {w : World} {K : PySem.W.Frag} {mg : Str → Option Value} {base : Heap} {cx : CXT} {j k : Nat} {f : Addr} {fd : FuncData} {ps : List Str} {sp sp' : Sp}
theorem FnG.imp (F : FnG P w K mg base cx k f fd ps sp) (h : ∀ vs H Q E, sp' vs H Q E → sp vs H Q E) : FnG P w K mg base cx k f fd ps sp' := ⟨fun vs H Q E q => F.len vs H Q E (h vs H Q E q), fun A o s H a us vs Q E r e b v q => F.run A o s H a us vs Q E r e b v (h vs H Q E q)⟩
/-- the body's promise is the def's -/
theorem FnG.body {x qual : Str} {params : Arguments} {body : List Stmt} {scope : Scope} {dvs : List V} {kws : List (Str × V)} {N : List Str} (F : FunD K x qual params body scope dvs kws f fd) (S : FnScope N ps scope) (len : ∀ vs H Q E, sp vs H Q E → vs.length = ps.length)
    (hb : ∀ (cdv : Value) (A : Around) (outer : List Env) (s : Shared) (H : Hp) (vs : List V) (Q : VK) (E : XK), RoomG k (A.deeper (envOfC qual scope s.heap.objs.size f cdv)) → sp vs H Q E →
      ∃ t, PSs (cxOf cx P w K mg base N qual scope f cdv A outer s H E) body t ∧ t { nx := fun _ H' => Q .non H', rt := Q } (start N vs) H) : FnG P w K mg base cx (k + 1) f fd ps sp := by
  obtain ⟨oc, od, dV, kV, doc, pm, an, cdv, ct, osl, rfl, lk, code, _, _⟩ := F.ex
  constructor
  · exact len
  · intro A outer s H args us vs Q E room env binds vals prom
    have nvs := len vs H Q E prom
    have kin : K.In s.heap := env.mod.kin.keeps fun b o q => (env.bs b o q).1
    have nolim : s.heap.NoLimit := env.mod.nolimit.keeps fun b o q => (env.bs b o q).1
    have kinds : ∀ q ∈ ps.zip us, scope.names.lookup q.1 = some .local ∨ (scope.names.lookup q.1 = some .cell ∧ ((cellsFrom (s.heap.objs.size + 1) scope.names []).lookup q.1).isSome = true) := by
      rintro ⟨n, v⟩ hq
      cases S.par n (List.of_mem_zip hq).1 with
      | inl z => exact .inl z
      | inr z => exact .inr ⟨z, PySem.W.cellsFrom_some _ _ _ (.inl z)⟩
    refine codeAny_call_function room.toRoom.depth (kin _ _ lk) rfl S.co S.gen rfl (PySem.W.codeRec_of kin code) (binds _ _ _ _ ?_)
    refine wpAny_newFunctionEnv_cells S.kind kinds ?_
    rintro _ rfl s1 made
    refine ⟨nolim.keeps made.toInCall.keep, codeAny_func ?_⟩
    obtain ⟨t, pss, start_⟩ := hb cdv A outer s H vs Q E ⟨room.toRoom.deeper _, room.gd⟩ prom
    have inv := inv_start (CX := cx) (E := E) S room.hd env nvs vals made
    have close : ∀ {τ : L2.St} {H2 : Hp} {v : V} {u : Value} {s2 : Shared}, Inv (cxOf cx P w K mg base N qual scope f cdv A outer s H E) [] τ H2 s2 → RelV v u → Q v H2 → CE outer P w H s Q u s2 := fun inv2 rel q => ⟨_, _, inv2.os, inv2.bare, inv2.base, inv2.hok, rel, q⟩
    refine wpAny_mono (pss.run [] s1 (start N vs) H _ inv start_) ?_ fun _ _ z => z
    intro flow s2 out
    cases flow with
    | next =>
      obtain ⟨τ, H2, inv2, q⟩ := out
      exact close (v := .non) (u := .none) inv2 rfl q
    | ret u =>
      obtain ⟨v, τ, H2, inv2, rel, q⟩ := out
      exact close inv2 rel q
    | brk =>
      obtain ⟨_, _, _, q⟩ := out
      exact q.elim
    | cont =>
      obtain ⟨_, _, _, q⟩ := out
      exact q.elim
/-- the same of a body that nothing leaves -/
theorem FnG.bodyN {x qual : Str} {params : Arguments} {body : List Stmt} {scope : Scope} {dvs : List V} {kws : List (Str × V)} {N : List Str} (F : FunD K x qual params body scope dvs kws f fd) (S : FnScope N ps scope) (len : ∀ vs H Q E, sp vs H Q E → vs.length = ps.length)
    (hb : ∀ (cdv : Value) (A : Around) (outer : List Env) (s : Shared) (H : Hp) (vs : List V) (Q : VK) (E : XK), RoomG k (A.deeper (envOfC qual scope s.heap.objs.size f cdv)) → sp vs H Q E →
      ∃ t, PSs (cxOf CX0 P w K mg base N qual scope f cdv A outer s H E).nox body t ∧ t { nx := fun _ H' => Q .non H', rt := Q } (start N vs) H) : FnG P w K mg base CX0 (k + 1) f fd ps sp :=
  FnG.body F S len fun cdv A outer s H vs Q E r p => by
    obtain ⟨t, h, q⟩ := hb cdv A outer s H vs Q E r p
    exact ⟨t, h.nox, q⟩
end
/-- where a law's call begins: an abstract heap that tells the script at most -/
theorem law_start {P : Program} {w : World} {K : PySem.W.Frag} {mg mb : Str → Option Value} {a : Addr} {s : Shared} {vs : List Value} {ns : List Int} (kin : K.In s.heap) (top : s.heap.Ns mainGlobals mg) (blt : s.heap.Ns builtinsNs mb) (boot : ∀ y : Str, y ≠ "__name__" → mb y = bootBuiltins y)
    (lim : s.heap.NoLimit) (gens : s.gens = #[]) (script : s.heap.get? a = some { cls := .type "list", data := .seq vs.toArray }) (whole : IntsAre vs ns) (short : ns.length ≤ sizeLine) :
    ∃ (H : Hp) (base : Heap), SqL K H a (ns.map V.int) ∧ K.In base ∧ base.Ns mainGlobals mg ∧ Env0 P w K mg base callerA [] s H ∧
      ∀ (Z : V → Prop) (u : Value) (s2 : Shared), CE [] P w H s (fun v _ => Z v) u s2 → (∃ v, RelV v u ∧ Z v) ∧ OldK s.heap s2.heap ∧ s2.os = s.os ∧ AllBare s2.gens := by
  have rel := vals_ints whole
  have lenV := whole.length
  -- any H that tells no more than the script, and that only where the written part does not hold it, will do
  have fits : ∀ H : Hp, (∀ b, H b = none ∨ ∃ o xs, H b = some (.frz o (.lst xs))) → SqL K H a (ns.map V.int) → HOk P w H s.heap → (∀ b, b ≠ a → H b = none) → (∀ o, K.lookup a = some o → H a = none) →
      ∃ (H : Hp) (base : Heap), SqL K H a (ns.map V.int) ∧ K.In base ∧ base.Ns mainGlobals mg ∧ Env0 P w K mg base callerA [] s H ∧
        ∀ (Z : V → Prop) (u : Value) (s2 : Shared), CE [] P w H s (fun v _ => Z v) u s2 → (∃ v, RelV v u ∧ Z v) ∧ OldK s.heap s2.heap ∧ s2.os = s.os ∧ AllBare s2.gens := by
    intro H only seq ok else_ apart
    have dictFree : ∀ (b : Addr) (o : Obj) (es : Array DictEntry) (n : Nat), s.heap.get? b = some o → o.data = .dict es n → H b = none := by
      intro b o es n e d
      by_cases z : b = a
      · subst z
        rw [script] at e
        injection e with e
        subst e
        cases d
      · exact else_ b z
    have nsOf : ∀ {b : Addr} {m : Str → Option Value}, s.heap.Ns b m → (hidT s.heap H).Ns b m := by
      rintro b m ⟨o, es, n, e, d, r⟩
      exact ⟨o, es, n, hidT_get e (dictFree b o es n e d), d, r⟩
    have kinB : K.In (hidT s.heap H) := by
      intro b o e
      refine hidT_get (kin b o e) ?_
      by_cases z : b = a
      · subst z
        exact apart o e
      · exact else_ b z
    obtain ⟨mc, lim1, lim2⟩ := lim
    refine ⟨H, hidT s.heap H, seq, kinB, nsOf top, ⟨rfl, ⟨kinB, nsOf top, ⟨mb, nsOf blt, boot⟩, mc, nsOf lim1, lim2⟩, fun b o e => of_hidT e, Nat.le_of_eq (hidT_size _ _), trivial, fun b hb => (nomatch (show b ∈ ([] : List Addr) from hb)), ok, .of_eq gens⟩, ?_⟩
    rintro Z u s2 ⟨v, H2, os, bare, un, ok2, r, z⟩
    refine ⟨⟨v, r, z⟩, OldK.of_keep fun b o e => ?_, os, bare⟩
    rcases only b with n | ⟨o1, xs, n⟩
    · exact un.keep b o e n (fun y => nomatch (show b ∈ ([] : List Addr) from y)) (fun y => nomatch y)
    · obtain ⟨e1, _⟩ := ok b _ n
      obtain ⟨e2, _⟩ := ok2 b _ (un.frzs b o1 _ n)
      rw [e] at e1
      injection e1 with e1
      subst e1
      exact e2
  cases kl : K.lookup a with
  | some o =>
    have e := kin a o kl
    rw [script] at e
    injection e with e
    subst e
    exact fits (fun _ => none) (fun _ => .inl rfl) (.inr ⟨_, vs.toArray, _, kl, rfl, rfl, rfl, by rw [List.size_toArray, lenV]; exact short, by simpa using rel⟩) (fun _ _ z => nomatch z) (fun _ _ => rfl) fun _ _ => rfl
  | none =>
    refine fits (fun b => if b = a then some (.frz { cls := .type "list", data := .seq vs.toArray } (.lst (ns.map V.int))) else none) ?_ (.inl (.inr ⟨_, if_pos rfl⟩)) ?_ (fun b n => if_neg n) fun o z => ?_
    · intro b
      by_cases z : b = a
      · exact .inr ⟨_, _, if_pos z⟩
      · exact .inl (if_neg z)
    · intro b u q
      by_cases z : b = a
      · subst z
        have q := (if_pos rfl).symm.trans q
        injection q with q
        subst q
        exact ⟨script, by rw [List.length_map]; exact short, vs, _, rel, script⟩
      · have q := (if_neg z).symm.trans q
        cases q
    · rw [kl] at z
      cases z
/-- the goal that the head leaves, from the law's promise; the script's numbers have at most 2 ^ 20 bits -/
theorem walkG {l : PySem.W.OpenLaw} {n k : Nat} {q : Program} {loose : List Str} {XP : (Str → Option Value) → Heap → Prop} {YP : World → Heap → Prop} {d : DefRec} {K : Params → PySem.W.Frag} {x : Str} (hn : l.most = some n) (hn2 : n ≤ sizeLine) (hdf : d.params.defaults = []) (room : Room k callerA)
    (hY : ∀ (w : World) (h : Heap), YP w h → (K w.params).In h)
    (F : ∀ (w : World) (mg : Str → Option Value) (fa : Addr) (h : Heap), (K w.params).In h → h.Ns mainGlobals mg → mg d.name = some (.ref fa) →
      ∃ fd : FuncData, (∀ (s : Shared) (u : Value), BindsTo s fd ⟨[u], []⟩ [(x, u)]) ∧ ∀ base : Heap, (K w.params).In base → base.Ns mainGlobals mg → FnG l.prog w (K w.params) mg base CX0 k fa fd [x] (fun vs H Q _ => ∃ (a : Addr) (ns : List Int), vs = [.ref a] ∧ SqL (K w.params) H a (ns.map V.int) ∧ ns.length ≤ n ∧ ∀ H', Q (.bl true) H')) :
    PySem.W.WalkO q loose XP YP l.row.toRowW d [] (fun f vs => PySem.call f vs) := by
  refine Att.attach_call hn hdf ?_
  intro w s₀ s₁ mg mb fa o pm cd doc a vs ns G Y _ _ _ hmg script whole short gens
  have kin := hY w _ Y
  obtain ⟨fd, bind, prom⟩ := F w mg fa _ kin G.T.g hmg
  obtain ⟨H, base, seq, kinB, nsB, env, fin⟩ := law_start (P := l.prog) (w := w) kin G.T.g G.T.b G.T.builtins G.T.nolimit gens script whole (Nat.le_trans short hn2)
  refine codeAny_mono ((prom base kinB nsB).run callerA [] s₁ H ⟨[.ref a], []⟩ [.ref a] [.ref a] (fun v _ => v = .bl true) (fun _ _ _ => False) ⟨room, rfl⟩ env (bind s₁ (.ref a)) (.cons rfl .nil) ⟨a, ns, rfl, seq, short, fun _ => rfl⟩) ?_
  intro r s2 out
  cases r with
  | error e => exact out.elim
  | ok flow =>
    cases flow with
    | ret u =>
      obtain ⟨⟨v, rv, z⟩, h1, h2, h3⟩ := fin (fun v => v = .bl true) u s2 out
      subst z
      obtain rfl : u = Value.bool true := rv
      exact ⟨rfl, h1, h2, h3⟩
    | next => exact out.elim
    | brk => exact out.elim
    | cont => exact out.elim
end Vx
/-! # third part: what a def computes, as a plain function with refusals -/
namespace Vx
open PySem PySem.Spec PyProof.Rows L2
inductive Rx (α : Type) where
  | ok (a : α)
  | er (e : Nat)
  | bad
def Rx.bind {α β : Type} (m : Rx α) (f : α → Rx β) : Rx β :=
  match m with
  | .ok a => f a
  | .er e => .er e
  | .bad => .bad
/-- what is wanted of an outcome -/
@[irreducible] def cW {α : Type} (m : Rx α) (K : α → Prop) (E : Nat → Prop) : Prop :=
  match m with
  | .ok a => K a
  | .er e => E e
  | .bad => False
def grd {α : Type} (p : Prop) [Decidable p] (m : Rx α) : Rx α := if p then m else .bad
/-- within a comprehension nothing may be raised -/
def noEr {α : Type} (m : Rx α) : Rx α :=
  match m with
  | .ok a => .ok a
  | _ => .bad
/-- what the clause does not name may not come -/
def tryR {α β : Type} (m : Rx α) (cs : List Nat) (f : α → Rx β) (h : Nat → Rx β) : Rx β :=
  match m with
  | .ok a => f a
  | .er e => if e ∈ cs then h e else .bad
  | .bad => .bad
def bnd {α β : Type} (a : α) (f : α → Rx β) : Rx β := f a
inductive Lp (σ ρ : Type) where
  | go (s : σ)
  | bk (s : σ)
  | rt (r : ρ)
def Lp.aft {σ ρ τ : Type} (l : Lp σ ρ) (kr : ρ → Rx τ) (k : σ → Rx τ) : Rx τ :=
  match l with
  | .go s => k s
  | .bk s => k s
  | .rt r => kr r
def forS {σ α : Type} : List α → σ → (σ → α → Rx σ) → Rx σ
  | [], s, _ => .ok s
  | x :: r, s, f => (f s x).bind fun s' => forS r s' f
def forR {σ α ρ : Type} : List α → σ → (σ → α → Rx (Lp σ ρ)) → Rx (Lp σ ρ)
  | [], s, _ => .ok (.go s)
  | x :: r, s, f => (f s x).bind fun l =>
    match l with
    | .go s' => forR r s' f
    | .bk s' => .ok (.go s')
    | .rt v => .ok (.rt v)
def whileR {σ ρ : Type} : Nat → σ → (σ → Rx (Lp σ ρ)) → Rx (Lp σ ρ)
  | 0, _, _ => .bad
  | n + 1, s, f => (f s).bind fun l =>
    match l with
    | .go s' => whileR n s' f
    | .bk s' => .ok (.go s')
    | .rt v => .ok (.rt v)
def mapA {α β : Type} : List α → List β → (α → Rx β) → Rx (List β)
  | [], acc, _ => .ok acc
  | x :: r, acc, f => grd (acc.length ≤ 1000000) ((f x).bind fun y => mapA r (acc ++ [y]) f)
def mapF {α β : Type} : List α → List β → (α → Rx (Option β)) → Rx (List β)
  | [], acc, _ => .ok acc
  | x :: r, acc, f => grd (acc.length ≤ 1000000) ((f x).bind fun y =>
    match y with
    | some z => mapF r (acc ++ [z]) f
    | none => mapF r acc f)
section
variable {α β γ σ ρ τ : Type} {K : α → Prop} {E : Nat → Prop}
theorem cW_ok {a : α} (h : cW (.ok a) K E) : K a := by
  unfold cW at h
  exact h
theorem cW_er {e : Nat} (h : cW (.er e : Rx α) K E) : E e := by
  unfold cW at h
  exact h
theorem cW_bad {C : Prop} (h : cW (.bad : Rx α) K E) : C := by
  unfold cW at h
  exact h.elim
theorem cW_mk {a : α} (h : K a) : cW (.ok a) K E := by
  unfold cW
  exact h
theorem cW_mkE {e : Nat} (h : E e) : cW (.er e : Rx α) K E := by
  unfold cW
  exact h
theorem cW_gen {m : Rx α} (h : cW m K E) : ∃ (K' : α → Prop) (E' : Nat → Prop), (∀ v, K' v → K v) ∧ (∀ e, E' e → E e) ∧ cW m K' E' := ⟨K, E, fun _ x => x, fun _ x => x, h⟩
theorem cW_grd {p : Prop} {dp : Decidable p} {m : Rx α} (h : cW (grd p m) K E) : p ∧ cW m K E := by
  unfold grd at h
  split at h
  · exact ⟨‹p›, h⟩
  · exact cW_bad h
theorem cW_pos {p : Prop} {dp : Decidable p} {a b : Rx α} (c : p) (h : cW (if p then a else b) K E) : cW a K E := by rwa [if_pos c] at h
theorem cW_neg {p : Prop} {dp : Decidable p} {a b : Rx α} (c : ¬ p) (h : cW (if p then a else b) K E) : cW b K E := by rwa [if_neg c] at h
theorem cW_call {m : Rx β} {f : β → Rx α} {K2 : β → Prop} {E2 : Nat → Prop} (h : cW (m.bind f) K E) (ho : ∀ v, cW (f v) K E → K2 v) (he : ∀ e, E e → E2 e) : cW m K2 E2 := by
  cases m with
  | ok a => exact cW_mk (ho a h)
  | er e => exact cW_mkE (he e (cW_er (α := α) h))
  | bad => exact cW_bad (α := α) h
theorem cW_push {m : Rx β} {f : β → Rx α} (h : cW (m.bind f) K E) : ∃ K2 : β → Prop, (∀ v, K2 v → cW (f v) K E) ∧ cW m K2 E := ⟨fun v => cW (f v) K E, fun _ x => x, cW_call h (fun _ x => x) fun _ x => x⟩
theorem cW_name {m : Rx α} (h : cW m K E) : ∃ K' : α → Prop, (∀ v, K' v → K v) ∧ cW m K' E := ⟨K, fun _ x => x, h⟩
theorem cW_noEr {m : Rx α} (h : cW (noEr m) K E) : cW m K (fun _ => False) := by
  cases m with
  | ok a => exact cW_mk (cW_ok (α := α) h)
  | er e => exact cW_bad (α := α) h
  | bad => exact cW_bad (α := α) h
theorem cW_try {m : Rx β} {cs : List Nat} {f : β → Rx α} {g : Nat → Rx α} {K2 : β → Prop} {E2 : Nat → Prop} (h : cW (tryR m cs f g) K E) (ho : ∀ v, cW (f v) K E → K2 v) (hc : ∀ e, e ∈ cs → cW (g e) K E → E2 e) : cW m K2 E2 := by
  cases m with
  | ok a => exact cW_mk (ho a h)
  | er e =>
    have h2 : cW (if e ∈ cs then g e else .bad) K E := h
    by_cases q : e ∈ cs
    · exact cW_mkE (hc e q (cW_pos q h2))
    · exact cW_bad (cW_neg q h2)
  | bad => exact cW_bad (α := α) h
theorem cW_bnd {a : β} {f : β → Rx α} (h : cW (bnd a f) K E) : cW (f a) K E := h
theorem cW_negB {b : Bool} {x y : Rx α} (c : b = false) (h : cW (if b = true then x else y) K E) : cW y K E := cW_neg (by rw [c]; decide) h
theorem cW_forS {xs : List β} {i : Nat} {x : β} {s : α} {f : α → β → Rx α} (hx : xs[i]? = some x) (h : cW (forS (xs.drop i) s f) K E) : cW (f s x) (fun s' => cW (forS (xs.drop (i + 1)) s' f) K E) E := by
  rw [List.drop_eq_getElem?_toList_append, hx] at h
  exact cW_call h (fun _ z => z) fun _ z => z
theorem cW_forS0 {xs : List β} {n : Nat} {s : α} {f : α → β → Rx α} (hn : n = xs.length) (h : cW (forS (xs.drop n) s f) K E) : K s := by
  subst hn
  rw [List.drop_length] at h
  exact cW_ok h
theorem cW_forR {K : Lp σ ρ → Prop} {xs : List β} {i : Nat} {x : β} {s : σ} {f : σ → β → Rx (Lp σ ρ)} (hx : xs[i]? = some x) (h : cW (forR (xs.drop i) s f) K E) :
    cW (f s x) (fun l => match l with | .go s' => cW (forR (xs.drop (i + 1)) s' f) K E | .bk s' => K (.go s') | .rt v => K (.rt v)) E := by
  rw [List.drop_eq_getElem?_toList_append, hx] at h
  refine cW_call h (fun l z => ?_) fun _ z => z
  cases l with
  | go s' => exact z
  | bk s' => exact cW_ok (K := K) (a := .go s') z
  | rt v => exact cW_ok (K := K) (a := .rt v) z
theorem cW_forR0 {K : Lp σ ρ → Prop} {xs : List β} {n : Nat} {s : σ} {f : σ → β → Rx (Lp σ ρ)} (hn : n = xs.length) (h : cW (forR (xs.drop n) s f) K E) : K (.go s) := by
  subst hn
  rw [List.drop_length] at h
  exact cW_ok h
theorem cW_whileR {K : Lp σ ρ → Prop} {m : Nat} {s : σ} {f : σ → Rx (Lp σ ρ)} (h : cW (whileR m s f) K E) :
    ∃ n, m = n + 1 ∧ cW (f s) (fun l => match l with | .go s' => cW (whileR n s' f) K E | .bk s' => K (.go s') | .rt v => K (.rt v)) E := by
  cases m with
  | zero => exact cW_bad h
  | succ n =>
    refine ⟨n, rfl, cW_call h (fun l z => ?_) fun _ z => z⟩
    cases l with
    | go s' => exact z
    | bk s' => exact cW_ok (K := K) (a := .go s') z
    | rt v => exact cW_ok (K := K) (a := .rt v) z
theorem cW_mapA {K : List α → Prop} {xs : List β} {acc : List α} {i : Nat} {x : β} {f : β → Rx α} (hx : xs[i]? = some x) (h : cW (mapA (xs.drop i) acc f) K E) :
    acc.length ≤ 1000000 ∧ cW (f x) (fun y => cW (mapA (xs.drop (i + 1)) (acc ++ [y]) f) K E) E := by
  rw [List.drop_eq_getElem?_toList_append, hx] at h
  obtain ⟨z, h⟩ := cW_grd h
  exact ⟨z, cW_call h (fun _ z => z) fun _ z => z⟩
theorem cW_mapA0 {K : List α → Prop} {xs : List β} {acc : List α} {n : Nat} {f : β → Rx α} (hn : n = xs.length) (h : cW (mapA (xs.drop n) acc f) K E) : K acc := by
  subst hn
  rw [List.drop_length] at h
  exact cW_ok h
theorem cW_mapF {K : List α → Prop} {xs : List β} {acc : List α} {i : Nat} {x : β} {f : β → Rx (Option α)} (hx : xs[i]? = some x) (h : cW (mapF (xs.drop i) acc f) K E) :
    acc.length ≤ 1000000 ∧ cW (f x) (fun y => match y with | some z => cW (mapF (xs.drop (i + 1)) (acc ++ [z]) f) K E | none => cW (mapF (xs.drop (i + 1)) acc f) K E) E := by
  rw [List.drop_eq_getElem?_toList_append, hx] at h
  obtain ⟨z, h⟩ := cW_grd h
  refine ⟨z, cW_call h (fun y z => ?_) fun _ z => z⟩
  cases y with
  | none => exact z
  | some w => exact z
theorem cW_mapF0 {K : List α → Prop} {xs : List β} {acc : List α} {n : Nat} {f : β → Rx (Option α)} (hn : n = xs.length) (h : cW (mapF (xs.drop n) acc f) K E) : K acc := by
  subst hn
  rw [List.drop_length] at h
  exact cW_ok h
end
/-- the numbers of a range -/
def rng (lo : Int) (n : Nat) : List Int := (List.range n).map fun (j : Nat) => lo + (j : Int)
theorem rng_get {lo : Int} {n i : Nat} (h : i < n) : (rng lo n)[i]? = some (lo + (i : Int)) := by
  unfold rng
  rw [List.getElem?_map, List.getElem?_range h] <;> rfl
theorem rng_len (lo : Int) (n : Nat) : (rng lo n).length = n := by
  unfold rng
  rw [List.length_map, List.length_range]

def rngD (lo : Int) (n : Nat) : List Int := (List.range n).map fun (j : Nat) => lo + (j : Int) * (-1)
theorem rngD_get {lo : Int} {n i : Nat} (h : i < n) : (rngD lo n)[i]? = some (lo + (i : Int) * (-1)) := by
  unfold rngD
  rw [List.getElem?_map, List.getElem?_range h] <;> rfl
theorem rngD_len (lo : Int) (n : Nat) : (rngD lo n).length = n := by
  unfold rngD
  rw [List.length_map, List.length_range]

/-! ### calls that may raise -/
/-- what a call with n values and keywords ks gives the parameters -/
structure Bnd (K : PySem.W.Frag) (fd : FuncData) (ps : List Str) (n : Nat) (ks : List Str) (g : List V → List V → List V) : Prop where
  to : ∀ (s : Shared) (us ws : List Value) (vs zs : List V), K.In s.heap → vs.length = n → zs.length = ks.length → Vals vs us → Vals zs ws → ∃ vv : List Value, BindsTo s fd ⟨us, ks.zip ws⟩ (ps.zip vv) ∧ Vals (g vs zs) vv
theorem Bnd.of_kbn {K : PySem.W.Frag} {fd : FuncData} {ps ks : List Str} {n : Nat} {g : List Value → List Value → List Value} {gV : List V → List V → List V} (b : KBn K fd ps n ks g gV) : Bnd K fd ps n ks gV :=
  ⟨fun s us ws vs zs X l1 l2 r rz => ⟨g us ws, b.to s us ws X (r.length.symm.trans l1) (rz.length.symm.trans l2), b.rel r rz⟩⟩
theorem Bnd.all {K : PySem.W.Frag} {fd : FuncData} {ps ks : List Str} {n : Nat} {g : List V → List V → List V} (h : ∀ (us ws : List Value) (vs zs : List V), vs.length = n → zs.length = ks.length → Vals vs us → Vals zs ws →
    ∃ vv : List Value, bindArgs fd ⟨us, ks.zip ws⟩ = pure (ps.zip vv) ∧ Vals (g vs zs) vv) : Bnd K fd ps n ks g :=
  ⟨fun s us ws vs zs _ l1 l2 r rz => by
    obtain ⟨vv, e, q⟩ := h us ws vs zs l1 l2 r rz
    exact ⟨vv, BindsTo.of_eq e, q⟩⟩
abbrev Pat := Nat × List Str × (List V → List V → List V)
def Bnd1 (K : PySem.W.Frag) (fd : FuncData) (ps : List Str) (p : Pat) : Prop := Bnd K fd ps p.1 p.2.1 p.2.2
section
variable {P : Program} {w : World} {K : PySem.W.Frag} {mg : Str → Option Value} {base : Heap}
/-- a def of the top, with the ways it is called -/
structure DefX (K : PySem.W.Frag) (mg : Str → Option Value) (x : Str) (st : Stmt) (ps : List Str) (pats : List Pat) : Prop where
  ex : ∃ (f : Addr) (fd : FuncData) (dvs : List V) (kws : List (Str × V)), FunD K x x (defArgs st) (defBody st) (defScope st) dvs kws f fd ∧ mg x = some (.ref f) ∧ ∀ p ∈ pats, Bnd1 K fd ps p
structure CalX (P : Program) (w : World) (K : PySem.W.Frag) (mg : Str → Option Value) (base : Heap) (k : Nat) (x : Str) (sp : Sp) (pats : List Pat) : Prop where
  ex : ∃ (f : Addr) (fd : FuncData) (ps : List Str), FnG P w K mg base (L2.CX P w) k f fd ps sp ∧ mg x = some (.ref f) ∧ PySem.W.keepIn K (.ref f) = true ∧ ∀ p ∈ pats, Bnd1 K fd ps p
abbrev BodyX (P : Program) (w : World) (K : PySem.W.Frag) (mg : Str → Option Value) (base : Heap) (x : Str) (st : Stmt) (N : List Str) (k : Nat) (sp : Sp) : Prop :=
  ∀ (f : Addr) (cdv : Value) (A : Around) (outer : List Env) (s : Shared) (H : Hp) (vs : List V) (Q : VK) (E : XK), RoomG k (A.deeper (envOfC x (defScope st) s.heap.objs.size f cdv)) → sp vs H Q E →
    ∃ t, PSs (cxOf (L2.CX P w) P w K mg base N x (defScope st) f cdv A outer s H E) (defBody st) t ∧ t { nx := fun _ H' => Q .non H', rt := Q } (start N vs) H
theorem DefX.ok {x : Str} {st : Stmt} {N ps : List Str} {pats : List Pat} {k : Nat} {sp : Sp} (D : DefX K mg x st ps pats) (S : FnScope N ps (defScope st)) (len : ∀ vs H Q E, sp vs H Q E → vs.length = ps.length)
    (hbody : BodyX P w K mg base x st N k sp) : CalX P w K mg base (k + 1) x sp pats := by
  obtain ⟨f, fd, dvs, kws, F, hm, b⟩ := D.ex
  exact ⟨f, fd, ps, FnG.body F S len (fun cdv A outer s H vs Q E hr h => hbody f cdv A outer s H vs Q E hr h), hm, F.kp, b⟩
end
section
variable {X : Cx} {k j n : Nat} {f : Addr} {fd : FuncData} {ps ks : List Str} {g : List V → List V → List V} {sp : Sp} {x : Str} {pos p : Pos} {e : Expr} {es : List Expr} {kws : List Keyword} {t tk : TA} {W : WX}
theorem run_X {pins : List (Addr × Obj)} {σ : L2.St} {H : Hp} {s : Shared} {Q : VK} {us ws : List Value} {vs zs : List V} (F : FnG X.prog X.w X.K X.mg X.base (L2.CX X.prog X.w) k f fd ps sp) (hr : RoomG k X.A) (hb : Bnd X.K fd ps n ks g) (tkW : Takes X W)
    (I : Inv X pins σ H s) (r : Vals vs us) (rz : Vals zs ws) (l1 : vs.length = n) (l2 : zs.length = ks.length) (h : sp (g vs zs) H Q (WE W σ)) :
    wpAny (model X.prog X.w) X.A (call (.ref f) us (ks.zip ws)) (EP X pins σ Q) X.xe s := by
  obtain ⟨vv, b, r2⟩ := hb.to s us ws vs zs I.kIn l1 l2 r rz
  refine wpAny_call (codeAny_mono (F.run X.A X.stack s H ⟨us, ks.zip ws⟩ vv (g vs zs) Q (WE W σ) hr I.env0 b r2 h) fun rr s' hq => ?_)
  cases rr with
  | error er => exact passAt tkW σ pins H s er s' I hq
  | ok fl =>
    cases fl with
    | ret u => exact I.after hq
    | next => exact hq.elim
    | brk => exact hq.elim
    | cont => exact hq.elim
/-- f(e, .., k = v, ..) -/
def tCallX (n m : Nat) (sp : Sp) (g : List V → List V → List V) (W : WX) (t tk : TA) : TE := fun σ H Q => t σ H fun vs H1 => tk σ H1 fun zs H2 => vs.length = n ∧ zs.length = m ∧ sp (g vs zs) H2 Q (WE W σ)
theorem vx_callX {pats : List Pat} (c : CalX X.prog X.w X.K X.mg X.base k x sp pats) (pt : Pat) (hpt : pt ∈ pats) (hr : RoomG j X.A) (hk : k ≤ j) (tkW : Takes X W) (hg : Gl X x) (ha : PA X (e :: es) t) (hkw : PK X kws tk)
    (hall : (backToKw pos (keywordEach kws X.env)).all (·.1.isSome) = true := by rfl) (hks : (backToKw pos (keywordEach kws X.env)).filterMap (·.1) = pt.2.1 := by rfl)
    (hdb : (x == ("__debug__" : Str)) = false := by decide) (he : starEach (e :: es) X.env = (false, eval e X.env) :: starEach es X.env := by rfl)
    (hpl : ((backTo pos (starEach (e :: es) X.env)).any (·.1) || (backToKw pos (keywordEach kws X.env)).any (·.1.isNone)) = false := by rfl) :
    PE X (.Call (.Name x p) (e :: es) kws pos) (tCallX pt.1 pt.2.1.length sp pt.2.2 W t tk) := by
  obtain ⟨f, fd, ps, F, hm, kp, b⟩ := c.ex
  refine ⟨fun pins s σ H Q I h => ?_⟩
  refine wpAny_Call_Name_kw (ld_glob I hg hm ?_ hdb)
  refine PySem.W.callWith_KW (h₀ := X.base) I.ok.mod.kin kp hall (thn (ha.run pos pins s σ H _ I h) fun us s1 ⟨vs, H1, I1, r, q⟩ => ?_) hpl he
  refine thn (hkw.run pos pins s1 σ H1 _ I1 q) fun ws s2 ⟨zs, H2, I2, rz, l1, l2, q2⟩ => ⟨I2.kIn, ?_⟩
  rw [hks]
  exact run_X F (hr.low hk) (b pt hpt) tkW I2 r rz l1 l2 q2
theorem vx_callX0 {pats : List Pat} (c : CalX X.prog X.w X.K X.mg X.base k x sp pats) (pt : Pat) (hpt : pt ∈ pats) (hr : RoomG j X.A) (hk : k ≤ j) (tkW : Takes X W) (hg : Gl X x) (hks : pt.2.1 = [] := by rfl)
    (hdb : (x == ("__debug__" : Str)) = false := by decide) : PE X (.Call (.Name x p) [] [] pos) (tCallX pt.1 pt.2.1.length sp pt.2.2 W tNil tNil) := by
  obtain ⟨f, fd, ps, F, hm, kp, b⟩ := c.ex
  refine ⟨fun pins s σ H Q I h => ?_⟩
  refine wpAny_Call_Name_kw (ld_glob I hg hm ?_ hdb)
  obtain ⟨l1, l2, q2⟩ := h
  have hz := run_X (us := []) (ws := []) F (hr.low hk) (b pt hpt) tkW I .nil .nil l1 l2 q2
  rw [hks] at hz
  exact PySem.W.callWith_K0 I.kIn kp hz
end
/-! ### borrowed things -/
theorem Sep.bM {M : List Addr} {H0 G0 G H : Hp} {O : List (Addr)} (S : Sep M H0 G0 G H O) : Same (hideL M H0) H := fun b o e => by
  by_cases h : b ∈ M
  · rw [hideL_in h] at e
    cases e
  · rw [hideL_out h] at e
    exact S.base b o e h
theorem b_ne {M : List Addr} {H0 G0 G H : Hp} {O : List Addr} {a b : Addr} {o : HO} (h : (hideL M H0) a = some o) (S : Sep M H0 G0 G H O) (hb : b ∈ O) : a ≠ b := fun z => by
  subst z
  rcases (S.ow a hb).2.2 with q | q
  · rw [hideL_in q] at h
    cases h
  · by_cases hM : a ∈ M
    · rw [hideL_in hM] at h
      cases h
    · rw [hideL_out hM, q] at h
      cases h
theorem hide0 {H : Hp} : hideL [] H = H := by
  funext b
  unfold hideL
  rw [if_neg List.not_mem_nil]
theorem hide_nil {H : Hp} {a : Addr} {o : HO} (h : H a = some o) : (hideL [] H) a = some o := by
  rw [hide0]
  exact h
theorem Rp.hide_nil {H : Hp} {v : V} {d : PyData} (h : Rp H v d) : Rp (hideL [] H) v d := by
  rw [hide0]
  exact h
theorem Sep.startM {M : List Addr} {G H : Hp} (e : Same G H) (hM : ∀ a ∈ M, H a ≠ none) (hG : ∀ a ∈ M, G a = none) : Sep M H G G H M :=
  ⟨fun _ _ e _ => e, hM, e, Same.refl _, fun _ _ e => e, fun a ha => ⟨hG a ha, hM a ha, .inl ha⟩⟩
theorem Sep.gno {M : List Addr} {H0 G0 G H : Hp} {O L : List Addr} (S : Sep M H0 G0 G H O) (h : ∀ a ∈ L, a ∈ O) : ∀ a ∈ L, G a = none := fun a ha => (S.ow a (h a ha)).1
theorem RpAll.ixD {α : Type} [Inhabited α] {f : α → PyData} {H : Hp} {vs : List V} {xs : List α} {k : Int} (r : RpAll H vs (xs.map f)) (h : -(xs.length : Int) ≤ k ∧ k < xs.length) : ∃ v, atI vs k = some v ∧ Rp H v (f (itD xs k)) := by
  obtain ⟨v, x, h1, h2, h3⟩ := RpAll.ix r h
  refine ⟨v, h1, ?_⟩
  unfold itD
  rw [h2]
  exact h3
theorem tru_all {α : Type} [DecidableEq α] {f : α → PyData} {H : Hp} {vs : List V} {xs : List α} (r : RpAll H vs (xs.map f)) : (!decide (xs = [])) = !vs.isEmpty := by
  have h := r.len
  rw [List.length_map] at h
  cases xs <;> cases vs <;> simp_all
theorem ix_nn {α : Type} {xs : List α} {k : Int} (h0 : 0 ≤ k) (h1 : k < xs.length) : -(xs.length : Int) ≤ k ∧ k < xs.length := ⟨by omega, h1⟩
theorem all_nilQ {α : Type} {P : α → Prop} : ∀ x ∈ ([] : List α), P x := fun x h => by cases h
theorem all_consQ {α : Type} {P : α → Prop} {a : α} {l : List α} (h : P a) (t : ∀ x ∈ l, P x) : ∀ x ∈ a :: l, P x := fun x hx => by
  rcases List.mem_cons.mp hx with rfl | hx
  · exact h
  · exact t x hx
theorem mem_one {a b : Nat} (h : a ∈ [b]) : a = b := by simpa using h
theorem mem_cons2 {a b : Nat} {l : List Nat} (h : a ∈ b :: l) : a = b ∨ a ∈ l := List.mem_cons.mp h
theorem len0 {α : Type} {l : List α} (h : l.length = 0) : l = [] := List.length_eq_zero_iff.mp h
theorem len1 {α : Type} {l : List α} (h : l.length = 1) : ∃ a, l = [a] := List.length_eq_one_iff.mp h
theorem len_s {α : Type} {l : List α} {n : Nat} (h : l.length = n + 1) : ∃ a r, l = a :: r ∧ r.length = n := by
  cases l with
  | nil => cases h
  | cons a r => exact ⟨a, r, rfl, Nat.succ.inj h⟩
theorem len2 {α : Type} {l : List α} (h : l.length = 2) : ∃ a b, l = [a, b] := by
  obtain ⟨a, r, rfl, h2⟩ := len_s h
  obtain ⟨b, rfl⟩ := len1 h2
  exact ⟨a, b, rfl⟩
theorem len3 {α : Type} {l : List α} (h : l.length = 3) : ∃ a b c, l = [a, b, c] := by
  obtain ⟨a, r, rfl, h2⟩ := len_s h
  obtain ⟨b, c, rfl⟩ := len2 h2
  exact ⟨a, b, c, rfl⟩
theorem len4 {α : Type} {l : List α} (h : l.length = 4) : ∃ a b c d, l = [a, b, c, d] := by
  obtain ⟨a, r, rfl, h2⟩ := len_s h
  obtain ⟨b, c, d, rfl⟩ := len3 h2
  exact ⟨a, b, c, d, rfl⟩
theorem len5 {α : Type} {l : List α} (h : l.length = 5) : ∃ a b c d e, l = [a, b, c, d, e] := by
  obtain ⟨a, r, rfl, h2⟩ := len_s h
  obtain ⟨b, c, d, e, rfl⟩ := len4 h2
  exact ⟨a, b, c, d, e, rfl⟩
theorem len6 {α : Type} {l : List α} (h : l.length = 6) : ∃ a b c d e f, l = [a, b, c, d, e, f] := by
  obtain ⟨a, r, rfl, h2⟩ := len_s h
  obtain ⟨b, c, d, e, f, rfl⟩ := len5 h2
  exact ⟨a, b, c, d, e, f, rfl⟩
theorem len7 {α : Type} {l : List α} (h : l.length = 7) : ∃ a b c d e f g, l = [a, b, c, d, e, f, g] := by
  obtain ⟨a, r, rfl, h2⟩ := len_s h
  obtain ⟨b, c, d, e, f, g, rfl⟩ := len6 h2
  exact ⟨a, b, c, d, e, f, g, rfl⟩
def rLenTK (K : PySem.W.Frag) : List V → Hp → VK → Prop := fun xs H Q => ∃ (p : Addr) (vs : List V) (n : Nat), xs = [.ref p] ∧ SqT K H p vs ∧ vs.length = n ∧ Q (.int (n : Int)) H
theorem call_lenTK {X : Cx} {K : PySem.W.Frag} (hK : X.K = K := by rfl) : CallR X (.builtin "len") (rLenTK K) := by
  subst hK
  intro pins s σ H xs us Q I r h
  obtain ⟨p, vs, n, rfl, hs, hn, q⟩ := h
  exact call_len_seq pins s σ H _ us Q I r ⟨p, _, rfl, Or.inr hs, by rw [hn]; exact q⟩
theorem exm_mk {K : PySem.W.Frag} {S C : Addr} (h1 : PySem.W.subIn K (.ref C) (.type "BaseException") = some true) (h2 : PySem.W.isClsIn K C = true) (h3 : PySem.W.typeIn K (.ref C) = some (.type "type")) (h4 : PySem.W.subIn K (.ref S) (.ref C) = some true) :
    PySem.W.exmOne K (.ref S) (.ref C) = some true := by
  unfold PySem.W.isClsIn at h2
  unfold PySem.W.exmOne
  unfold PySem.W.kitCls
  simp only [h1, h2, h3, h4, beq_self_eq_true, Bool.and_self, if_true]
theorem kit_mk {K : PySem.W.Frag} {S C : Addr} (h2 : PySem.W.isClsIn K C = true) (h3 : PySem.W.typeIn K (.ref C) = some (.type "type")) (h4 : PySem.W.subIn K (.ref S) (.ref C) = some true) :
    PySem.W.kitOne K (.ref S) (.ref C) = some true := by
  unfold PySem.W.isClsIn at h2
  unfold PySem.W.kitOne
  split
  · rfl
  · unfold PySem.W.kitCls
    simp only [h2, h3, h4, beq_self_eq_true, Bool.and_self, if_true]
/-- isinstance(e, C) of the exception in hand -/
def rIsX (K : PySem.W.Frag) (a : Addr) (cls : Value) (d : Option Addr) : List V → Hp → VK → Prop := fun xs H Q => ∃ (D C : Addr) (b : Bool), cls = .ref D ∧ d = none ∧ ExcC K D ∧ xs = [.ref a, .ref C] ∧ PySem.W.kitOne K (.ref D) (.ref C) = some b ∧ Q (.bl b) H
theorem call_isX {X : Cx} {K : PySem.W.Frag} {a : Addr} {cls : Value} {d : Option Addr} {oe : Obj} {pn : List (Addr × Obj)} (hz : Zc cls d oe) (hf : ∃ vs, oe.data = .fields vs) (hK : X.K = K := by rfl) : CallR (X.suite a ((a, oe) :: pn)) (.builtin "isinstance") (rIsX K a cls d) := by
  subst hK
  intro pins s σ H xs us Q I r h
  obtain ⟨D, C, b, rfl, rfl, c, rfl, e, q⟩ := h
  exact call_isE c hz hf pins s σ H _ us Q I r ⟨_, _, b, rfl, fun u z => z, e, q⟩
/-! ### unpacking a list -/
section
variable {X : Cx} {K : PySem.W.Frag} {pos : Pos}
theorem pg_seqK {es : List Expr} {k : Nat} {t : TGs} {n : Nat} (h : PGs X es t) (hc : X.calm = true := by rfl) (hK : X.K = K := by rfl)
    (hn : (assignEach es X.env).length = n := by rfl) (hst : (assignEach es X.env).findIdx? (·.1) = none := by rfl) : PG X (.Tuple es k pos) (gLst K n t) := hK ▸ pg_lst hc h hn hst
end
theorem SqL.cast {K : PySem.W.Frag} {H : Hp} {a : Addr} {xs ys : List V} (h : SqL K H a xs) (e : xs = ys) : SqL K H a ys := e ▸ h
section
variable {α : Type} [Inhabited α] {f : α → V}
theorem unp2 {xs : List α} (h : xs.length = 2) : xs.map f = [f (itD xs 0), f (itD xs 1)] := by
  obtain ⟨a, b, rfl⟩ := len2 h
  rfl
theorem unp3 {xs : List α} (h : xs.length = 3) : xs.map f = [f (itD xs 0), f (itD xs 1), f (itD xs 2)] := by
  obtain ⟨a, b, c, rfl⟩ := len3 h
  rfl
theorem unp4 {xs : List α} (h : xs.length = 4) : xs.map f = [f (itD xs 0), f (itD xs 1), f (itD xs 2), f (itD xs 3)] := by
  obtain ⟨a, b, c, d, rfl⟩ := len4 h
  rfl
theorem unp6 {xs : List α} (h : xs.length = 6) : xs.map f = [f (itD xs 0), f (itD xs 1), f (itD xs 2), f (itD xs 3), f (itD xs 4), f (itD xs 5)] := by
  obtain ⟨a, b, c, d, e, g, rfl⟩ := len6 h
  rfl
theorem unp8 {xs : List α} (h : xs.length = 8) : xs.map f = [f (itD xs 0), f (itD xs 1), f (itD xs 2), f (itD xs 3), f (itD xs 4), f (itD xs 5), f (itD xs 6), f (itD xs 7)] := by
  obtain ⟨a, r, rfl, h2⟩ := len_s h
  obtain ⟨b, c, d, e, g, i, j, rfl⟩ := len7 h2
  rfl
end
/-! ### classes -/
section
variable {P : Program} {w : World} {K : PySem.W.Frag} {mg : Str → Option Value} {base : Heap}
structure MethX (K : PySem.W.Frag) (C : Addr) (q m : Str) (st : Stmt) (ps : List Str) (pats : List Pat) : Prop where
  ex : ∃ (f : Addr) (fd : FuncData) (dvs : List V) (kws : List (Str × V)), FunD K m q (defArgs st) (defBody st) (defScope st) dvs kws f fd ∧ Meth K C m f ∧ ∀ p ∈ pats, Bnd1 K fd ps p
structure InitX (K : PySem.W.Frag) (mg : Str → Option Value) (C : Addr) (cn q : Str) (st : Stmt) (ps : List Str) (pats : List Pat) : Prop where
  ex : ∃ (f : Addr) (fd : FuncData) (dvs : List V) (kws : List (Str × V)), FunD K "__init__" q (defArgs st) (defBody st) (defScope st) dvs kws f fd ∧ Mk K C f ∧ mg cn = some (.ref C) ∧ ∀ p ∈ pats, Bnd1 K fd ps p
structure PropX (K : PySem.W.Frag) (C : Addr) (q m : Str) (st : Stmt) (ps : List Str) (pats : List Pat) : Prop where
  ex : ∃ (r f : Addr) (fd : FuncData) (dvs : List V) (kws : List (Str × V)), FunD K m q (defArgs st) (defBody st) (defScope st) dvs kws f fd ∧ PropOf K C m r f ∧ Binds K fd ps []
structure MetX (P : Program) (w : World) (K : PySem.W.Frag) (mg : Str → Option Value) (base : Heap) (k : Nat) (C : Addr) (m : Str) (sp : Sp) (pats : List Pat) : Prop where
  ex : ∃ (f : Addr) (fd : FuncData) (ps : List Str), Cls K C ∧ Meth K C m f ∧ FnG P w K mg base (L2.CX P w) k f fd ps sp ∧ ∀ p ∈ pats, Bnd1 K fd ps p
structure PropY (P : Program) (w : World) (K : PySem.W.Frag) (mg : Str → Option Value) (base : Heap) (k : Nat) (C : Addr) (m : Str) (sp : Sp) (pats : List Pat) : Prop where
  ex : ∃ (q f : Addr) (fd : FuncData) (ps : List Str), Cls K C ∧ PropOf K C m q f ∧ FnG P w K mg base (L2.CX P w) k f fd ps sp ∧ Binds K fd ps []
structure MakX (P : Program) (w : World) (K : PySem.W.Frag) (mg : Str → Option Value) (base : Heap) (k : Nat) (cn : Str) (C : Addr) (sp : Sp) (pats : List Pat) : Prop where
  ex : ∃ (f : Addr) (fd : FuncData) (ps : List Str), Mk K C f ∧ FnG P w K mg base (L2.CX P w) k f fd ps sp ∧ mg cn = some (.ref C) ∧ ∀ p ∈ pats, Bnd1 K fd ps p
theorem MethX.ok {C : Addr} {q m : Str} {st : Stmt} {N ps : List Str} {pats : List Pat} {k : Nat} {sp : Sp} (D : MethX K C q m st ps pats) (c : Cls K C) (S : FnScope N ps (defScope st)) (len : ∀ vs H Q E, sp vs H Q E → vs.length = ps.length)
    (hbody : BodyX P w K mg base q st N k sp) : MetX P w K mg base (k + 1) C m sp pats := by
  obtain ⟨f, fd, dvs, kws, F, me, b⟩ := D.ex
  exact ⟨f, fd, ps, c, me, FnG.body F S len (fun cdv A outer s H vs Q E hr h => hbody f cdv A outer s H vs Q E hr h), b⟩
theorem PropX.ok {C : Addr} {q m : Str} {st : Stmt} {N ps : List Str} {pats : List Pat} {k : Nat} {sp : Sp} (D : PropX K C q m st ps pats) (c : Cls K C) (S : FnScope N ps (defScope st)) (len : ∀ vs H Q E, sp vs H Q E → vs.length = ps.length)
    (hbody : BodyX P w K mg base q st N k sp) : PropY P w K mg base (k + 1) C m sp pats := by
  obtain ⟨r, f, fd, dvs, kws, F, me, b⟩ := D.ex
  exact ⟨r, f, fd, ps, c, me, FnG.body F S len (fun cdv A outer s H vs Q E hr h => hbody f cdv A outer s H vs Q E hr h), b⟩
theorem InitX.ok {C : Addr} {cn q : Str} {st : Stmt} {N ps : List Str} {pats : List Pat} {k : Nat} {sp : Sp} (D : InitX K mg C cn q st ps pats) (S : FnScope N ps (defScope st)) (len : ∀ vs H Q E, sp vs H Q E → vs.length = ps.length)
    (hbody : BodyX P w K mg base q st N k sp) : MakX P w K mg base (k + 1) cn C sp pats := by
  obtain ⟨f, fd, dvs, kws, F, me, hm, b⟩ := D.ex
  exact ⟨f, fd, ps, me, FnG.body F S len (fun cdv A outer s H vs Q E hr h => hbody f cdv A outer s H vs Q E hr h), hm, b⟩
end
theorem cW_callN {α β : Type} {m : Rx β} {f : β → Rx α} {K : α → Prop} {E : Nat → Prop} {K2 : β → Prop} {E2 : Nat → Prop} (h : cW ((noEr m).bind f) K E) (ho : ∀ v, cW (f v) K E → K2 v) (_ : True) : cW m K2 E2 := by
  cases m with
  | ok a => exact cW_mk (ho a h)
  | er e => exact cW_bad (α := α) h
  | bad => exact cW_bad (α := α) h
section
variable {X : Cx} {k j n : Nat} {f C : Addr} {fd : FuncData} {ps ks : List Str} {g : List V → List V → List V} {sp : Sp} {x m : Str} {pos p apos : Pos} {e o : Expr} {es : List Expr} {kws : List Keyword} {ta : TE} {t tk : TA} {W : WX}
theorem run_mkX {pins : List (Addr × Obj)} {σ : L2.St} {H : Hp} {s : Shared} {Q : VK} {us ws : List Value} {vs zs : List V} (M : Mk X.K C f) (F : FnG X.prog X.w X.K X.mg X.base (L2.CX X.prog X.w) k f fd ps sp) (hr : RoomG (k + 1) X.A) (hb : Bnd X.K fd ps n ks g) (tkW : Takes X W)
    (I : Inv X pins σ H s) (r : Vals vs us) (rz : Vals zs ws) (l1 : vs.length + 1 = n) (l2 : zs.length = ks.length)
    (h : ∀ x dx, H x = none → H dx = none → dx ≠ x → sp (g (.ref x :: vs) zs) (upd (upd H dx (.own x)) x (.ins C dx [])) (fun v H2 => v = .non ∧ Q (.ref x) H2) (WE W σ)) :
    wpAny (model X.prog X.w) X.A (call (.ref C) us (ks.zip ws)) (EP X pins σ Q) X.xe s := by
  have hq := h (s.heap.objs.size + 1) s.heap.objs.size (I.hok.fresh (Nat.le_succ _)) (I.hok.fresh (Nat.le_refl _)) (Nat.ne_of_lt (Nat.lt_succ_self _))
  have I2 := Inv.made (C := C) I
  have r1 : Vals (V.ref (s.heap.objs.size + 1) :: vs) (Value.ref (s.heap.objs.size + 1) :: us) := .cons rfl r
  obtain ⟨vv, b, r2⟩ := hb.to _ (Value.ref (s.heap.objs.size + 1) :: us) ws (V.ref (s.heap.objs.size + 1) :: vs) zs I2.kIn (by rw [List.length_cons, l1]) l2 r1 rz
  refine wpAny_call (make_map (f := f) I.kIn M.makes M.init (beq_iff_eq.mp M.fn) (codeAny_mono (F.run _ X.stack _ _ ⟨Value.ref (s.heap.objs.size + 1) :: us, ks.zip ws⟩ vv _ _ (WE W σ) (hr.made C us (ks.zip ws))
    (I2.env0.make C us (ks.zip ws)) b r2 hq) fun r s' hq' => ?_))
  cases r with
  | error e => exact passAt tkW σ pins _ _ e s' I2 hq'
  | ok fl =>
    cases fl with
    | ret u =>
      obtain ⟨v, H', I3, rv, ev, q3⟩ := I2.after hq'
      subst ev
      exact ⟨rv, ⟨V.ref (s.heap.objs.size + 1), H', I3, rfl, q3⟩⟩
    | next => exact False.elim hq'
    | brk => exact False.elim hq'
    | cont => exact False.elim hq'
/-- C(e, .., k = v, ..) -/
def tMakeX (C : Addr) (n m : Nat) (sp : Sp) (g : List V → List V → List V) (W : WX) (t tk : TA) : TE := fun σ H Q => t σ H fun vs H1 => tk σ H1 fun zs H2 => vs.length + 1 = n ∧ zs.length = m ∧ ∀ x dx, H2 x = none → H2 dx = none → dx ≠ x →
  sp (g (.ref x :: vs) zs) (upd (upd H2 dx (.own x)) x (.ins C dx [])) (fun v H3 => v = .non ∧ Q (.ref x) H3) (WE W σ)
theorem vx_makeX {pats : List Pat} (c : MakX X.prog X.w X.K X.mg X.base k x C sp pats) (pt : Pat) (hpt : pt ∈ pats) (hr : RoomG j X.A) (hk : k + 1 ≤ j) (tkW : Takes X W) (hg : Gl X x) (ha : PA X (e :: es) t) (hkw : PK X kws tk)
    (hall : (backToKw pos (keywordEach kws X.env)).all (·.1.isSome) = true := by rfl) (hks : (backToKw pos (keywordEach kws X.env)).filterMap (·.1) = pt.2.1 := by rfl) (hdb : (x == ("__debug__" : Str)) = false := by decide)
    (he : starEach (e :: es) X.env = (false, eval e X.env) :: starEach es X.env := by rfl) (hpl : ((backTo pos (starEach (e :: es) X.env)).any (·.1) || (backToKw pos (keywordEach kws X.env)).any (·.1.isNone)) = false := by rfl) :
    PE X (.Call (.Name x p) (e :: es) kws pos) (tMakeX C pt.1 pt.2.1.length sp pt.2.2 W t tk) := by
  obtain ⟨f, fd, ps, M, F, hm, b⟩ := c.ex
  refine ⟨fun pins s σ H Q I h => ?_⟩
  refine wpAny_Call_Name_kw (ld_glob I hg hm ?_ hdb)
  refine PySem.W.callWith_KW (h₀ := X.base) I.ok.mod.kin M.kp hall (thn (ha.run pos pins s σ H _ I h) fun us s1 ⟨vs, H1, I1, r, q⟩ => ?_) hpl he
  refine thn (hkw.run pos pins s1 σ H1 _ I1 q) fun ws s2 ⟨zs, H2, I2, rz, l1, l2, q2⟩ => ⟨I2.kIn, ?_⟩
  rw [hks]
  exact run_mkX M F (hr.low hk) (b pt hpt) tkW I2 r rz l1 l2 q2
theorem vx_makeX0 {pats : List Pat} (c : MakX X.prog X.w X.K X.mg X.base k x C sp pats) (pt : Pat) (hpt : pt ∈ pats) (hr : RoomG j X.A) (hk : k + 1 ≤ j) (tkW : Takes X W) (hg : Gl X x) (hks : pt.2.1 = [] := by rfl)
    (hdb : (x == ("__debug__" : Str)) = false := by decide) : PE X (.Call (.Name x p) [] [] pos) (tMakeX C pt.1 pt.2.1.length sp pt.2.2 W tNil tNil) := by
  obtain ⟨f, fd, ps, M, F, hm, b⟩ := c.ex
  refine ⟨fun pins s σ H Q I h => ?_⟩
  refine wpAny_Call_Name_kw (ld_glob I hg hm ?_ hdb)
  obtain ⟨l1, l2, q2⟩ := h
  have hz := run_mkX (us := []) (ws := []) M F (hr.low hk) (b pt hpt) tkW I .nil .nil l1 l2 q2
  rw [hks] at hz
  exact PySem.W.callWith_K0 I.kIn M.kp hz
/-- o.m(e, .., k = v, ..) -/
def tMethX (C : Addr) (m : Str) (n mm : Nat) (sp : Sp) (g : List V → List V → List V) (W : WX) (ta : TE) (t tk : TA) : TE := fun σ H Q => ta σ H fun x H1 => ∃ a dx fs, x = .ref a ∧ H1 a = some (.ins C dx fs) ∧ fs.lookup m = none ∧
  t σ H1 fun vs H2 => tk σ H2 fun zs H3 => (x :: vs).length = n ∧ zs.length = mm ∧ sp (g (x :: vs) zs) H3 Q (WE W σ)
theorem vx_methX {pats : List Pat} {pl : Sem Bool} (c : MetX X.prog X.w X.K X.mg X.base k C m sp pats) (pt : Pat) (hpt : pt ∈ pats) (hr : RoomG j X.A) (hk : k ≤ j) (tkW : Takes X W) (he : PE X o ta) (ha : PA X (e :: es) t) (hkw : PK X kws tk)
    (hall : (backToKw pos (keywordEach kws X.env)).all (·.1.isSome) = true := by rfl) (hks : (backToKw pos (keywordEach kws X.env)).filterMap (·.1) = pt.2.1 := by rfl)
    (hst : starEach (e :: es) X.env = (false, eval e X.env) :: starEach es X.env := by rfl) (hpl : ((backTo pos (starEach (e :: es) X.env)).any (·.1) || (backToKw pos (keywordEach kws X.env)).any (·.1.isNone)) = false := by rfl)
    (ht : eval (.Call (.Attribute o m apos) (e :: es) kws pos) X.env = (do
      let ov ← eval o X.env
      standAt apos.atName
      let (f, first) ← holding [ov] (getMethod ov m pl)
      callWith pos f first (backTo pos (starEach (e :: es) X.env)) (backToKw pos (keywordEach kws X.env))) := by rfl) :
    PE X (.Call (.Attribute o m apos) (e :: es) kws pos) (tMethX C m pt.1 pt.2.1.length sp pt.2.2 W ta t tk) := by
  obtain ⟨f, fd, ps, hc, hm, F, b⟩ := c.ex
  refine ⟨fun pins s σ H Q I h => ?_⟩
  refine PySem.W.methodCall_KW (pl := pl) (thn (he.run pins s σ H _ I h) fun u s1 ⟨x, H1, I1, rx, a, dx, fs, ex, ea, l, q⟩ => ?_) ht
  subst ex
  obtain rfl : u = Value.ref a := rx
  refine getmeth_ok I1 ea hc hm l ?_
  refine PySem.W.callWith_KW (first := [.ref a]) (h₀ := X.base) I.ok.mod.kin hm.kp hall (thn (ha.run pos pins s1 σ H1 _ I1 q) fun us s2 ⟨vs, H2, I2, r, q2⟩ => ?_) hpl hst
  refine thn (hkw.run pos pins s2 σ H2 _ I2 q2) fun ws s3 ⟨zs, H3, I3, rz, l1, l2, q3⟩ => ⟨I3.kIn, ?_⟩
  rw [hks]
  exact run_X (us := .ref a :: us) (vs := .ref a :: vs) F (hr.low hk) (b pt hpt) tkW I3 (.cons rfl r) rz l1 l2 q3
theorem vx_methX0 {pats : List Pat} {pl : Sem Bool} (c : MetX X.prog X.w X.K X.mg X.base k C m sp pats) (pt : Pat) (hpt : pt ∈ pats) (hr : RoomG j X.A) (hk : k ≤ j) (tkW : Takes X W) (he : PE X o ta) (hks : pt.2.1 = [] := by rfl)
    (ht : eval (.Call (.Attribute o m apos) [] [] pos) X.env = (do
      let ov ← eval o X.env
      standAt apos.atName
      let (f, first) ← holding [ov] (getMethod ov m pl)
      callWith pos f first (backTo pos (starEach [] X.env)) (backToKw pos (keywordEach [] X.env))) := by rfl) :
    PE X (.Call (.Attribute o m apos) [] [] pos) (tMethX C m pt.1 pt.2.1.length sp pt.2.2 W ta tNil tNil) := by
  obtain ⟨f, fd, ps, hc, hm, F, b⟩ := c.ex
  refine ⟨fun pins s σ H Q I h => ?_⟩
  refine PySem.W.methodCall_KW (pl := pl) (thn (he.run pins s σ H _ I h) fun u s1 ⟨x, H1, I1, rx, a, dx, fs, ex, ea, l, q⟩ => ?_) ht
  subst ex
  obtain rfl : u = Value.ref a := rx
  refine getmeth_ok I1 ea hc hm l ?_
  obtain ⟨l1, l2, q3⟩ := q
  have hz := run_X (us := [.ref a]) (vs := [.ref a]) (ws := []) F (hr.low hk) (b pt hpt) tkW I1 (.cons rfl .nil) .nil l1 l2 q3
  rw [hks] at hz
  exact PySem.W.callWith_K0 (first := [.ref a]) I1.kIn hm.kp hz
theorem vx_propX {pats : List Pat} (c : PropY X.prog X.w X.K X.mg X.base k C m sp pats) (hr : RoomG j X.A) (hk : k + 1 ≤ j) (he : PE X o ta) (hab : attributeBase o m X.env (eval o X.env) = eval o X.env := by rfl) : PE X (.Attribute o m pos) (tProp C sp [] E0 ta) := by
  obtain ⟨q, f, fd, ps, cls, prop, F, bind⟩ := c.ex
  constructor
  intro pins s σ H Q I h
  refine attr_of hab (thn (he.run pins s σ H _ I h) ?_)
  rintro u s1 ⟨x, H1, I1, rx, a, dx, fs, rfl, ea, prom⟩
  cases rx
  obtain ⟨mA, O, _⟩ := ins_get I1.hok ea
  obtain ⟨od, J, _⟩ := O.look
  obtain ⟨rest, rec_⟩ := prop.rec_
  have short : [Value.ref a].length = ps.length := (F.len _ _ _ _ prom).symm ▸ rfl
  have isCls : (PySem.W.clsIn X.K C).isSome = true := by
    obtain ⟨cd, e, _⟩ := PySem.W.any_some cls.hd
    rw [e]
    rfl
  refine PySem.W.get_bind I1.kIn J (PySem.W.plainGet_of (cls.get m)).1 (PySem.W.findObj_data isCls prop.at_ prop.get prop.tak) (PySem.W.plainGet_of (cls.get m)).2 (wpAny_call (PySem.W.prop_get (s := { s1 with toks := s1.toks + 1 }) I1.kIn rec_ ?_))
  have I2 := I1.tok (s1.toks + 1)
  refine codeAny_mono (F.run X.A.in1 X.stack _ H1 ⟨[.ref a], []⟩ [.ref a] [.ref a] Q E0 (hr.low hk).one I2.env0.in1 (by simpa using bind _ [.ref a] I2.kIn (by simpa using short)) (.cons rfl .nil) prom) ?_
  intro r s2 out
  cases r with
  | error er => exact (passL (X := X.nox) pins σ H1 _ er s2 (I2.wish _) out).elim
  | ok flow =>
    cases flow with
    | ret v =>
      obtain ⟨y, H2, I3, ry, qy⟩ := I2.after out
      have given := PySem.W.handedOut_of (handed_of ry)
      show wpAny _ _ (handedOut v) _ _ s2
      rw [given]
      exact wpAny_pure ⟨y, H2, I3, ry, qy⟩
    | next => exact out.elim
    | brk => exact out.elim
    | cont => exact out.elim
end
theorem Sep.news {M : List Addr} {H0 G0 G H H' : Hp} {O : List Addr} (S : Sep M H0 G0 G H O) (e : Same H H') (L : List Addr) (hL : ∀ a ∈ L, H a = none ∧ H' a ≠ none ∧ H0 a = none) : Sep M H0 G0 G H' (L ++ O) := by
  have S2 := S.same e
  refine ⟨S2.base, S2.pm, S2.sG, S2.g0, S2.gn, fun a ha => ?_⟩
  rcases List.mem_append.mp ha with h | h
  · obtain ⟨h1, h2, h3⟩ := hL a h
    exact ⟨S.gfree h1, h2, .inr h3⟩
  · exact S2.ow a h
theorem vv_chain {r r' : R2} {ta tb tc : TE} {σ : L2.St} {H : Hp} {x y z : V} {a b : Bool} (ha : Val ta σ H x) (hb : Val tb σ H y) (hc : Val tc σ H z) (h1 : ∀ Q : VK, Q (.bl a) H → r x y H Q) (h2 : ∀ Q : VK, Q (.bl b) H → r' y z H Q) :
    Val (tChain r r' ta tb tc) σ H (.bl (a && b)) := fun Q q => ha _ (hb _ (h1 _ ⟨a, rfl, by
  cases a with
  | true =>
    rw [if_pos rfl]
    exact hc _ (h2 _ q)
  | false =>
    rw [if_neg Bool.false_ne_true]
    exact q⟩))
/-! ### constants that are tuples, lists backwards, zip -/
theorem inV_ints (x : Int) : ∀ xs : List Int, inV (V.int x) (xs.map V.int) = decide (x ∈ xs)
  | [] => by simp [inV]
  | y :: r => by
    have h := inV_ints x r
    unfold inV at h ⊢
    rw [List.map_cons, List.any_cons, h]
    by_cases c : x = y
    · subst c
      simp [eqV]
    · simp [eqV, c, Ne.symm c]
theorem flat_ints : ∀ xs : List Int, (xs.map V.int).all flatV = true
  | [] => rfl
  | _ :: r => flat_ints r
def rInI (K : PySem.W.Frag) : R2 := fun x y H Q => ∃ (i : Int) (p : Addr) (xs : List Int), x = .int i ∧ y = .ref p ∧ (SqL K H p (xs.map V.int) ∨ SqT K H p (xs.map V.int)) ∧ Q (.bl (decide (i ∈ xs))) H
def rNotInI (K : PySem.W.Frag) : R2 := fun x y H Q => ∃ (i : Int) (p : Addr) (xs : List Int), x = .int i ∧ y = .ref p ∧ (SqL K H p (xs.map V.int) ∨ SqT K H p (xs.map V.int)) ∧ Q (.bl (!decide (i ∈ xs))) H
theorem op_inI {X : Cx} {K : PySem.W.Frag} (hK : X.K = K := by rfl) : OpR X (compareOp .In) (rInI K) := by
  subst hK
  intro pins s σ H x y v u Q I rx ry h
  obtain ⟨i, p, xs, rfl, rfl, hs, q⟩ := h
  refine op_in_seq pins s σ H _ _ v u Q I rx ry ⟨p, _, rfl, hs, rfl, flat_ints xs, ?_⟩
  rw [if_neg Bool.false_ne_true, inV_ints]
  exact q
theorem op_notInI {X : Cx} {K : PySem.W.Frag} (hK : X.K = K := by rfl) : OpR X (compareOp .NotIn) (rNotInI K) := by
  subst hK
  intro pins s σ H x y v u Q I rx ry h
  obtain ⟨i, p, xs, rfl, rfl, hs, q⟩ := h
  refine op_notIn_seq pins s σ H _ _ v u Q I rx ry ⟨p, _, rfl, hs, rfl, flat_ints xs, ?_⟩
  rw [if_pos rfl, inV_ints]
  exact q
theorem pe_revLK {X : Cx} {K : PySem.W.Frag} {e : Expr} {te : TE} {k : Nat} {p1 p2 p3 pos : Pos} (he : PE X e te) (hK : X.K = K := by rfl) : PE X (.Subscript e (.Slice none none (some (.UnaryOp .USub (.Constant (.int 1) k p1) p2)) p3) pos) (tRevL K te) := hK ▸ pe_revL he
theorem rev_map {α : Type} {f : α → V} {xs : List α} {H : Hp} {p : Addr} (h : H p = some (.lst (xs.map f).reverse)) : H p = some (.lst (xs.reverse.map f)) := by
  rw [List.map_reverse]
  exact h
theorem RpAll.rev {G : Hp} : ∀ {vs : List V} {ds : List PyData}, RpAll G vs ds → RpAll G vs.reverse ds.reverse
  | _, _, .nil => .nil
  | _, _, .cons h t => by
    rw [List.reverse_cons, List.reverse_cons]
    exact (RpAll.rev t).append (.one h)
theorem rev_all {α : Type} {f : α → PyData} {xs : List α} {G : Hp} {vs : List V} (a : RpAll G vs (xs.map f)) : RpAll G vs.reverse (xs.reverse.map f) := by
  rw [List.map_reverse]
  exact a.rev
theorem pi_zipK {X : Cx} {K : PySem.W.Frag} {e e2 : Expr} {ta : TA} {p pos tpos : Pos} {elts : List Expr} {kk : Nat} (hg : Gl X "zip") (hm : X.mg "zip" = none) (ha : PA X [e, e2] ta) (hK : X.K = K := by rfl)
    (hs : starEach [e, e2] X.env = (false, eval e X.env) :: starEach [e2] X.env := by rfl) (hpl : (backTo pos (starEach [e2] X.env)).any (·.1) = false := by rfl) :
    PI X (.Tuple elts kk tpos) (.Call (.Name "zip" p) [e, e2] [] pos) (RZ.iZipA K ta) := hK ▸ RZ.pi_zipA hg hm ha hs hpl
/-- a comprehension over zip of two lists of one length -/
theorem lc_zipL {K : PySem.W.Frag} {a b : Addr} {xs ys : List V} {g : TG} {tt : TT} {te : TE} {vs : List Nat} {σ : L2.St} {H1 : Hp} {D : Addr} {Qd : Hp → Prop} (hl : xs.length = ys.length) (Pv : Nat → Hp → Prop) (h0 : Pv 0 (upd H1 D (.lst []))) (hq : ∀ i H, i ≤ xs.length → Pv i H → SqL K H a xs ∧ SqL K H b ys)
    (hs : ∀ (i : Nat) (x y : V) (T : Addr) (H : Hp), xs[i]? = some x → ys[i]? = some y → H T = none → Pv i H → g (.ref T) (wipe σ vs) (upd H T (.tup [x, y])) fun σ2 H2 => wipe σ2 vs = wipe σ vs ∧ tt σ2 H2 fun b H3 =>
      if b = true then te σ2 H3 fun y H4 => ∃ acc, H4 D = some (.lst acc) ∧ acc.length < sizeLine ∧ Pv (i + 1) (upd H4 D (.lst (acc ++ [y]))) else Pv (i + 1) H3) (hd : ∀ H, Pv xs.length H → Qd H) :
    ∃ W : Nat → Nat → Hp → Prop, (∃ m, W 0 m (upd H1 D (.lst []))) ∧ ∀ i m H, W i m H →
      ((Itz K a b).stop i H ∧ Qd H) ∨ ((Itz K a b).go i H ∧ ∃ Nx : Hp → Prop, (∀ H', Nx H' → ∃ m', m' < m ∧ W (i + 1) m' H') ∧ ∀ x H', (Itz K a b).yld i H x H' → g x (wipe σ vs) H' fun σ2 H2 => wipe σ2 vs = wipe σ vs ∧ tt σ2 H2 fun b H3 =>
        if b = true then te σ2 H3 fun y H4 => ∃ acc, H4 D = some (.lst acc) ∧ acc.length < sizeLine ∧ Nx (upd H4 D (.lst (acc ++ [y]))) else Nx H3) := by
  refine ⟨fun i m H => m = xs.length - i ∧ i ≤ xs.length ∧ Pv i H, ⟨xs.length, by simp, Nat.zero_le _, h0⟩, ?_⟩
  rintro i m H ⟨rfl, hi, p⟩
  obtain ⟨qx, qy⟩ := hq i H hi p
  by_cases hlt : i < xs.length
  · have hlt2 : i < ys.length := by omega
    refine .inr ⟨⟨xs, ys, xs[i], ys[i], qx, qy, List.getElem?_eq_getElem hlt, List.getElem?_eq_getElem hlt2⟩, Pv (i + 1), fun H' p' => ⟨xs.length - (i + 1), by omega, rfl, hlt, p'⟩, fun v H' y => ?_⟩
    obtain ⟨T, x', y', rfl, hT, rfl, f1, f2⟩ := y
    exact hs i x' y' T H (f1 xs qx) (f2 ys qy) hT p
  · have e : i = xs.length := by omega
    subst e
    exact .inl ⟨⟨xs, ys, qx, qy, Or.inl (Nat.le_refl _)⟩, hd H p⟩
theorem zip_get {α β : Type} {xs : List α} {ys : List β} {i : Nat} {x : α} {y : β} (h1 : xs[i]? = some x) (h2 : ys[i]? = some y) : (xs.zip ys)[i]? = some (x, y) := by
  rw [List.getElem?_zip_eq_some]
  exact ⟨h1, h2⟩
theorem zip_len {α β : Type} {xs : List α} {ys : List β} {n : Nat} (h : xs.length = ys.length) (e : n = xs.length) : n = (xs.zip ys).length := by
  rw [List.length_zip, ← h, Nat.min_self]
  exact e
theorem zlen {α β : Type} {vs ws : List V} {xs : List α} {ys : List β} (a : vs.length = xs.length) (b : ws.length = ys.length) (h : xs.length = ys.length) : vs.length = ws.length := by rw [a, b, h]
section
variable {t : TT} {ta tb : TE} {σ : L2.St} {H : Hp}
theorem vv_ifP {p : Prop} [Decidable p] {a b : Int} (ht : Ans t σ H (decide p)) (hx : p → Val ta σ H (.int a)) (hy : ¬ p → Val tb σ H (.int b)) : Val (tIf t ta tb) σ H (.int (if p then a else b)) := by
  by_cases h : p
  · have := vv_if (p := p) (a := a) (b := a) ht (hx h) (tb := ta) (hx h)
    intro Q q
    refine ht _ ?_
    rw [decide_eq_true h, if_pos rfl]
    rw [if_pos h] at q
    exact hx h _ q
  · intro Q q
    refine ht _ ?_
    rw [decide_eq_false h, if_neg Bool.false_ne_true]
    rw [if_neg h] at q
    exact hy h _ q
theorem vv_ifQ {c : Bool} {a b : Int} (ht : Ans t σ H c) (hx : c = true → Val ta σ H (.int a)) (hy : c = false → Val tb σ H (.int b)) : Val (tIf t ta tb) σ H (.int (if c = true then a else b)) := by
  intro Q q
  refine ht _ ?_
  cases c with
  | true =>
    rw [if_pos rfl]
    rw [if_pos rfl] at q
    exact hx rfl _ q
  | false =>
    rw [if_neg Bool.false_ne_true]
    rw [if_neg Bool.false_ne_true] at q
    exact hy rfl _ q
end
theorem kit_mk0 {K : PySem.W.Frag} {S C : Addr} (h1 : (Value.ref S == Value.ref C) = false) (h2 : PySem.W.isClsIn K C = true) (h3 : PySem.W.typeIn K (.ref C) = some (.type "type")) (h4 : PySem.W.subIn K (.ref S) (.ref C) = some false) :
    PySem.W.kitOne K (.ref S) (.ref C) = some false := by
  unfold PySem.W.isClsIn at h2
  unfold PySem.W.kitOne
  rw [if_neg (by rw [h1]; exact Bool.false_ne_true)]
  unfold PySem.W.kitCls
  simp only [h2, h3, h4, beq_self_eq_true, Bool.and_self, if_true]
theorem vv_call2 {ta tb : TE} {σ : L2.St} {H : Hp} {x y z : V} {r : List V → Hp → VK → Prop} (ha : Val ta σ H x) (hb : Val tb σ H y) (hr : ∀ Q : VK, Q z H → r [x, y] H Q) : Val (tCB r (tCons ta (tCons tb tNil))) σ H z := fun Q q => ha _ (hb _ (hr Q q))
/-! ### lists of data that the caller owns; values that are a truth value or a number -/
theorem Sep.stepnew {M : List Addr} {H0 G0 G H H' : Hp} {O : List Addr} {p : Addr} {o : HO} (S : Sep M H0 G0 G H O) {G' : Hp} (e : Same H H') (eG : Same G G') (sG : Same G' H') (hn : ∀ b, H b ≠ none → G b = none → G' b = none) (_n : H p = none) (h : H' p = some o) (g : G' p = none) (hm : H0 p = none) : Sep M H0 G0 G' H' (p :: O) := by
  have S2 := S.step e eG sG hn
  refine ⟨S2.base, S2.pm, S2.sG, S2.g0, S2.gn, fun a ha => ?_⟩
  rcases List.mem_cons.mp ha with rfl | ha
  · exact ⟨g, (fun z => by rw [z] at h; cases h), .inr hm⟩
  · exact S2.ow a ha
inductive Bi where
  | b (x : Bool)
  | n (i : Int)
deriving DecidableEq
def biV : Bi → V
  | .b x => .bl x
  | .n i => .int i
def Bi.el {α : Type} (v : Bi) (f : Bool → α) (g : Int → α) : α :=
  match v with
  | .b x => f x
  | .n i => g i
theorem cW_elb {α : Type} {x : Bool} {f : Bool → Rx α} {g : Int → Rx α} {K : α → Prop} {E : Nat → Prop} (h : cW (Bi.el (.b x) f g) K E) : cW (f x) K E := h
theorem cW_eln {α : Type} {x : Int} {f : Bool → Rx α} {g : Int → Rx α} {K : α → Prop} {E : Nat → Prop} (h : cW (Bi.el (.n x) f g) K E) : cW (g x) K E := h
theorem rp_tup4 {α β γ δ : Type} {f : α → PyData} {g : β → PyData} {h : γ → PyData} {i : δ → PyData} {H : Hp} {v : V} {x : α × β × γ × δ} (r : Rp H v (encT4 f g h i x)) : ∃ a v1 v2 v3 v4, v = .ref a ∧ H a = some (.tup [v1, v2, v3, v4]) ∧ Rp H v1 (f x.1) ∧ Rp H v2 (g x.2.1) ∧ Rp H v3 (h x.2.2.1) ∧ Rp H v4 (i x.2.2.2) := by
  unfold encT4 at r
  cases r with
  | tup h1 h2 =>
    cases h2 with
    | cons a b =>
      cases b with
      | cons b c =>
        cases c with
        | cons c d =>
          cases d with
          | cons d e =>
            cases e
            exact ⟨_, _, _, _, _, rfl, h1, a, b, c, d⟩
theorem rp_mk4 {α β γ δ : Type} {f : α → PyData} {g : β → PyData} {h : γ → PyData} {i : δ → PyData} {H : Hp} {a : Addr} {v1 v2 v3 v4 : V} {x : α} {y : β} {z : γ} {w : δ} (h1 : H a = some (.tup [v1, v2, v3, v4])) (r1 : Rp H v1 (f x)) (r2 : Rp H v2 (g y)) (r3 : Rp H v3 (h z)) (r4 : Rp H v4 (i w)) : Rp H (.ref a) (encT4 f g h i (x, y, z, w)) := .tup h1 (.cons r1 (.cons r2 (.cons r3 (.cons r4 .nil))))
theorem Sep.b0M {M : List Addr} {H0 G0 G H : Hp} {O : List Addr} (S : Sep M H0 G0 G H O) (h : ∀ a ∈ M, H a = H0 a) : Same H0 H := fun b o e => by
  by_cases z : b ∈ M
  · rw [h b z]
    exact e
  · exact S.base b o e z
section
variable {X : Cx} {k j n : Nat} {f C : Addr} {fd : FuncData} {ps ks : List Str} {g : List V → List V → List V} {sp : Sp} {x m : Str} {pos p apos : Pos} {e o : Expr} {es : List Expr} {kws : List Keyword} {ta : TE} {t tk : TA} {W : WX}
/-- keywords alone -/
theorem vx_makeXK {pats : List Pat} (c : MakX X.prog X.w X.K X.mg X.base k x C sp pats) (pt : Pat) (hpt : pt ∈ pats) (hr : RoomG j X.A) (hk : k + 1 ≤ j) (tkW : Takes X W) (hg : Gl X x) (hkw : PK X kws tk)
    (hall : (backToKw pos (keywordEach kws X.env)).all (·.1.isSome) = true := by rfl) (hks : (backToKw pos (keywordEach kws X.env)).filterMap (·.1) = pt.2.1 := by rfl) (hdb : (x == ("__debug__" : Str)) = false := by decide)
    (hpl : ((backTo pos (starEach [] X.env)).any (·.1) || (backToKw pos (keywordEach kws X.env)).any (·.1.isNone)) = false := by rfl) :
    PE X (.Call (.Name x p) [] kws pos) (tMakeX C pt.1 pt.2.1.length sp pt.2.2 W tNil tk) := by
  obtain ⟨f, fd, ps, M, F, hm, b⟩ := c.ex
  refine ⟨fun pins s σ H Q I h => ?_⟩
  refine wpAny_Call_Name_kw (ld_glob I hg hm ?_ hdb)
  refine PySem.W.callWith_KW0 (h₀ := X.base) I.ok.mod.kin M.kp hall ?_ hpl
  refine thn (hkw.run pos pins s σ H _ I h) fun ws s2 ⟨zs, H2, I2, rz, l1, l2, q2⟩ => ⟨I2.kIn, ?_⟩
  rw [hks]
  exact run_mkX (us := []) (vs := []) M F (hr.low hk) (b pt hpt) tkW I2 .nil rz l1 l2 q2
theorem vx_callXK {pats : List Pat} (c : CalX X.prog X.w X.K X.mg X.base k x sp pats) (pt : Pat) (hpt : pt ∈ pats) (hr : RoomG j X.A) (hk : k ≤ j) (tkW : Takes X W) (hg : Gl X x) (hkw : PK X kws tk)
    (hall : (backToKw pos (keywordEach kws X.env)).all (·.1.isSome) = true := by rfl) (hks : (backToKw pos (keywordEach kws X.env)).filterMap (·.1) = pt.2.1 := by rfl) (hdb : (x == ("__debug__" : Str)) = false := by decide)
    (hpl : ((backTo pos (starEach [] X.env)).any (·.1) || (backToKw pos (keywordEach kws X.env)).any (·.1.isNone)) = false := by rfl) :
    PE X (.Call (.Name x p) [] kws pos) (tCallX pt.1 pt.2.1.length sp pt.2.2 W tNil tk) := by
  obtain ⟨f, fd, ps, F, hm, kp, b⟩ := c.ex
  refine ⟨fun pins s σ H Q I h => ?_⟩
  refine wpAny_Call_Name_kw (ld_glob I hg hm ?_ hdb)
  refine PySem.W.callWith_KW0 (h₀ := X.base) I.ok.mod.kin kp hall ?_ hpl
  refine thn (hkw.run pos pins s σ H _ I h) fun ws s2 ⟨zs, H2, I2, rz, l1, l2, q2⟩ => ⟨I2.kIn, ?_⟩
  rw [hks]
  exact run_X (us := []) (vs := []) F (hr.low hk) (b pt hpt) tkW I2 .nil rz l1 l2 q2
theorem vx_methXK {pats : List Pat} {pl : Sem Bool} (c : MetX X.prog X.w X.K X.mg X.base k C m sp pats) (pt : Pat) (hpt : pt ∈ pats) (hr : RoomG j X.A) (hk : k ≤ j) (tkW : Takes X W) (he : PE X o ta) (hkw : PK X kws tk)
    (hall : (backToKw pos (keywordEach kws X.env)).all (·.1.isSome) = true := by rfl) (hks : (backToKw pos (keywordEach kws X.env)).filterMap (·.1) = pt.2.1 := by rfl)
    (hpl : ((backTo pos (starEach [] X.env)).any (·.1) || (backToKw pos (keywordEach kws X.env)).any (·.1.isNone)) = false := by rfl)
    (ht : eval (.Call (.Attribute o m apos) [] kws pos) X.env = (do
      let ov ← eval o X.env
      standAt apos.atName
      let (f, first) ← holding [ov] (getMethod ov m pl)
      callWith pos f first (backTo pos (starEach [] X.env)) (backToKw pos (keywordEach kws X.env))) := by rfl) :
    PE X (.Call (.Attribute o m apos) [] kws pos) (tMethX C m pt.1 pt.2.1.length sp pt.2.2 W ta tNil tk) := by
  obtain ⟨f, fd, ps, hc, hm, F, b⟩ := c.ex
  refine ⟨fun pins s σ H Q I h => ?_⟩
  refine PySem.W.methodCall_KW (pl := pl) (thn (he.run pins s σ H _ I h) fun u s1 ⟨x, H1, I1, rx, a, dx, fs, ex, ea, l, q⟩ => ?_) ht
  subst ex
  obtain rfl : u = Value.ref a := rx
  refine getmeth_ok I1 ea hc hm l ?_
  refine PySem.W.callWith_KW0 (first := [.ref a]) (h₀ := X.base) I.ok.mod.kin hm.kp hall ?_ hpl
  refine thn (hkw.run pos pins s1 σ H1 _ I1 q) fun ws s3 ⟨zs, H3, I3, rz, l1, l2, q3⟩ => ⟨I3.kIn, ?_⟩
  rw [hks]
  exact run_X (us := [.ref a]) (vs := [.ref a]) F (hr.low hk) (b pt hpt) tkW I3 (.cons rfl .nil) rz l1 l2 q3
end
end Vx
/-! # lists within lists that are owned as a whole -/
namespace Vx
open PySem PySem.Spec PyProof.Rows L2
inductive Kd where
  | lst
  | tup
  | ins (C dx : Addr) (ns : List Str)
def Kd.ho : Kd → List V → HO
  | .lst, vs => .lst vs
  | .tup, vs => .tup vs
  | .ins C dx ns, vs => .ins C dx (ns.zip vs)
/-- what stands in the heap as a tree: values as they are, data that stay, nodes of its own -/
inductive Dt where
  | val (v : V)
  | frz (d : PyData)
  | nod (k : Kd) (xs : List Dt)
mutual
inductive Ow (G H : Hp) : List Addr → V → Dt → Prop
  | val (v : V) : Ow G H [] v (.val v)
  | frz {v : V} {d : PyData} : Rp G v d → Ow G H [] v (.frz d)
  | nod {a : Addr} {k : Kd} {vs : List V} {ds : List Dt} {L : List Addr} : H a = some (k.ho vs) → OwAll G H L vs ds → a ∉ L → Ow G H (a :: L) (.ref a) (.nod k ds)
inductive OwAll (G H : Hp) : List Addr → List V → List Dt → Prop
  | nil : OwAll G H [] [] []
  | cons {L1 L2 : List Addr} {v : V} {vs : List V} {d : Dt} {ds : List Dt} : Ow G H L1 v d → OwAll G H L2 vs ds → (∀ b ∈ L1, b ∉ L2) → OwAll G H (L1 ++ L2) (v :: vs) (d :: ds)
end
def Keeps (L : List Addr) (H H' : Hp) : Prop := ∀ b ∈ L, ∀ o, H b = some o → H' b = some o
mutual
theorem Ow.mono {G G' H H' : Hp} (e : Same G G') : ∀ {L : List Addr} {v : V} {d : Dt}, Keeps L H H' → Ow G H L v d → Ow G' H' L v d
  | _, _, _, _, .val v => .val v
  | _, _, _, _, .frz r => .frz (r.mono e)
  | _, _, _, k, .nod h r n => .nod (k _ List.mem_cons_self _ h) (OwAll.mono e (fun b hb => k b (List.mem_cons_of_mem _ hb)) r) n
theorem OwAll.mono {G G' H H' : Hp} (e : Same G G') : ∀ {L : List Addr} {vs : List V} {ds : List Dt}, Keeps L H H' → OwAll G H L vs ds → OwAll G' H' L vs ds
  | _, _, _, _, .nil => .nil
  | _, _, _, k, .cons a r d => .cons (Ow.mono e (fun b hb => k b (List.mem_append_left _ hb)) a) (OwAll.mono e (fun b hb => k b (List.mem_append_right _ hb)) r) d
end
mutual
theorem Ow.there {G H : Hp} : ∀ {L : List Addr} {v : V} {d : Dt}, Ow G H L v d → ∀ b ∈ L, H b ≠ none
  | _, _, _, .val _, _, hb => nomatch hb
  | _, _, _, .frz _, _, hb => nomatch hb
  | _, _, _, .nod h r n, b, hb => by
    rcases List.mem_cons.mp hb with rfl | hb
    · exact some_ne h
    · exact OwAll.there r b hb
theorem OwAll.there {G H : Hp} : ∀ {L : List Addr} {vs : List V} {ds : List Dt}, OwAll G H L vs ds → ∀ b ∈ L, H b ≠ none
  | _, _, _, .nil, _, hb => nomatch hb
  | _, _, _, .cons a r d, b, hb => by
    rcases List.mem_append.mp hb with hb | hb
    · exact Ow.there a b hb
    · exact OwAll.there r b hb
end
theorem OwAll.len {G H : Hp} : ∀ {L : List Addr} {vs : List V} {ds : List Dt}, OwAll G H L vs ds → vs.length = ds.length
  | _, _, _, .nil => rfl
  | _, _, _, .cons _ r _ => congrArg Nat.succ r.len
theorem OwAll.snoc {G H : Hp} {L1 : List Addr} {v : V} {d : Dt} (h : Ow G H L1 v d) : ∀ {L : List Addr} {vs : List V} {ds : List Dt}, OwAll G H L vs ds → (∀ b ∈ L, b ∉ L1) → OwAll G H (L ++ L1) (vs ++ [v]) (ds ++ [d])
  | _, _, _, .nil, _ => by
    have z : OwAll G H (L1 ++ []) [v] [d] := .cons h .nil (fun _ _ z => nomatch z)
    rw [List.append_nil] at z
    exact z
  | _, _, _, .cons (L1 := La) (L2 := Lb) a r n, k => by
    have z := OwAll.cons a (OwAll.snoc h r fun b hb => k b (List.mem_append_right _ hb)) (fun b hb q => by
      rcases List.mem_append.mp q with q | q
      · exact n b hb q
      · exact k b (List.mem_append_left _ hb) q)
    rw [← List.append_assoc] at z
    exact z
theorem OwAll.app {G H : Hp} {L2 : List Addr} {ws : List V} {es : List Dt} (h : OwAll G H L2 ws es) : ∀ {L : List Addr} {vs : List V} {ds : List Dt}, OwAll G H L vs ds → (∀ b ∈ L, b ∉ L2) → OwAll G H (L ++ L2) (vs ++ ws) (ds ++ es)
  | _, _, _, .nil, _ => h
  | _, _, _, .cons (L1 := La) (L2 := Lb) a r n, k => by
    have z := OwAll.cons a (OwAll.app h r fun b hb => k b (List.mem_append_right _ hb)) (fun b hb q => by
      rcases List.mem_append.mp q with q | q
      · exact n b hb q
      · exact k b (List.mem_append_left _ hb) q)
    rw [← List.append_assoc] at z
    exact z
/-! ### trees that are data -/
mutual
inductive Dd : Dt → PyData → Prop
  | non : Dd (.val .non) .none
  | bl (b : Bool) : Dd (.val (.bl b)) (.bool b)
  | int (i : Int) : Dd (.val (.int i)) (.int i)
  | str (x : Str) : Dd (.val (.str x)) (.str x)
  | frz (d : PyData) : Dd (.frz d) d
  | lst {xs : List Dt} {ds : List PyData} : DdAll xs ds → Dd (.nod .lst xs) (.list ds)
  | tup {xs : List Dt} {ds : List PyData} : DdAll xs ds → Dd (.nod .tup xs) (.tuple ds)
inductive DdAll : List Dt → List PyData → Prop
  | nil : DdAll [] []
  | cons {x : Dt} {xs : List Dt} {d : PyData} {ds : List PyData} : Dd x d → DdAll xs ds → DdAll (x :: xs) (d :: ds)
end
mutual
/-- read in any heap that holds its nodes -/
theorem Ow.rp {G H I : Hp} (e : Same G I) : ∀ {L : List Addr} {v : V} {d : Dt} {p : PyData}, Keeps L H I → Ow G H L v d → Dd d p → Rp I v p
  | _, _, _, _, _, .val _, .non => .non
  | _, _, _, _, _, .val _, .bl b => .bl b
  | _, _, _, _, _, .val _, .int i => .int i
  | _, _, _, _, _, .val _, .str x => .str x
  | _, _, _, _, _, .frz r, .frz _ => r.mono e
  | _, _, _, _, k, .nod h r _, .lst q => .lst (k _ List.mem_cons_self _ h) (OwAll.rp e (fun b hb => k b (List.mem_cons_of_mem _ hb)) r q)
  | _, _, _, _, k, .nod h r _, .tup q => .tup (k _ List.mem_cons_self _ h) (OwAll.rp e (fun b hb => k b (List.mem_cons_of_mem _ hb)) r q)
theorem OwAll.rp {G H I : Hp} (e : Same G I) : ∀ {L : List Addr} {vs : List V} {ds : List Dt} {ps : List PyData}, Keeps L H I → OwAll G H L vs ds → DdAll ds ps → RpAll I vs ps
  | _, _, _, _, _, .nil, .nil => .nil
  | _, _, _, _, k, .cons a r _, .cons x xs => .cons (Ow.rp e (fun b hb => k b (List.mem_append_left _ hb)) a x) (OwAll.rp e (fun b hb => k b (List.mem_append_right _ hb)) r xs)
end
def oI (i : Int) : Dt := .val (.int i)
def oB (b : Bool) : Dt := .val (.bl b)
def oF {α : Type} (f : α → PyData) (x : α) : Dt := .frz (f x)
def oL {α : Type} (f : α → Dt) (xs : List α) : Dt := .nod .lst (xs.map f)
def EncO {α : Type} (f : α → Dt) (g : α → PyData) : Prop := ∀ x, Dd (f x) (g x)
theorem encO_I : EncO oI PyData.int := fun i => .int i
theorem encO_B : EncO oB PyData.bool := fun i => .bl i
theorem encO_F {α : Type} {f : α → PyData} : EncO (oF f) f := fun _ => .frz _
theorem EncO.all {α : Type} {f : α → Dt} {g : α → PyData} (h : EncO f g) : ∀ xs : List α, DdAll (xs.map f) (xs.map g)
  | [] => .nil
  | x :: xs => .cons (h x) (EncO.all h xs)
theorem encO_L {α : Type} {f : α → Dt} {g : α → PyData} (h : EncO f g) : EncO (oL f) (encL g) := fun xs => .lst (h.all xs)
theorem keeps_same {L : List Addr} {H H' : Hp} (e : Same H H') : Keeps L H H' := fun b _ o q => e b o q
theorem keeps_refl {L : List Addr} {H : Hp} : Keeps L H H := fun _ _ _ q => q
theorem keeps_mut {L : List Addr} {H H' : Hp} {m : Addr} (x : SameX m H H') (n : ∀ b ∈ L, b ≠ m) : Keeps L H H' := fun b hb o q => x b o q (n b hb)
theorem keeps_muts {L M : List Addr} {H H' : Hp} (x : SameXs M H H') (n : ∀ b ∈ L, b ∉ M) : Keeps L H H' := fun b hb o q => x b o q (n b hb)
theorem keeps_hide {L M : List Addr} {H : Hp} (n : ∀ b ∈ L, b ∉ M) : Keeps L H (hideL M H) := fun b hb o q => by
  rw [hideL_out (n b hb)]
  exact q
section
variable {α : Type} {f : α → Dt} {g : α → PyData} {G H I : Hp} {L : List Addr} {vs : List V} {xs : List α}
theorem OwAll.rpA (w : OwAll G H L vs (xs.map f)) (h : EncO f g) (e : Same G H) : RpAll H vs (xs.map g) := OwAll.rp e keeps_refl w (h.all xs)
theorem OwAll.rpH (w : OwAll G H L vs (xs.map f)) (h : EncO f g) (e : Same G I) (k : Keeps L H I) : RpAll I vs (xs.map g) := OwAll.rp e k w (h.all xs)
theorem OwAll.lenM (w : OwAll G H L vs (xs.map f)) : vs.length = xs.length := by rw [w.len, List.length_map]
theorem OwAll.snocM {L1 : List Addr} {v : V} {y : α} (w : OwAll G H L vs (xs.map f)) (h : Ow G H L1 v (f y)) (n : ∀ b ∈ L, b ∉ L1) : OwAll G H (L ++ L1) (vs ++ [v]) ((xs ++ [y]).map f) := by
  rw [List.map_append]
  exact OwAll.snoc h w n
theorem Ow.ints {a : Addr} {ys : List Int} (h : H a = some (.lst (ys.map V.int))) : Ow G H [a] (.ref a) (oL oI ys) := by
  have z : ∀ ys : List Int, OwAll G H [] (ys.map V.int) (ys.map oI) := fun ys => by
    induction ys with
    | nil => exact .nil
    | cons y r ih => exact .cons (L1 := []) (L2 := []) (.val _) ih (fun _ z => nomatch z)
  exact .nod (k := .lst) h (z ys) (fun z => nomatch z)
theorem Ow.list {a : Addr} {xs : List α} {L : List Addr} {vs : List V} (h : H a = some (.lst vs)) (w : OwAll G H L vs (xs.map f)) (n : ∀ b ∈ L, b ≠ a) : Ow G H (a :: L) (.ref a) (oL f xs) := .nod (k := .lst) h w (fun z => n a z rfl)
theorem Ow.toList {v : V} {L : List Addr} {xs : List α} (w : Ow G H L v (oL f xs)) : ∃ a vs L', v = .ref a ∧ L = a :: L' ∧ H a = some (.lst vs) ∧ OwAll G H L' vs (xs.map f) ∧ ∀ b ∈ L', b ≠ a := by
  unfold oL at w
  cases w with
  | nod h r n => exact ⟨_, _, _, rfl, rfl, h, r, fun b hb z => n (z ▸ hb)⟩
theorem OwAll.toInts : ∀ {L : List Addr} {vs : List V} {xs : List Int}, OwAll G H L vs (xs.map oI) → L = [] ∧ vs = xs.map V.int
  | _, _, [], .nil => ⟨rfl, rfl⟩
  | _, _, x :: xs, .cons a r _ => by
    obtain ⟨h1, h2⟩ := OwAll.toInts r
    cases a
    exact ⟨by rw [h1] <;> rfl, by rw [h2] <;> rfl⟩
theorem Ow.toInts {v : V} {L : List Addr} {xs : List Int} (w : Ow G H L v (oL oI xs)) : ∃ a, v = .ref a ∧ L = [a] ∧ H a = some (.lst (xs.map V.int)) := by
  obtain ⟨a, vs, L', rfl, rfl, h, r, _⟩ := w.toList
  obtain ⟨rfl, rfl⟩ := r.toInts
  exact ⟨a, rfl, rfl, h⟩
/-- the part at a place, and how a change of it alone changes the whole -/
theorem OwAll.part : ∀ {L : List Addr} {vs : List V} {ds : List Dt} {i : Nat} {d : Dt}, OwAll G H L vs ds → ds[i]? = some d → ∃ v L1, vs[i]? = some v ∧ Ow G H L1 v d ∧ (∀ b ∈ L1, b ∈ L) ∧
    ∀ H' d', (∀ b ∈ L, b ∉ L1 → ∀ o, H b = some o → H' b = some o) → Ow G H' L1 v d' → OwAll G H' L vs (ds.set i d')
  | _, _, _, _, _, .nil, h => by simp at h
  | _, _, _, 0, _, .cons (L1 := La) (L2 := Lb) a r n, h => by
    simp at h
    subst h
    refine ⟨_, La, rfl, a, fun b hb => List.mem_append_left _ hb, fun H' d' k w => ?_⟩
    exact .cons w (OwAll.mono (Same.refl G) (fun b hb => k b (List.mem_append_right _ hb) fun z => n b z hb) r) n
  | _, _, _, i + 1, _, .cons (L1 := La) (L2 := Lb) a r n, h => by
    obtain ⟨v, L1, h1, h2, h3, h4⟩ := OwAll.part (i := i) r (by simpa using h)
    refine ⟨v, L1, by simpa using h1, h2, fun b hb => List.mem_append_right _ (h3 b hb), fun H' d' k w => ?_⟩
    refine .cons (Ow.mono (Same.refl G) (fun b hb => k b (List.mem_append_left _ hb) fun z => n b hb (h3 b z)) a) (h4 H' d' (fun b hb nb => k b (List.mem_append_right _ hb) nb) w) n
/-- the same, where the part grows: its new footprint is the old one and what is new -/
theorem OwAll.part2 : ∀ {L : List Addr} {vs : List V} {ds : List Dt} {i : Nat} {d : Dt}, OwAll G H L vs ds → ds[i]? = some d → ∃ v L1, vs[i]? = some v ∧ Ow G H L1 v d ∧ (∀ b ∈ L1, b ∈ L) ∧
    (∀ H' d', (∀ b ∈ L, b ∉ L1 → ∀ o, H b = some o → H' b = some o) → Ow G H' L1 v d' → OwAll G H' L vs (ds.set i d')) ∧
    ∀ H' d' Fv L1', (∀ b ∈ L, b ∉ L1 → ∀ o, H b = some o → H' b = some o) → (∀ b ∈ L1', b ∈ L1 ++ Fv) → (∀ b ∈ Fv, b ∉ L) → Ow G H' L1' v d' → ∃ L', (∀ b ∈ L', b ∈ L ++ Fv) ∧ OwAll G H' L' vs (ds.set i d')
  | _, _, _, _, _, .nil, h => by simp at h
  | _, _, _, 0, _, .cons (L1 := La) (L2 := Lb) a r n, h => by
    simp at h
    subst h
    refine ⟨_, La, rfl, a, fun b hb => List.mem_append_left _ hb, fun H' d' k w => ?_, fun H' d' Fv L1' k s nf w => ⟨L1' ++ Lb, fun b hb => ?_, ?_⟩⟩
    · exact .cons w (OwAll.mono (Same.refl G) (fun b hb => k b (List.mem_append_right _ hb) fun z => n b z hb) r) n
    · rcases List.mem_append.mp hb with hb | hb
      · rcases List.mem_append.mp (s b hb) with q | q
        · exact List.mem_append_left _ (List.mem_append_left _ q)
        · exact List.mem_append_right _ q
      · exact List.mem_append_left _ (List.mem_append_right _ hb)
    · refine .cons w (OwAll.mono (Same.refl G) (fun b hb => k b (List.mem_append_right _ hb) fun z => n b z hb) r) fun b hb q => ?_
      rcases List.mem_append.mp (s b hb) with z | z
      · exact n b z q
      · exact nf b z (List.mem_append_right _ q)
  | _, _, _, i + 1, _, .cons (L1 := La) (L2 := Lb) a r n, h => by
    obtain ⟨v, L1, h1, h2, h3, h4, h5⟩ := OwAll.part2 (i := i) r (by simpa using h)
    refine ⟨v, L1, by simpa using h1, h2, fun b hb => List.mem_append_right _ (h3 b hb), fun H' d' k w => ?_, fun H' d' Fv L1' k s nf w => ?_⟩
    · refine .cons (Ow.mono (Same.refl G) (fun b hb => k b (List.mem_append_left _ hb) fun z => n b hb (h3 b z)) a) (h4 H' d' (fun b hb nb => k b (List.mem_append_right _ hb) nb) w) n
    · obtain ⟨L', s2, z⟩ := h5 H' d' Fv L1' (fun b hb nb => k b (List.mem_append_right _ hb) nb) s (fun b hb q => nf b hb (List.mem_append_right _ q)) w
      refine ⟨La ++ L', fun b hb => ?_, .cons (Ow.mono (Same.refl G) (fun b hb => k b (List.mem_append_left _ hb) fun z => n b hb (h3 b z)) a) z fun b hb q => ?_⟩
      · rcases List.mem_append.mp hb with hb | hb
        · exact List.mem_append_left _ (List.mem_append_left _ hb)
        · rcases List.mem_append.mp (s2 b hb) with q | q
          · exact List.mem_append_left _ (List.mem_append_right _ q)
          · exact List.mem_append_right _ q
      · rcases List.mem_append.mp (s2 b q) with y | y
        · exact n b hb y
        · exact nf b y (List.mem_append_left _ hb)
theorem OwAll.partM [Inhabited α] {k : Int} (w : OwAll G H L vs (xs.map f)) (h : -(xs.length : Int) ≤ k ∧ k < xs.length) : ∃ v L1, atI vs k = some v ∧ Ow G H L1 v (f (itD xs k)) ∧ (∀ b ∈ L1, b ∈ L) ∧
    (∀ H' y, (∀ b ∈ L, b ∉ L1 → ∀ o, H b = some o → H' b = some o) → Ow G H' L1 v (f y) → OwAll G H' L vs ((setL xs k y).map f)) ∧
    ∀ H' y Fv L1', (∀ b ∈ L, b ∉ L1 → ∀ o, H b = some o → H' b = some o) → (∀ b ∈ L1', b ∈ L1 ++ Fv) → (∀ b ∈ Fv, b ∉ L) → Ow G H' L1' v (f y) → ∃ L', (∀ b ∈ L', b ∈ L ++ Fv) ∧ OwAll G H' L' vs ((setL xs k y).map f) := by
  obtain ⟨j, e, hj⟩ := ixN_some h
  have hx := List.getElem?_eq_getElem hj
  obtain ⟨v, L1, h1, h2, h3, h4, h5⟩ := OwAll.part2 (i := j) (d := f xs[j]) w (by rw [List.getElem?_map, hx] <;> rfl)
  have ei : itD xs k = xs[j] := by
    unfold itD atI
    rw [e]
    show (xs[j]?).getD default = _
    rw [hx] <;> rfl
  refine ⟨v, L1, ?_, by rw [ei]; exact h2, h3, fun H' y q w2 => ?_, fun H' y Fv L1' q s nf w2 => ?_⟩
  · unfold atI
    rw [w.lenM, e]
    exact h1
  · have z := h4 H' (f y) q w2
    unfold setL
    rw [e, List.map_set]
    exact z
  · obtain ⟨L', s2, z⟩ := h5 H' (f y) Fv L1' q s nf w2
    refine ⟨L', s2, ?_⟩
    unfold setL
    rw [e, List.map_set]
    exact z
theorem grow_keeps {L L1 : List Addr} {m : Addr} {H H1 H2 : Hp} (e : Same H H1) (x : SameX m H1 H2) (hm : m ∈ L1) : ∀ b ∈ L, b ∉ L1 → ∀ o, H b = some o → H2 b = some o := fun b _ n o q => x b o (e b o q) (fun z => n (z ▸ hm))
theorem grow_sub {a : Addr} {L' Lr Fv : List Addr} (h : ∀ b ∈ L', b ∈ Lr ++ Fv) : ∀ b ∈ a :: L', b ∈ (a :: Lr) ++ Fv := fun b hb => by
  rcases List.mem_cons.mp hb with rfl | hb
  · exact List.mem_cons_self
  · exact List.mem_cons_of_mem _ (h b hb)
/-- the item of a turn -/
theorem OwAll.turn {i : Nat} {v : V} (w : OwAll G H L vs (xs.map f)) (h : vs[i]? = some v) : ∃ x L1, xs[i]? = some x ∧ Ow G H L1 v (f x) ∧ ∀ b ∈ L1, b ∈ L := by
  have hl := get_len h
  have e := w.lenM
  have hx := List.getElem?_eq_getElem (show i < xs.length by omega)
  obtain ⟨v2, L1, h1, h2, h3, _⟩ := OwAll.part (i := i) (d := f xs[i]) w (by rw [List.getElem?_map, hx] <;> rfl)
  rw [h] at h1
  cases h1
  exact ⟨_, L1, hx, h2, h3⟩
end
/-! ### what is owned, in pieces -/
theorem all_app {P : Addr → Prop} {L l : List Addr} (h : ∀ x ∈ L, P x) (t : ∀ x ∈ l, P x) : ∀ x ∈ L ++ l, P x := fun x hx => by
  rcases List.mem_append.mp hx with q | q
  · exact h x q
  · exact t x q
theorem nm_nil {a : Addr} : a ∉ ([] : List Addr) := fun z => nomatch z
theorem nm_cons {a m : Addr} {l : List Addr} (h : a ≠ m) (t : a ∉ l) : a ∉ m :: l := fun z => by
  rcases List.mem_cons.mp z with q | q
  · exact h q
  · exact t q
theorem nm_app {a : Addr} {L l : List Addr} (h : a ∉ L) (t : a ∉ l) : a ∉ L ++ l := fun z => by
  rcases List.mem_append.mp z with q | q
  · exact h q
  · exact t q
theorem there_ne {H : Hp} {L : List Addr} {x : Addr} (t : ∀ b ∈ L, H b ≠ none) (n : H x = none) : ∀ b ∈ L, b ≠ x := fun b hb z => t b hb (z ▸ n)
theorem new_ne {H : Hp} {L : List Addr} {x : Addr} {o : HO} (n : ∀ b ∈ L, H b = none) (h : H x = some o) : ∀ b ∈ L, b ≠ x := fun b hb z => by
  have := n b hb
  rw [z, h] at this
  cases this
theorem new_nl {H : Hp} {L L2 : List Addr} (n : ∀ b ∈ L, H b = none) (t : ∀ b ∈ L2, H b ≠ none) : ∀ b ∈ L, b ∉ L2 := fun b hb z => t b z (n b hb)
theorem nl_symm {L L2 : List Addr} (h : ∀ b ∈ L, b ∉ L2) : ∀ b ∈ L2, b ∉ L := fun b hb z => h b z hb
theorem none_of_same {H H' : Hp} {x : Addr} (e : Same H H') (n : H' x = none) : H x = none := by
  cases q : H x with
  | none => rfl
  | some o =>
    rw [e x o q] at n
    cases n
section
variable {M : List Addr} {H0 G0 G H H' : Hp} {O L : List Addr} {p m : Addr} {o : HO}
theorem Sep.h0 (S : Sep M H0 G0 G H O) {b : Addr} (hb : b ∈ O) (hM : b ∉ M) : H0 b = none := (S.ow b hb).2.2.elim (fun z => (hM z).elim) id
theorem g_nl {a : Addr} {o : HO} (h : G a = some o) (S : Sep M H0 G0 G H O) (hL : ∀ b ∈ L, b ∈ O) : ∀ b ∈ L, b ≠ a := fun b hb => (g_ne h S (hL b hb)).symm
theorem b_nl {a : Addr} {o : HO} (h : (hideL M H0) a = some o) (S : Sep M H0 G0 G H O) (hL : ∀ b ∈ L, b ∈ O) : ∀ b ∈ L, b ≠ a := fun b hb => (b_ne h S (hL b hb)).symm
/-- a whole tree that is to stay as it is -/
theorem Sep.freezeL (S : Sep M H0 G0 G H O) {O' : List Addr} (hL : ∀ b ∈ L, b ∈ O) (h0 : ∀ b ∈ L, H0 b = none) (hO : ∀ b ∈ O', b ∈ O ∧ b ∉ L) : ∃ G', Same G G' ∧ Keeps L H G' ∧ Sep M H0 G0 G' H O' := by
  have gn : ∀ b ∈ L, G b = none := fun b hb => (S.ow b (hL b hb)).1
  refine ⟨fun b => if b ∈ L then H b else G b, fun b u q => ?_, fun b hb u q => ?_, S.base, S.pm, fun b u q => ?_, fun b u q => ?_, fun b hb gb => ?_, fun a ha => ?_⟩
  · have n : b ∉ L := fun z => by
      rw [gn b z] at q
      cases q
    show (if b ∈ L then H b else G b) = _
    rw [if_neg n]
    exact q
  · show (if b ∈ L then H b else G b) = _
    rw [if_pos hb]
    exact q
  · by_cases z : b ∈ L
    · exact (if_pos z).symm.trans q
    · exact S.sG b u ((if_neg z).symm.trans q)
  · have z : b ∉ L := fun z => by
      have := S.g0 b u q
      rw [gn b z] at this
      cases this
    show (if b ∈ L then H b else G b) = _
    rw [if_neg z]
    exact S.g0 b u q
  · have z : b ∉ L := fun z => hb (h0 b z)
    show (if b ∈ L then H b else G b) = _
    rw [if_neg z]
    exact S.gn b hb gb
  · obtain ⟨h1, h2⟩ := hO a ha
    refine ⟨?_, (S.ow a h1).2⟩
    show (if a ∈ L then H a else G a) = _
    rw [if_neg h2]
    exact (S.ow a h1).1
/-- a callee hands over a list of lists of its own making -/
theorem Sep.steptree (S : Sep M H0 G0 G H O) {G' : Hp} (e : Same H H') (eG : Same G G') (sG : Same G' H') (hn : ∀ b, H b ≠ none → G b = none → G' b = none) (L : List Addr) (hL : ∀ b ∈ L, H b = none ∧ G' b = none ∧ H' b ≠ none) : Sep M H0 G0 G' H' (L ++ O) := by
  have S2 := S.step e eG sG hn
  refine ⟨S2.base, S2.pm, S2.sG, S2.g0, S2.gn, all_app (fun b hb => ⟨(hL b hb).2.1, (hL b hb).2.2, .inr (S.free (hL b hb).1)⟩) S2.ow⟩
end
theorem Rp.list_of {α : Type} {g : α → PyData} {H : Hp} {a : Addr} {vs : List V} {xs : List α} (h : H a = some (.lst vs)) (r : RpAll H vs (xs.map g)) : Rp H (.ref a) (encL g xs) := .lst h r
/-! ### repr of data -/
mutual
def nodes : PyData → Nat
  | .list xs => 1 + nodesAll xs
  | .tuple xs => 1 + nodesAll xs
  | _ => 1
def nodesAll : List PyData → Nat
  | [] => 0
  | x :: xs => nodes x + nodesAll xs
end
mutual
def smallD : PyData → Bool
  | .none => true
  | .bool _ => true
  | .int i => decide (i.natAbs < 10 ^ 19)
  | .str x => decide ((reprText x).length ≤ 20)
  | .list xs => smallAll xs
  | .tuple xs => smallAll xs
  | _ => false
def smallAll : List PyData → Bool
  | [] => true
  | x :: xs => smallD x && smallAll xs
end
theorem piled_list (ts : List Str) : (listText ts).length ≤ piled ts + 2 := by
  cases ts with
  | nil => exact Nat.le_refl 2
  | cons t r =>
    have e : (listText (t :: r)).length = (textFrom 1 ("[" ++ ("" : String) ++ t) r).length + 1 := by
      show (textFrom 0 "[" (t :: r) ++ "]").length = _
      rw [strLen_append]
      rfl
    rw [e, textFrom_length_pos r 1 _ (by decide), piled_cons, strLen_append, strLen_append]
    have h1 : (("[" : String) : Str).length = 1 := rfl
    have h2 : (("" : String) : Str).length = 0 := rfl
    omega
theorem piled_tup (ts : List Str) : (tupleText ts).length ≤ piled ts + 3 := by
  unfold tupleText
  rw [strLen_append, strLen_append]
  have h1 : (("(" : String) : Str).length = 1 := rfl
  have h2 : (((if ts.length == 1 then ",)" else ")" : String) : Str)).length ≤ 2 := by split <;> decide
  by_cases h : ts = []
  · subst h
    exact Nat.le_of_lt (by decide)
  · have := join_length_add ts h
    omega
mutual
theorem small_shown : ∀ d : PyData, smallD d = true → d.shown.length + 4 ≤ 26 * nodes d ∧ d.showable = true ∧ d.hasDict = false
  | .none, _ => ⟨by simp only [PyData.shown, nodes]; decide, by simp [PyData.showable], by simp [PyData.hasDict]⟩
  | .bool b, _ => ⟨by cases b <;> simp only [PyData.shown, nodes] <;> decide, by simp [PyData.showable], by simp [PyData.hasDict]⟩
  | .int i, h => by
    have h : i.natAbs < 10 ^ 19 := by simpa [smallD] using h
    refine ⟨?_, ?_, by simp [PyData.hasDict]⟩
    · have := int_text_length_le10 (k := 19) (by decide) h
      simp only [PyData.shown, nodes]
      rw [PySem.ofString_length]
      omega
    · simp only [PyData.showable, decide_eq_true_eq]
      have : i.natAbs < 2 ^ 64 := by omega
      rcases Nat.eq_zero_or_pos i.natAbs with z | z
      · rw [z]
        decide
      · have := (Nat.log2_lt (by omega)).mpr this
        omega
  | .str x, h => by
    have h : (reprText x).length ≤ 20 := by simpa [smallD] using h
    refine ⟨by simp only [PyData.shown, nodes]; omega, by simp [PyData.showable], by simp [PyData.hasDict]⟩
  | .list xs, h => by
    obtain ⟨h1, h2, h3⟩ := small_shownAll xs (by simpa [smallD] using h)
    refine ⟨?_, by simpa [PyData.showable] using h2, by simpa [PyData.hasDict] using h3⟩
    have := piled_list (PyData.shownAll xs)
    simp only [PyData.shown, nodes]
    omega
  | .tuple xs, h => by
    obtain ⟨h1, h2, h3⟩ := small_shownAll xs (by simpa [smallD] using h)
    refine ⟨?_, by simpa [PyData.showable] using h2, by simpa [PyData.hasDict] using h3⟩
    have := piled_tup (PyData.shownAll xs)
    simp only [PyData.shown, nodes]
    omega
  | .dict kvs, h => by simp [smallD] at h
theorem small_shownAll : ∀ ds : List PyData, smallAll ds = true → piled (PyData.shownAll ds) ≤ 26 * nodesAll ds ∧ PyData.showableAll ds = true ∧ PyData.hasDictAll ds = false
  | [], _ => ⟨by simp [PyData.shownAll, nodesAll, piled], by simp [PyData.showableAll], by simp [PyData.hasDictAll]⟩
  | d :: ds, h => by
    have h : smallD d = true ∧ smallAll ds = true := by simpa [smallAll] using h
    obtain ⟨a1, a2, a3⟩ := small_shown d h.1
    obtain ⟨b1, b2, b3⟩ := small_shownAll ds h.2
    refine ⟨?_, by simp [PyData.showableAll, a2, b2], by simp [PyData.hasDictAll, a3, b3]⟩
    simp only [PyData.shownAll, nodesAll, piled_cons]
    omega
end
/-- data that repr may show -/
def ShowOk (d : PyData) : Prop := smallD d = true ∧ nodes d ≤ 600000 ∧ d.depth ≤ 60
instance (d : PyData) : Decidable (ShowOk d) := by unfold ShowOk; infer_instance
def rRepr : List V → Hp → VK → Prop := fun xs H Q => ∃ (a : Addr) (d : PyData), xs = [.ref a] ∧ Rp H (.ref a) d ∧ ShowOk d ∧ Q (.str d.shown) H
theorem call_reprD {X : Cx} (hg : X.A.guards = some []) (hu : X.A.units + 64 < cLine) : CallR X (.builtin "repr") rRepr := by
  intro pins s σ H xs us Q I r h
  obtain ⟨a, d, rfl, rp, ⟨ok, nd, dp⟩, q⟩ := h
  obtain ⟨h1, h2, h3⟩ := small_shown d ok
  cases r with
  | cons ra rn =>
    cases rn
    cases ra
    obtain ⟨as, reads⟩ := Dp.reads I d _ _ rp.dp rfl
    refine repr_of_reads' reads h2 (PyData.noDict_hsm h3) hg (by omega) (fun _ _ e => e) (fun h' u tk k => ⟨.str d.shown, H, I.kept k, ⟨u, rfl⟩, q⟩) ?_
    show d.shown.length ≤ 2 ^ 24
    omega
/-- small data: nodes, depth -/
def Sm (n k : Nat) (d : PyData) : Prop := smallD d = true ∧ nodes d ≤ n ∧ d.depth ≤ k
theorem Sm.imp {n k n' k' : Nat} {d : PyData} (h : Sm n k d) (a : n ≤ n') (b : k ≤ k') : Sm n' k' d := ⟨h.1, Nat.le_trans h.2.1 a, Nat.le_trans h.2.2 b⟩
theorem Sm.show {n k : Nat} {d : PyData} (h : Sm n k d) (a : n ≤ 600000 := by decide) (b : k ≤ 60 := by decide) : ShowOk d := h.imp a b
theorem sm_non : Sm 1 0 .none := ⟨by simp [smallD], by simp [nodes], by simp [PyData.depth]⟩
theorem sm_bool (b : Bool) : Sm 1 0 (.bool b) := ⟨by simp [smallD], by simp [nodes], by simp [PyData.depth]⟩
theorem sm_int {i : Int} (h : -10000000000000000000 < i ∧ i < 10000000000000000000) : Sm 1 0 (.int i) := ⟨by simp only [smallD, decide_eq_true_eq]; omega, by simp [nodes], by simp [PyData.depth]⟩
theorem sm_all {α : Type} {f : α → PyData} {n k : Nat} : ∀ {xs : List α}, (∀ x ∈ xs, Sm n k (f x)) → smallAll (xs.map f) = true ∧ nodesAll (xs.map f) ≤ xs.length * n ∧ PyData.depthAll (xs.map f) ≤ k
  | [], _ => ⟨by simp [smallAll], by simp [nodesAll], by simp [PyData.depthAll]⟩
  | x :: xs, h => by
    obtain ⟨a1, a2, a3⟩ := h x List.mem_cons_self
    obtain ⟨b1, b2, b3⟩ := sm_all fun y hy => h y (List.mem_cons_of_mem _ hy)
    refine ⟨by simp [smallAll, a1, b1], ?_, ?_⟩
    · simp only [List.map_cons, nodesAll, List.length_cons, Nat.succ_mul]
      omega
    · simp only [List.map_cons, PyData.depthAll]
      omega
theorem sm_L {α : Type} {f : α → PyData} {n k m : Nat} {xs : List α} (h : ∀ x ∈ xs, Sm n k (f x)) (hm : xs.length ≤ m) : Sm (1 + m * n) (k + 1) (encL f xs) := by
  obtain ⟨a1, a2, a3⟩ := sm_all h
  refine ⟨by simp [encL, smallD, a1], ?_, ?_⟩
  · have := Nat.mul_le_mul_right n hm
    simp only [encL, nodes]
    omega
  · simp only [encL, PyData.depth]
    omega
theorem sm_ints {xs : List Int} {m : Nat} (h : ∀ x ∈ xs, -10000000000000000000 < x ∧ x < 10000000000000000000) (hm : xs.length ≤ m) : Sm (1 + m * 1) 1 (encL PyData.int xs) := sm_L (fun x hx => sm_int (h x hx)) hm
theorem sm_T2 {α β : Type} {f : α → PyData} {g : β → PyData} {n k m j : Nat} {p : α × β} (h1 : Sm n k (f p.1)) (h2 : Sm m j (g p.2)) : Sm (1 + n + m) (max k j + 1) (encT2 f g p) := by
  obtain ⟨a1, a2, a3⟩ := h1
  obtain ⟨b1, b2, b3⟩ := h2
  refine ⟨by simp [encT2, smallD, smallAll, a1, b1], ?_, ?_⟩
  · simp only [encT2, nodes, nodesAll]
    omega
  · simp only [encT2, PyData.depth, PyData.depthAll]
    omega
theorem sm_T3 {α β γ : Type} {f : α → PyData} {g : β → PyData} {h : γ → PyData} {n k m j l i : Nat} {p : α × β × γ} (h1 : Sm n k (f p.1)) (h2 : Sm m j (g p.2.1)) (h3 : Sm l i (h p.2.2)) : Sm (1 + n + m + l) (max k (max j i) + 1) (encT3 f g h p) := by
  obtain ⟨a1, a2, a3⟩ := h1
  obtain ⟨b1, b2, b3⟩ := h2
  obtain ⟨c1, c2, c3⟩ := h3
  refine ⟨by simp [encT3, smallD, smallAll, a1, b1, c1], ?_, ?_⟩
  · simp only [encT3, nodes, nodesAll]
    omega
  · simp only [encT3, PyData.depth, PyData.depthAll]
    omega
end Vx
namespace Vx
open PySem PySem.Spec PyProof.Rows L2
theorem new_ne2 {H : Hp} {L : List Addr} {x : Addr} (n : ∀ b ∈ L, H b = none) (h : H x ≠ none) : ∀ b ∈ L, b ≠ x := fun b hb z => h (z ▸ n b hb)
theorem upd_tree {α : Type} {f : α → Dt} {G H H' : Hp} {L L1 : List Addr} {vs : List V} {xs : List α} {k : Int} {v : V} {m : Addr} {y : α} (up : ∀ H' y, (∀ b ∈ L, b ∉ L1 → ∀ o, H b = some o → H' b = some o) → Ow G H' L1 v (f y) → OwAll G H' L vs ((setL xs k y).map f)) (x : SameX m H H') (hm : m ∈ L1) (w : Ow G H' L1 v (f y)) :
    OwAll G H' L vs ((setL xs k y).map f) := up H' y (fun c _ n o q => x c o q (fun z => n (z ▸ hm))) w
theorem Ow.toFrz {α : Type} {f : α → PyData} {G H : Hp} {L : List Addr} {v : V} {x : α} (w : Ow G H L v (oF f x)) : L = [] ∧ Rp G v (f x) := by
  unfold oF at w
  cases w with
  | frz r => exact ⟨rfl, r⟩
section
variable {α : Type} {f : α → Dt} {G H : Hp} {L : List Addr} {vs : List V} {xs : List α}
theorem OwAll.pin {i : Nat} {v : V} {x : α} (w : OwAll G H L vs (xs.map f)) (h : vs[i]? = some v) (hx : xs[i]? = some x) : ∃ L1, Ow G H L1 v (f x) ∧ ∀ b ∈ L1, b ∈ L := by
  obtain ⟨y, L1, h1, h2, h3⟩ := OwAll.turn w h
  rw [hx] at h1
  cases h1
  exact ⟨L1, h2, h3⟩
theorem OwAll.pinInts {i : Nat} {b : Addr} {xs : List (List Int)} {x : List Int} (w : OwAll G H L vs (xs.map (oL oI))) (h : vs[i]? = some (.ref b)) (hx : xs[i]? = some x) : H b = some (.lst (x.map V.int)) ∧ b ∈ L := by
  obtain ⟨L1, w1, h1⟩ := OwAll.pin w h hx
  obtain ⟨c, e, rfl, h2⟩ := Ow.toInts w1
  cases e
  exact ⟨h2, h1 _ List.mem_cons_self⟩
end
end Vx
namespace Vx
open PySem PySem.Spec PyProof.Rows L2
theorem lookup_relab {c : Str → Bool} {y : Str} : ∀ l : List (Str × NameKind), (l.lookup y = some .cell ∨ l.lookup y = some .free) →
    ((l.map fun (n, k) => if (k == .free && c n) then (n, NameKind.cell) else (n, k)).lookup y = some .cell ∨ (l.map fun (n, k) => if (k == .free && c n) then (n, NameKind.cell) else (n, k)).lookup y = some .free)
  | [], h => by simp at h
  | (n, k) :: r, h => by
    rw [List.map_cons]
    dsimp only
    by_cases e : y == n
    · have hk : k = .cell ∨ k = .free := by
        rw [List.lookup_cons, e] at h
        simpa using h
      by_cases q : (k == .free && c n) = true
      · left
        rw [if_pos q, List.lookup_cons, e]
      · rw [if_neg q, List.lookup_cons, e]
        simpa using hk
    · have e : (y == n) = false := by simpa using e
      rw [List.lookup_cons, e] at h
      have ih := lookup_relab (c := c) r h
      by_cases q : (k == .free && c n) = true
      · rw [if_pos q, List.lookup_cons, e]
        exact ih
      · rw [if_neg q, List.lookup_cons, e]
        exact ih
theorem blk_relabel {N : List Str} {sc scope : Scope} {env : Env} {own : List (Str × Nat)} (h : BlkOk N sc scope own) : BlkOk N (relabel sc env) scope own := by
  refine ⟨h.kind, h.uniq, h.ix, fun y hy e => ?_, h.own⟩
  have z := lookup_relab (c := fun n => env.scope.kind == .function && env.kindOf n == some .cell) (y := y.1) sc.names (h.free y hy e)
  unfold relabel
  simpa only [Bool.and_assoc] using z
end Vx
namespace Vx
open PySem PySem.Spec PyProof.Rows L2
theorem FnG.low {P : Program} {w : World} {K : PySem.W.Frag} {mg : Str → Option Value} {base : Heap} {cx : CXT} {j k : Nat} {f : Addr} {fd : FuncData} {ps : List Str} {sp : Sp} (F : FnG P w K mg base cx j f fd ps sp) (h : j ≤ k) : FnG P w K mg base cx k f fd ps sp := ⟨F.len, fun A o s H a us vs Q E r => F.run A o s H a us vs Q E (r.low h)⟩
/-! ### a local name that holds one of several defs -/
structure HeldX (P : Program) (w : World) (K : PySem.W.Frag) (mg : Str → Option Value) (base : Heap) (k n : Nat) (f : Addr) (sp : Sp) : Prop where
  ex : ∃ (fd : FuncData) (ps : List Str), FnG P w K mg base (L2.CX P w) k f fd ps sp ∧ PySem.W.keepIn K (.ref f) = true ∧ Bnd K fd ps n [] (fun vs _ => vs)
theorem HeldX.of {P : Program} {w : World} {K : PySem.W.Frag} {mg : Str → Option Value} {base : Heap} {j k n : Nat} {x : Str} {sp : Sp} {pats : List Pat} {a : Addr} (c : CalX P w K mg base j x sp pats) (hx : mg x = some (.ref a)) (hp : (n, [], fun vs _ => vs) ∈ pats) (hj : j ≤ k) : HeldX P w K mg base k n a sp := by
  obtain ⟨f, fd, ps, F, hm, kp, b⟩ := c.ex
  rw [hx] at hm
  injection hm with hm
  injection hm with hm
  subst hm
  exact ⟨fd, ps, F.low hj, kp, b _ hp⟩
def tCallF (i n : Nat) (L : List (Addr × Sp)) (W : WX) (t : TA) : TE := fun σ H Q => ∃ f sp, σ[i]? = some (some (.ref f)) ∧ (f, sp) ∈ L ∧ t σ H fun vs H1 => vs.length = n ∧ ([] : List V).length = 0 ∧ sp vs H1 Q (WE W σ)
theorem vx_callF {X : Cx} {k j i n : Nat} {x : Str} {p pos : Pos} {e : Expr} {es : List Expr} {t : TA} {W : WX} (L : List (Addr × Sp)) (A : ∀ q ∈ L, HeldX X.prog X.w X.K X.mg X.base k n q.1 q.2) (hr : RoomG j X.A) (hk : k ≤ j) (tkW : Takes X W) (hN : X.N[i]? = some x) (hv : Vis X.env.scope x) (ha : PA X (e :: es) t)
    (hdb : (x == ("__debug__" : Str)) = false := by decide) (hcd : (x == ("__classdict__" : Str)) = false := by decide) (he : starEach (e :: es) X.env = (false, eval e X.env) :: starEach es X.env := by rfl) (hpl : (backTo pos (starEach es X.env)).any (·.1) = false := by rfl) :
    PE X (.Call (.Name x p) (e :: es) [] pos) (tCallF i n L W t) := by
  constructor
  intro pins s σ H Q I h
  obtain ⟨f, sp, slot, mem, rest⟩ := h
  obtain ⟨fd, ps, F, kp, b⟩ := (A _ mem).ex
  refine wpAny_Call_Name_kw (thn ((pe_var (pos := p) hN hv hdb hcd).run pins s σ H (fun v H1 => v = .ref f ∧ H1 = H) I ⟨.ref f, slot, rfl, rfl⟩) ?_)
  rintro u s1 ⟨v, H1, I1, r1, rfl, rfl⟩
  cases r1
  refine PySem.W.callWith_K (h₀ := X.base) I.ok.mod.kin kp (thn (ha.run pos pins s1 σ _ _ I1 rest) ?_) he hpl
  rintro us s2 ⟨vs, H2, I2, r, l1, l2, q⟩
  exact ⟨I2.kIn, run_X (us := us) (ws := []) (zs := []) F (hr.low hk) b tkW I2 r .nil l1 l2 q⟩
/-! ### the least of a list, the place of an item -/
def minL : List Int → Int
  | [] => 0
  | [x] => x
  | x :: y :: r => if x ≤ minL (y :: r) then x else minL (y :: r)
theorem minL_spec : ∀ (xs : List Int), xs ≠ [] → minL xs ∈ xs ∧ ∀ y ∈ xs, minL xs ≤ y
  | [], h => absurd rfl h
  | [x], _ => ⟨List.mem_cons_self, fun y hy => by rw [List.mem_singleton.mp hy]; exact Int.le_refl x⟩
  | x :: y :: r, _ => by
    obtain ⟨h1, h2⟩ := minL_spec (y :: r) (fun z => nomatch z)
    unfold minL
    split
    · refine ⟨List.mem_cons_self, fun z hz => ?_⟩
      rcases List.mem_cons.mp hz with rfl | hz
      · exact Int.le_refl _
      · have := h2 z hz
        omega
    · refine ⟨List.mem_cons_of_mem _ h1, fun z hz => ?_⟩
      rcases List.mem_cons.mp hz with rfl | hz
      · omega
      · exact h2 z hz
def maxL (xs : List Int) : Int := -(minL (xs.map fun x => -x))
theorem maxL_spec (xs : List Int) (h : xs ≠ []) : maxL xs ∈ xs ∧ ∀ y ∈ xs, y ≤ maxL xs := by
  obtain ⟨h1, h2⟩ := minL_spec (xs.map fun x => -x) (by simpa using h)
  obtain ⟨z, hz, e⟩ := List.mem_map.mp h1
  unfold maxL
  refine ⟨by rw [← e, Int.neg_neg]; exact hz, fun y hy => ?_⟩
  have := h2 _ (List.mem_map_of_mem hy)
  omega
section
variable {X : Cx} {K : PySem.W.Frag}
def rMinL (K : PySem.W.Frag) : List V → Hp → VK → Prop := fun vs H Q => ∃ (a : Addr) (ns : List Int), vs = [V.ref a] ∧ SqL K H a (ns.map V.int) ∧ ns ≠ [] ∧ Q (.int (minL ns)) H
def rMaxL (K : PySem.W.Frag) : List V → Hp → VK → Prop := fun vs H Q => ∃ (a : Addr) (ns : List Int), vs = [V.ref a] ∧ SqL K H a (ns.map V.int) ∧ ns ≠ [] ∧ Q (.int (maxL ns)) H
theorem cr_minL (hc : X.calm = true) (hK : X.K = K := by rfl) : CallR X (.builtin "min") (rMinL K) := by
  subst hK
  intro pins s σ H vs us Q I r h
  obtain ⟨a, ns, rfl, hs, hn, q⟩ := h
  refine cr_min hc pins s σ H _ us Q I r ⟨a, ns, rfl, hs, List.length_pos_iff.mpr hn, fun m hm hle => ?_⟩
  obtain ⟨h1, h2⟩ := minL_spec ns hn
  have e : m = minL ns := Int.le_antisymm (by have := hle _ h1; omega) (h2 m hm)
  rw [e]
  exact q
theorem cr_maxL (hc : X.calm = true) (hK : X.K = K := by rfl) : CallR X (.builtin "max") (rMaxL K) := by
  subst hK
  intro pins s σ H vs us Q I r h
  obtain ⟨a, ns, rfl, hs, hn, q⟩ := h
  refine cr_max hc pins s σ H _ us Q I r ⟨a, ns, rfl, hs, List.length_pos_iff.mpr hn, fun m hm hle => ?_⟩
  obtain ⟨h1, h2⟩ := maxL_spec ns hn
  have e : m = maxL ns := Int.le_antisymm (h2 m hm) (by have := hle _ h1; omega)
  rw [e]
  exact q
end
end Vx
namespace Vx
open PySem PySem.Spec PyProof.Rows L2
def idxL (ns : List Int) (i : Int) : Int := (ns.idxOf i : Nat)
def rIndexI (K : PySem.W.Frag) : V → List V → Hp → VK → Prop := fun x xs H Q => ∃ (a : Addr) (ns : List Int) (i : Int), x = V.ref a ∧ xs = [.int i] ∧ SqL K H a (ns.map V.int) ∧ i ∈ ns ∧ Q (.int (idxL ns i)) H
theorem mt_indexI {X : Cx} {K : PySem.W.Frag} (hK : X.K = K := by rfl) : MtR X "list.index" (rIndexI K) := by
  subst hK
  intro pins s σ H x xs v us Q I rx rxs h
  obtain ⟨a, ns, i, rfl, rfl, hs, hi, q⟩ := h
  have hl := List.idxOf_lt_length_of_mem hi
  refine mt_index pins s σ H _ _ v us Q I rx rxs ⟨a, _, .int i, ns.idxOf i, .int i, rfl, rfl, hs, rfl, flat_ints ns, ?_, by simp [eqV], fun m z hm hz => ?_, q⟩
  · rw [List.getElem?_map, List.getElem?_eq_getElem hl, List.getElem_idxOf hl] <;> rfl
  · rw [List.getElem?_map] at hz
    cases e : ns[m]? with
    | none => rw [e] at hz; cases hz
    | some y =>
      rw [e] at hz
      cases hz
      have hml : m < ns.length := by omega
      have hy : ns[m] = y := by
        rw [List.getElem?_eq_getElem hml] at e
        exact Option.some.inj e
      have := List.not_of_lt_findIdx (p := (· == i)) (xs := ns) (i := m) hm
      simp only [beq_iff_eq, hy] at this
      simp [eqV, this]
theorem cW_aftgo {σ ρ τ : Type} {s : σ} {kr : ρ → Rx τ} {k : σ → Rx τ} {K : τ → Prop} {E : Nat → Prop} (h : cW ((Lp.go s : Lp σ ρ).aft kr k) K E) : cW (k s) K E := h
end Vx
namespace Vx
open PySem PySem.Spec PyProof.Rows L2
/-! ### a truth value or a number beside a number -/
def Bi.num : Bi → Int
  | .b x => if x then 1 else 0
  | .n i => i
def Bi.dat : Bi → PyData
  | .b x => .bool x
  | .n i => .int i
section
variable {X : Cx}
def rEqBI : R2 := fun x y H Q => ∃ (b : Bi) (i : Int), x = biV b ∧ y = .int i ∧ Q (.bl (decide (b.num = i))) H
def rNeBI : R2 := fun x y H Q => ∃ (b : Bi) (i : Int), x = biV b ∧ y = .int i ∧ Q (.bl (!decide (b.num = i))) H
theorem eqv_bi (b : Bi) (i : Int) : PyData.eqv b.dat (.int i) = decide (b.num = i) := by
  cases b with
  | b x => cases x <;> (rw [Bool.eq_iff_iff]; simp [Bi.dat, Bi.num, PyData.eqv])
  | n j =>
    rw [Bool.eq_iff_iff]
    simp only [Bi.dat, Bi.num, PyData.eqv, beq_iff_eq]
    exact decide_eq_true_iff.symm
theorem dp_bi {K : PySem.W.Frag} {H : Hp} : ∀ b : Bi, Dp K H (biV b) b.dat
  | .b x => .bl x
  | .n i => .int i
theorem shaped_bi : ∀ b : Bi, SeqAt.shaped b.dat = true
  | .b x => by unfold SeqAt.shaped; simp [Bi.dat, PyData.canLay0, PyData.depth]
  | .n i => by unfold SeqAt.shaped; simp [Bi.dat, PyData.canLay0, PyData.depth]
theorem op_eqBI (hu : X.A.units + 64 < cLine) : OpR X (compareOp .Eq) rEqBI := by
  intro pins s σ H x y v u Q I rx ry h
  obtain ⟨b, i, rfl, rfl, q⟩ := h
  exact op_eqD hu pins s σ H _ _ v u Q I rx ry ⟨b.dat, .int i, dp_bi b, .int i, shaped_bi b, shaped_bi (.n i), by rw [eqv_bi]; exact q⟩
theorem op_neBI (hu : X.A.units + 64 < cLine) : OpR X (compareOp .NotEq) rNeBI := by
  intro pins s σ H x y v u Q I rx ry h
  obtain ⟨b, i, rfl, rfl, q⟩ := h
  exact op_neD hu pins s σ H _ _ v u Q I rx ry ⟨b.dat, .int i, dp_bi b, .int i, shaped_bi b, shaped_bi (.n i), by rw [eqv_bi]; exact q⟩
end
end Vx
namespace Vx
open PySem PySem.Spec PyProof.Rows L2
/-! ### == of own objects by an own __eq__ that never raises -/
section
variable {X : Cx} {k j : Nat}
def rEqX (C : Addr) (n mm : Nat) (sp : Sp) (g : List V → List V → List V) : R2 := fun x y H Q => ∃ (a b dx dy : Addr) (fs gs : List (Str × V)), x = .ref a ∧ y = .ref b ∧ H a = some (.ins C dx fs) ∧ H b = some (.ins C dy gs) ∧ 2 = n ∧ 0 = mm ∧ sp (g [x, y] []) H (fun v H' => (∃ r, v = .bl r) ∧ Q v H') E0
theorem op_eqX {C : Addr} {sp : Sp} {pats : List Pat} (c : MetX X.prog X.w X.K X.mg X.base k C "__eq__" sp pats) (pt : Pat) (hpt : pt ∈ pats) (hr : RoomG j X.A) (hk : k ≤ j) (hks : pt.2.1 = [] := by rfl) : OpR X (compareOp .Eq) (rEqX C pt.1 pt.2.1.length sp pt.2.2) := by
  intro pins s σ H x y v u Q I rx ry hq
  obtain ⟨a, b, dx, dy, fs, gs, rfl, rfl, ha, hb', l1, l2, q⟩ := hq
  obtain ⟨f, fd, ps, hc, hm, F, bb⟩ := c.ex
  cases rx
  cases ry
  obtain ⟨mA, J, _⟩ := ins_get I.hok ha
  obtain ⟨mB, J', _⟩ := ins_get I.hok hb'
  obtain ⟨od, J, _⟩ := J.look
  obtain ⟨od', J', _⟩ := J'.look
  obtain ⟨m, hF⟩ := I.fr
  have hz := run_X (us := [.ref a, .ref b]) (vs := [.ref a, .ref b]) (ws := []) (zs := []) F (hr.low hk) (bb pt hpt) (takes0 (X := X)) I (.cons rfl (.cons rfl .nil)) .nil l1 l2 q
  rw [hks] at hz
  show wpAny (model X.prog X.w) X.A (richCompare .Eq (.ref a) (.ref b)) (EP X pins σ Q) X.xe s
  refine PySem.W.cmp_K (op := .Eq) (tb := .ref C) (hr.low hk).toRoom.units0 hF I.ok.mod.kin J J'.type (by simp [PySem.W.notFirst]) hm.at_ hm.fn ?_
  refine wpAny_mono hz (fun r s' z => ?_) fun _ _ e => e
  obtain ⟨w, H', I', rw', ⟨⟨q1, rfl⟩, q2⟩⟩ := z
  cases rw'
  exact ⟨V.bl q1, H', I', rfl, q2⟩
end
end Vx
namespace Vx
open PySem PySem.Spec PyProof.Rows L2
/-! ### isinstance of the exception in hand: a built-in class, a tuple of classes -/
theorem kit_blt {K : PySem.W.Frag} {D : Addr} {T : String} {b : Bool} (h : PySem.W.subIn K (.ref D) (.type T) = some b) (h0 : PySem.W.kitMeta T = true := by decide +kernel) : PySem.W.kitOne K (.ref D) (.type T) = some b := by
  unfold PySem.W.kitOne
  rw [if_neg (show ¬ (Value.ref D == Value.type T) = true from fun z => nomatch (show false = true from z))]
  show (if PySem.W.kitMeta T = true then PySem.W.subIn K (.ref D) (.type T) else none) = some b
  rw [if_pos h0, h]
def rIsXB (K : PySem.W.Frag) (a : Addr) (cls : Value) (d : Option Addr) : List V → Hp → VK → Prop := fun xs H Q => ∃ (D : Addr) (T : String) (b : Bool), cls = .ref D ∧ d = none ∧ ExcC K D ∧ xs = [.ref a, .ty T] ∧ PySem.W.kitOne K (.ref D) (.type T) = some b ∧ Q (.bl b) H
theorem call_isXB {X : Cx} {K : PySem.W.Frag} {a : Addr} {cls : Value} {d : Option Addr} {oe : Obj} {pn : List (Addr × Obj)} (hz : Zc cls d oe) (hf : ∃ vs, oe.data = .fields vs) (hK : X.K = K := by rfl) : CallR (X.suite a ((a, oe) :: pn)) (.builtin "isinstance") (rIsXB K a cls d) := by
  subst hK
  intro pins s σ H xs us Q I r h
  obtain ⟨D, T, b, rfl, rfl, c, rfl, e, q⟩ := h
  exact call_isE c hz hf pins s σ H _ us Q I r ⟨_, _, b, rfl, fun u z => z, e, q⟩
def rIsXT (K : PySem.W.Frag) (a : Addr) (cls : Value) (d : Option Addr) : List V → Hp → VK → Prop := fun xs H Q => ∃ (D tp : Addr) (cs : List V) (ws : List Value) (b : Bool), cls = .ref D ∧ d = none ∧ ExcC K D ∧ xs = [.ref a, .ref tp] ∧ H tp = some (.tup cs) ∧ Paired ClsV cs ws ∧ PySem.W.kitAny K (.ref D) ws = some b ∧ Q (.bl b) H
theorem call_isXT {X : Cx} {K : PySem.W.Frag} {a : Addr} {cls : Value} {d : Option Addr} {oe : Obj} {pn : List (Addr × Obj)} (hz : Zc cls d oe) (hf : ∃ vs, oe.data = .fields vs) (hK : X.K = K := by rfl) : CallR (X.suite a ((a, oe) :: pn)) (.builtin "isinstance") (rIsXT K a cls d) := by
  subst hK
  intro pins s σ H xs us Q I r h
  obtain ⟨D, tp, cs, ws, b, rfl, rfl, C, rfl, hT, k, e, q⟩ := h
  cases r with
  | cons rx rr =>
    cases rr with
    | cons rt rr =>
      cases rr
      cases rx
      cases rt
      obtain ⟨hget, _⟩ := I.pin (a, oe) (List.mem_append.mpr (.inl List.mem_cons_self))
      obtain ⟨vs, hv⟩ := hf
      have J : PySem.W.InstAt s.heap a oe D none := by
        obtain ⟨oc, od, oda, osl⟩ := oe
        obtain ⟨h1, h2⟩ := hz
        dsimp only at h1 h2 hv
        subst h1 h2 hv
        exact ⟨hget, rfl, rfl, trivial⟩
      obtain ⟨_, its, rv, o, h1, h2, n, h3⟩ := (show ObjOk X.prog X.w H s.heap tp (.tup cs) from I.hok tp _ hT)
      have e3 := ClsV.all k rv
      subst e3
      obtain ⟨oc, od, dt, sl⟩ := o
      simp only at h2 h3
      subst h2 h3
      exact PySem.W.kia_tup (PySem.W.handS_kitx_exc C.hg C.hk C.hs C.hd C.ha C.hn C.ht C.hm) I.kIn J h1 e (fun z => nomatch z) fun tk => ⟨.bl b, H, I.kept (t' := tk) fun _ _ z => z, rfl, q⟩
theorem kit_self {K : PySem.W.Frag} {t : Value} (h : (t == t) = true := by simp) : PySem.W.kitOne K t t = some true := by
  unfold PySem.W.kitOne
  rw [if_pos h]
/-- what a class must say, so that isinstance asks its objects rightly -/
structure IsiC (K : PySem.W.Frag) (C : Addr) : Prop where
  ha : PySem.W.findIn K (.ref C) "__class__" = some (some (.builtin "object.__class__"))
  hn : PySem.W.specialIn K (.builtin "object.__class__") "__get__" = some (some (.builtin "getset_descriptor.__get__"))
  ht : PySem.W.takesIn K (.builtin "object.__class__") = some true
  hm : PySem.W.mroIn K C (.type "object") = some true
theorem tyX_ins {K : PySem.W.Frag} {H : Hp} {a C dx : Addr} {fs : List (Str × V)} (e : H a = some (.ins C dx fs)) (cl : Cls K C) (c : IsiC K C) : TyX K H (.ref a) (.ref C) := .base (.ins e cl c.ha c.hn c.ht c.hm)
end Vx
namespace Vx
open PySem PySem.Spec PyProof.Rows L2
theorem op_notTrue {X : Cx} : OpR X (compareOp .IsNot) (fun x y H Q => ∃ b : Bool, x = .bl b ∧ y = .bl true ∧ Q (.bl (!b)) H) := by
  intro pins s σ H x y v u Q I rx ry h
  obtain ⟨b, rfl, rfl, q⟩ := h
  cases rx
  cases ry
  show wpAny (model X.prog X.w) X.A (compareOp .IsNot (.bool b) (.bool true)) (EP X pins σ Q) X.xe s
  have e : compareOp .IsNot (.bool b) (.bool true) = pure (.bool (!b)) := by cases b <;> rfl
  rw [e]
  exact wpAny_pure ⟨.bl (!b), H, I, rfl, q⟩
end Vx
/-! # lists stored into trees -/
namespace Vx
open PySem PySem.Spec PyProof.Rows L2
section
variable {G H I : Hp} {α : Type} {f : α → Dt} {L : List Addr} {vs : List V} {xs : List α}
theorem OwAll.set {L1 : List Addr} {v : V} {d : Dt} (h : Ow G H L1 v d) : ∀ {L : List Addr} {vs : List V} {ds : List Dt} (i : Nat), i < ds.length → OwAll G H L vs ds → (∀ b ∈ L1, b ∉ L) → ∃ L', (∀ b ∈ L', b ∈ L ++ L1) ∧ OwAll G H L' (vs.set i v) (ds.set i d)
  | _, _, _, _, hi, .nil, _ => absurd hi (Nat.not_lt_zero _)
  | _, _, _, 0, _, .cons (L1 := La) (L2 := Lb) a r n, nf => by
    refine ⟨L1 ++ Lb, fun b hb => ?_, .cons h r fun b hb q => nf b hb (List.mem_append_right _ q)⟩
    rcases List.mem_append.mp hb with q | q
    · exact List.mem_append_right _ q
    · exact List.mem_append_left _ (List.mem_append_right _ q)
  | _, _, _, i + 1, hi, .cons (L1 := La) (L2 := Lb) a r n, nf => by
    obtain ⟨L', s, w⟩ := OwAll.set h i (Nat.lt_of_succ_lt_succ hi) r fun b hb q => nf b hb (List.mem_append_right _ q)
    refine ⟨La ++ L', fun b hb => ?_, .cons a w fun b hb q => ?_⟩
    · rcases List.mem_append.mp hb with q | q
      · exact List.mem_append_left _ (List.mem_append_left _ q)
      · rcases List.mem_append.mp (s b q) with z | z
        · exact List.mem_append_left _ (List.mem_append_right _ z)
        · exact List.mem_append_right _ z
    · rcases List.mem_append.mp (s b q) with z | z
      · exact n b hb z
      · exact nf b z (List.mem_append_left _ hb)
theorem ixN_len {k : Int} (e : vs.length = xs.length) (h : -(xs.length : Int) ≤ k ∧ k < xs.length) : ixN vs.length k = some ((ixN vs.length k).getD 0) := by
  rw [e]
  obtain ⟨j, hj, _⟩ := ixN_some h
  rw [hj]
  rfl
theorem OwAll.setM {k : Int} {L1 : List Addr} {v : V} {y : α} (w : OwAll G H L vs (xs.map f)) (h : -(xs.length : Int) ≤ k ∧ k < xs.length) (ow : Ow G H L1 v (f y)) (n : ∀ b ∈ L1, b ∉ L) :
    ∃ L', (∀ b ∈ L', b ∈ L ++ L1) ∧ OwAll G H L' (vs.set ((ixN vs.length k).getD 0) v) ((setL xs k y).map f) := by
  obtain ⟨j, e, hj⟩ := ixN_some h
  obtain ⟨L', s, z⟩ := OwAll.set ow j (by simpa using hj) w n
  refine ⟨L', s, ?_⟩
  unfold setL
  rw [w.lenM, e, List.map_set]
  exact z
end
theorem ne_of_len {α : Type} {xs : List α} (h : xs.length = 4 ∨ xs.length = 6 ∨ xs.length = 8) : xs ≠ [] := by
  rintro rfl
  simp at h
end Vx
namespace Vx
open PySem PySem.Spec PyProof.Rows L2
/-! ### written dicts of ints -/
inductive EI : List (Int × Int) → List DictEntry → Prop
  | nil : EI [] []
  | cons {k v : Int} {t u : Tok} {r : List (Int × Int)} {es : List DictEntry} (h : EI r es) : EI ((k, v) :: r) (⟨hashInt k, .int k t, .int v u⟩ :: es)
def lookI : List (Int × Int) → Int → Option Int
  | [], _ => none
  | (k, v) :: r, i => if i = k then some v else lookI r i
def KDI (K : PySem.W.Frag) (a : Addr) (kvs : List (Int × Int)) : Prop :=
  ∃ es n, K.lookup a = some ⟨.type "dict", none, .dict es n, #[]⟩ ∧ (a == sysModules) = false ∧ EI kvs es.toList
theorem lookI_mem {kvs : List (Int × Int)} {i : Int} : (lookI kvs i).isSome = decide (i ∈ kvs.map (·.1)) := by
  induction kvs with
  | nil => rfl
  | cons p r ih =>
    obtain ⟨k, v⟩ := p
    unfold lookI
    by_cases q : i = k
    · rw [if_pos q]; simp [q]
    · rw [if_neg q, ih]; simp [q]
theorem EI.find {i : Int} : ∀ {kvs : List (Int × Int)} {es : List DictEntry}, EI kvs es → match lookI kvs i with
    | some v => ∃ u, (es.find? fun e => keyIs (.inl i) e.key).map (·.val) = some (.int v u)
    | none => (es.find? fun e => keyIs (.inl i) e.key).map (·.val) = none
  | _, _, .nil => rfl
  | _, _, .cons (k := k) (v := v) (t := t) (u := u) (r := r) (es := es) h => by
    have ih := EI.find (i := i) h
    unfold lookI
    by_cases q : i = k
    · subst q
      rw [if_pos rfl]
      refine ⟨u, ?_⟩
      rw [List.find?_cons_of_pos (by exact keyIs_int i t)]
      rfl
    · rw [if_neg q]
      have e : ¬ (keyIs (.inl i) (Value.int k t) = true) := by
        intro z
        obtain ⟨t', e'⟩ := Value.isInt_shape (k := i) (v := Value.int k t) z
        injection e' with e1 _
        exact q e1.symm
      rw [List.find?_cons_of_neg (by exact e)]
      exact ih
theorem EI.keys {P : Program} {w : World} : ∀ {kvs : List (Int × Int)} {es : List DictEntry}, EI kvs es → ∀ e ∈ es, ∃ k, (mixKind P w).is k e.key = true ∧ e.hash = (mixKind P w).hash k
  | _, _, .nil, e, he => nomatch he
  | _, _, .cons (k := k) (t := t) h, e, he => by
    rcases List.mem_cons.mp he with rfl | he
    · exact ⟨.inl k, keyIs_int k t, rfl⟩
    · exact EI.keys h e he
section
variable {X : Cx} {K : PySem.W.Frag}
theorem KDI.map {d : Addr} {kvs : List (Int × Int)} {pins : List (Addr × Obj)} {σ : L2.St} {H : Hp} {s : Shared} (D : KDI X.K d kvs) (I : Inv X pins σ H s) : (d == sysModules) = false ∧ ∃ f, s.heap.MapOf (mixKind X.prog X.w) d f ∧ ∀ i, match lookI kvs i with
    | some v => ∃ u, f (.inl i) = some (.int v u)
    | none => f (.inl i) = none := by
  obtain ⟨es, n, hl, hd, he⟩ := D
  refine ⟨hd, fun k => findBy keyIs es k, ⟨_, es, n, I.kIn _ _ hl, ⟨rfl, rfl, rfl⟩, rfl, fun e q => EI.keys he e (Array.mem_toList_iff.mpr q), fun _ => rfl⟩, fun i => ?_⟩
  have := EI.find (i := i) he
  have e : findBy keyIs es (.inl i) = (es.toList.find? fun e => keyIs (.inl i) e.key).map (·.val) := by
    obtain ⟨l⟩ := es
    unfold findBy
    rw [List.find?_toArray]
  show match lookI kvs i with
    | some v => ∃ u, findBy keyIs es (.inl i) = some (.int v u)
    | none => findBy keyIs es (.inl i) = none
  rw [e]
  exact this
def rInDI (K : PySem.W.Frag) : R2 := fun x y H Q => ∃ (i : Int) (d : Addr) (kvs : List (Int × Int)) (ks : List Int), x = .int i ∧ y = .ref d ∧ KDI K d kvs ∧ ks = kvs.map (·.1) ∧ Q (.bl (decide (i ∈ ks))) H
def rNotInDI (K : PySem.W.Frag) : R2 := fun x y H Q => ∃ (i : Int) (d : Addr) (kvs : List (Int × Int)) (ks : List Int), x = .int i ∧ y = .ref d ∧ KDI K d kvs ∧ ks = kvs.map (·.1) ∧ Q (.bl (!decide (i ∈ ks))) H
def rIxDI (K : PySem.W.Frag) : R2 := fun x y H Q => ∃ (d : Addr) (i v : Int) (kvs : List (Int × Int)), x = .ref d ∧ y = .int i ∧ KDI K d kvs ∧ lookI kvs i = some v ∧ Q (.int v) H
theorem op_inDI (hK : X.K = K := by rfl) : OpR X (compareOp .In) (rInDI K) := by
  subst hK
  intro pins s σ H x y v u Q I rx ry h
  obtain ⟨i, d, kvs, ks, rfl, rfl, D, rfl, q⟩ := h
  rw [← lookI_mem] at q
  obtain ⟨t, rfl⟩ := rx
  cases ry
  obtain ⟨hd, f, hm, hf⟩ := D.map I
  refine wpAny_in_of (knd := mixKind X.prog X.w) (kV_is (k := .inl i) ⟨t, rfl⟩) hd hm ?_
  have e : (f (.inl i)).isSome = (lookI kvs i).isSome := by
    have := hf i
    split at this
    · next v hv => obtain ⟨u, hu⟩ := this; rw [hu, hv]; rfl
    · next hv => rw [this, hv]; rfl
  rw [e]
  exact ⟨.bl (lookI kvs i).isSome, H, I.tok _, rfl, q⟩
theorem op_notInDI (hK : X.K = K := by rfl) : OpR X (compareOp .NotIn) (rNotInDI K) := by
  subst hK
  intro pins s σ H x y v u Q I rx ry h
  obtain ⟨i, d, kvs, ks, rfl, rfl, D, rfl, q⟩ := h
  rw [← lookI_mem] at q
  obtain ⟨t, rfl⟩ := rx
  cases ry
  obtain ⟨hd, f, hm, hf⟩ := D.map I
  refine wpAny_notIn_of (knd := mixKind X.prog X.w) (kV_is (k := .inl i) ⟨t, rfl⟩) hd hm ?_
  have e : (f (.inl i)).isSome = (lookI kvs i).isSome := by
    have := hf i
    split at this
    · next v hv => obtain ⟨u, hu⟩ := this; rw [hu, hv]; rfl
    · next hv => rw [this, hv]; rfl
  rw [e]
  exact ⟨.bl (!(lookI kvs i).isSome), H, I.tok _, rfl, q⟩
theorem ix_DI (hK : X.K = K := by rfl) : IxR X (rIxDI K) := by
  subst hK
  intro value slice pins s σ H x y v u Q I rx ry h hs
  obtain ⟨p, i, r, kvs, rfl, rfl, D, e, q⟩ := h
  obtain rfl : v = Value.ref p := rx
  obtain ⟨t, rfl⟩ := ry
  obtain ⟨hd, f, hm, hf⟩ := D.map I
  have := hf i
  rw [e] at this
  obtain ⟨u, hu⟩ := this
  exact tail_any hm.typeIs slot_dict_getitem.lookup (wpAny_getItem_of (knd := mixKind X.prog X.w) (kV_is (k := .inl i) ⟨t, rfl⟩) hm hu ⟨.int r, H, I.tok _, ⟨_, rfl⟩, q⟩) hs
end
/-- the value at a key that is there -/
def dictI (kvs : List (Int × Int)) (i : Int) : Int := (lookI kvs i).getD 0
theorem lookI_at {kvs : List (Int × Int)} {i : Int} (h : i ∈ kvs.map (·.1)) : lookI kvs i = some (dictI kvs i) := by
  have := lookI_mem (kvs := kvs) (i := i)
  rw [decide_eq_true h] at this
  unfold dictI
  cases e : lookI kvs i with
  | none => rw [e] at this; cases this
  | some v => rfl
/-! ### walks over two lists, over numbered items, backwards -/
theorem pi_enumK {X : Cx} {K : PySem.W.Frag} {e : Expr} {ta : TA} {p pos tpos : Pos} {elts : List Expr} {kk : Nat} (hg : Gl X "enumerate") (hm : X.mg "enumerate" = none) (ha : PA X [e] ta) (hK : X.K = K := by rfl) (hs : starEach [e] X.env = [(false, eval e X.env)] := by rfl) :
    PI X (.Tuple elts kk tpos) (.Call (.Name "enumerate" p) [e] [] pos) (iEnum K ta) := hK ▸ pi_enum hg hm ha hs
section
variable {K : PySem.W.Frag} {a b : Addr} {xs ys : List V} {g : TG} {tb : TS} {tt : TT} {te : TE} {D : Ends} {σ : L2.St} {H H1 : Hp} {vs : List Nat} {DD : Addr} {Qd : Hp → Prop}
theorem for_enum (Pv : Nat → L2.St → Hp → Prop) (h0 : Pv 0 σ H) (hq : ∀ i σ H, Pv i σ H → SqL K H a xs)
    (hs : ∀ (i : Nat) (y : V) (T : Addr) (σ : L2.St) (H : Hp), xs[i]? = some y → H T = none → Pv i σ H → g (.ref T) σ (upd H T (.tup [.int (i : Nat), y])) fun σ2 H2 => tb { D with nx := Pv (i + 1), ct := Pv (i + 1), bk := D.nx } σ2 H2) (hd : ∀ σ H, Pv xs.length σ H → D.nx σ H) :
    ∃ W : Nat → Nat → L2.St → Hp → Prop, (∃ m, W 0 m σ H) ∧ ∀ i m σ H, W i m σ H →
      ((Ite K a).stop i H ∧ D.nx σ H) ∨ ((Ite K a).go i H ∧ ∃ N : L2.St → Hp → Prop, (∀ σ' H', N σ' H' → ∃ m', m' < m ∧ W (i + 1) m' σ' H') ∧ ∀ v H', (Ite K a).yld i H v H' → g v σ H' fun σ2 H2 => tb { D with nx := N, ct := N, bk := D.nx } σ2 H2) := by
  refine for_it walk_enum Pv h0 (fun i σ H _ p => hq i σ H p) (fun i x σ H H' hi p y => ?_) hd
  obtain ⟨T, x1, y1, rfl, hT, rfl, h1, h2⟩ := y
  cases h1
  exact hs i y1 T σ H h2 hT p
theorem lc_enum (Pv : Nat → Hp → Prop) (h0 : Pv 0 (upd H1 DD (.lst []))) (hq : ∀ i H, i ≤ xs.length → Pv i H → SqL K H a xs)
    (hs : ∀ (i : Nat) (y : V) (T : Addr) (H : Hp), xs[i]? = some y → H T = none → Pv i H → g (.ref T) (wipe σ vs) (upd H T (.tup [.int (i : Nat), y])) fun σ2 H2 => wipe σ2 vs = wipe σ vs ∧ tt σ2 H2 fun b H3 =>
      if b = true then te σ2 H3 fun y H4 => ∃ acc, H4 DD = some (.lst acc) ∧ acc.length < sizeLine ∧ Pv (i + 1) (upd H4 DD (.lst (acc ++ [y]))) else Pv (i + 1) H3) (hd : ∀ H, Pv xs.length H → Qd H) :
    ∃ W : Nat → Nat → Hp → Prop, (∃ m, W 0 m (upd H1 DD (.lst []))) ∧ ∀ i m H, W i m H →
      ((Ite K a).stop i H ∧ Qd H) ∨ ((Ite K a).go i H ∧ ∃ Nx : Hp → Prop, (∀ H', Nx H' → ∃ m', m' < m ∧ W (i + 1) m' H') ∧ ∀ x H', (Ite K a).yld i H x H' → g x (wipe σ vs) H' fun σ2 H2 => wipe σ2 vs = wipe σ vs ∧ tt σ2 H2 fun b H3 =>
        if b = true then te σ2 H3 fun y H4 => ∃ acc, H4 DD = some (.lst acc) ∧ acc.length < sizeLine ∧ Nx (upd H4 DD (.lst (acc ++ [y]))) else Nx H3) := by
  refine lc_it walk_enum Pv h0 hq (fun i x H H' hi p y => ?_) hd
  obtain ⟨T, x1, y1, rfl, hT, rfl, h1, h2⟩ := y
  cases h1
  exact hs i y1 T H h2 hT p
/-- zip of two lists of any lengths -/
theorem for_zipM (n : Nat) (hn : n = min xs.length ys.length) (Pv : Nat → L2.St → Hp → Prop) (h0 : Pv 0 σ H) (hq : ∀ i σ H, Pv i σ H → SqL K H a xs ∧ SqL K H b ys)
    (hs : ∀ (i : Nat) (x y : V) (T : Addr) (σ : L2.St) (H : Hp), xs[i]? = some x → ys[i]? = some y → H T = none → Pv i σ H → g (.ref T) σ (upd H T (.tup [x, y])) fun σ2 H2 => tb { D with nx := Pv (i + 1), ct := Pv (i + 1), bk := D.nx } σ2 H2) (hd : ∀ σ H, Pv n σ H → D.nx σ H) :
    ∃ W : Nat → Nat → L2.St → Hp → Prop, (∃ m, W 0 m σ H) ∧ ∀ i m σ H, W i m σ H →
      ((Itz K a b).stop i H ∧ D.nx σ H) ∨ ((Itz K a b).go i H ∧ ∃ N : L2.St → Hp → Prop, (∀ σ' H', N σ' H' → ∃ m', m' < m ∧ W (i + 1) m' σ' H') ∧ ∀ v H', (Itz K a b).yld i H v H' → g v σ H' fun σ2 H2 => tb { D with nx := N, ct := N, bk := D.nx } σ2 H2) := by
  refine for_it (walk_zip hn) Pv h0 (fun i σ H _ p => hq i σ H p) (fun i x σ H H' hi p y => ?_) hd
  obtain ⟨T, x1, y1, rfl, hT, rfl, h1, h2⟩ := y
  exact hs i x1 y1 T σ H h1 h2 hT p
theorem lc_zipM (n : Nat) (hn : n = min xs.length ys.length) (Pv : Nat → Hp → Prop) (h0 : Pv 0 (upd H1 DD (.lst []))) (hq : ∀ i H, i ≤ n → Pv i H → SqL K H a xs ∧ SqL K H b ys)
    (hs : ∀ (i : Nat) (x y : V) (T : Addr) (H : Hp), xs[i]? = some x → ys[i]? = some y → H T = none → Pv i H → g (.ref T) (wipe σ vs) (upd H T (.tup [x, y])) fun σ2 H2 => wipe σ2 vs = wipe σ vs ∧ tt σ2 H2 fun b H3 =>
      if b = true then te σ2 H3 fun y H4 => ∃ acc, H4 DD = some (.lst acc) ∧ acc.length < sizeLine ∧ Pv (i + 1) (upd H4 DD (.lst (acc ++ [y]))) else Pv (i + 1) H3) (hd : ∀ H, Pv n H → Qd H) :
    ∃ W : Nat → Nat → Hp → Prop, (∃ m, W 0 m (upd H1 DD (.lst []))) ∧ ∀ i m H, W i m H →
      ((Itz K a b).stop i H ∧ Qd H) ∨ ((Itz K a b).go i H ∧ ∃ Nx : Hp → Prop, (∀ H', Nx H' → ∃ m', m' < m ∧ W (i + 1) m' H') ∧ ∀ x H', (Itz K a b).yld i H x H' → g x (wipe σ vs) H' fun σ2 H2 => wipe σ2 vs = wipe σ vs ∧ tt σ2 H2 fun b H3 =>
        if b = true then te σ2 H3 fun y H4 => ∃ acc, H4 DD = some (.lst acc) ∧ acc.length < sizeLine ∧ Nx (upd H4 DD (.lst (acc ++ [y]))) else Nx H3) := by
  refine lc_it (walk_zip hn) Pv h0 hq (fun i x H H' hi p y => ?_) hd
  obtain ⟨T, x1, y1, rfl, hT, rfl, h1, h2⟩ := y
  exact hs i x1 y1 T H h1 h2 hT p
end
theorem zipM_len {α β : Type} {xs : List α} {ys : List β} : min xs.length ys.length = (xs.zip ys).length := by rw [List.length_zip]
theorem zipM_n {α β : Type} {vs ws : List V} {xs : List α} {ys : List β} (a : vs.length = xs.length) (b : ws.length = ys.length) : min xs.length ys.length = min vs.length ws.length := by rw [a, b]
def rListTK (K : PySem.W.Frag) : List V → Hp → VK → Prop := fun xs H Q => ∃ (p : Addr) (vs : List V), xs = [.ref p] ∧ SqT K H p vs ∧ ∀ l, H l = none → Q (.ref l) (upd H l (.lst vs))
theorem call_listTK {X : Cx} {K : PySem.W.Frag} (hK : X.K = K := by rfl) : CallR X (.type "list") (rListTK K) := by
  subst hK
  intro pins s σ H xs us Q I r h
  obtain ⟨p, vs, rfl, hs, q⟩ := h
  exact call_list_of pins s σ H _ us Q I r ⟨p, _, rfl, Or.inr hs, q⟩
/-- two lists that keep step -/
inductive F2 {α β : Type} (P : α → β → Prop) : List α → List β → Prop
  | nil : F2 P [] []
  | cons {a : α} {b : β} {l : List α} {m : List β} (h : P a b) (t : F2 P l m) : F2 P (a :: l) (b :: m)
theorem F2.get {α β : Type} {P : α → β → Prop} : ∀ {l : List α} {m : List β}, F2 P l m → ∀ (j : Nat), j < l.length → ∃ a b, l[j]? = some a ∧ m[j]? = some b ∧ P a b
  | _, _, .nil, j, h => absurd h (Nat.not_lt_zero _)
  | _, _, .cons h t, 0, _ => ⟨_, _, rfl, rfl, h⟩
  | _, _, .cons h t, j + 1, hj => t.get j (Nat.lt_of_succ_lt_succ hj)
theorem F2.at {α β : Type} [Inhabited α] [Inhabited β] {P : α → β → Prop} {l : List α} {m : List β} (h : F2 P l m) (k : Int) (h0 : 0 ≤ k) (h1 : k < l.length) : P (itD l k) (itD m k) := by
  obtain ⟨j, rfl⟩ : ∃ j : Nat, k = (j : Int) := ⟨k.toNat, by omega⟩
  obtain ⟨a, b, ha, hb, p⟩ := h.get j (by omega)
  have e1 : itD l (j : Int) = a := by unfold itD; rw [atI_nat ha]; rfl
  have e2 : itD m (j : Int) = b := by unfold itD; rw [atI_nat hb]; rfl
  rw [e1, e2]
  exact p
theorem SqT.cast {K : PySem.W.Frag} {H : Hp} {a : Addr} {xs ys : List V} (h : SqT K H a xs) (e : xs = ys) : SqT K H a ys := e ▸ h
/-- enumerate(xs) -/
def enumL {α : Type} (xs : List α) : List (Int × α) := (rng 0 xs.length).zip xs
theorem enumL_len {α : Type} (xs : List α) : (enumL xs).length = xs.length := by
  unfold enumL
  rw [List.length_zip, rng_len, Nat.min_self]
theorem enumL_get {α : Type} {xs : List α} {i : Nat} {x : α} (h : xs[i]? = some x) : (enumL xs)[i]? = some ((i : Int), x) := by
  have hl : i < xs.length := (List.getElem?_eq_some_iff.mp h).1
  unfold enumL
  rw [List.getElem?_zip_eq_some]
  refine ⟨?_, h⟩
  have := rng_get (lo := 0) hl
  rw [this]
  congr 1
  omega
end Vx
namespace Vx
open PySem PySem.Spec PyProof.Rows L2
theorem wipe_get : ∀ (σ : L2.St) (vs : List Nat) (j : Nat), (wipe σ vs)[j]? = if j ∈ vs ∧ j < σ.length then some none else σ[j]?
  | σ, [], j => by simp [wipe]
  | σ, v :: vs, j => by
    unfold wipe
    by_cases e : v = j
    · subst e
      by_cases h : v < σ.length
      · rw [List.getElem?_set_self (by rw [wipe_length]; exact h), if_pos ⟨List.mem_cons_self, h⟩]
      · rw [if_neg (fun z => h z.2), List.getElem?_eq_none (by rw [List.length_set, wipe_length]; omega), List.getElem?_eq_none (by omega)]
    · rw [List.getElem?_set_ne e, wipe_get σ vs j]
      have : (j ∈ v :: vs ∧ j < σ.length) ↔ (j ∈ vs ∧ j < σ.length) := by
        constructor
        · rintro ⟨h1, h2⟩
          rcases List.mem_cons.mp h1 with rfl | h1
          · exact absurd rfl e
          · exact ⟨h1, h2⟩
        · rintro ⟨h1, h2⟩
          exact ⟨List.mem_cons_of_mem _ h1, h2⟩
      by_cases q : j ∈ vs ∧ j < σ.length
      · rw [if_pos q, if_pos (this.mpr q)]
      · rw [if_neg q, if_neg (fun z => q (this.mp z))]
theorem wipe_wipe {σ : L2.St} {vs : List Nat} : wipe (wipe σ vs) vs = wipe σ vs := by
  apply List.ext_getElem?
  intro j
  rw [wipe_get (wipe σ vs), wipe_length]
  by_cases q : j ∈ vs ∧ j < σ.length
  · rw [if_pos q, wipe_get, if_pos q]
  · rw [if_neg q]
theorem wipe_set {σ : L2.St} {vs : List Nat} {v : Nat} {x : Option V} (h : v ∈ vs) : wipe (σ.set v x) vs = wipe σ vs := by
  apply List.ext_getElem?
  intro j
  rw [wipe_get, wipe_get, List.length_set]
  by_cases q : j ∈ vs ∧ j < σ.length
  · rw [if_pos q, if_pos q]
  · rw [if_neg q, if_neg q]
    by_cases e : v = j
    · subst e
      have hl : ¬ v < σ.length := fun z => q ⟨h, z⟩
      rw [List.getElem?_eq_none (by rw [List.length_set]; omega), List.getElem?_eq_none (by omega)]
    · rw [List.getElem?_set_ne e]
/-- a comprehension over a step range -/
theorem lc_rangeC {lo c : Int} {n : Nat} {g : TG} {tt : TT} {te : TE} {vs : List Nat} {σ : L2.St} {H1 : Hp} {D : Addr} {Qd : Hp → Prop} (Pv : Nat → Hp → Prop) (h0 : Pv 0 (upd H1 D (.lst [])))
    (hs : ∀ i H, i < n → Pv i H → g (.int (lo + (i : Nat) * c)) (wipe σ vs) H fun σ2 H2 => wipe σ2 vs = wipe σ vs ∧ tt σ2 H2 fun b H3 =>
      if b = true then te σ2 H3 fun y H4 => ∃ acc, H4 D = some (.lst acc) ∧ acc.length < sizeLine ∧ Pv (i + 1) (upd H4 D (.lst (acc ++ [y]))) else Pv (i + 1) H3) (hd : ∀ H, Pv n H → Qd H) :
    ∃ W : Nat → Nat → Hp → Prop, (∃ m, W 0 m (upd H1 D (.lst []))) ∧ ∀ i m H, W i m H →
      ((Itc lo c n).stop i H ∧ Qd H) ∨ ((Itc lo c n).go i H ∧ ∃ Nx : Hp → Prop, (∀ H', Nx H' → ∃ m', m' < m ∧ W (i + 1) m' H') ∧ ∀ x H', (Itc lo c n).yld i H x H' → g x (wipe σ vs) H' fun σ2 H2 => wipe σ2 vs = wipe σ vs ∧ tt σ2 H2 fun b H3 =>
        if b = true then te σ2 H3 fun y H4 => ∃ acc, H4 D = some (.lst acc) ∧ acc.length < sizeLine ∧ Nx (upd H4 D (.lst (acc ++ [y]))) else Nx H3) := by
  refine ⟨fun i m H => m = n - i ∧ i ≤ n ∧ Pv i H, ⟨n, by simp, Nat.zero_le _, h0⟩, ?_⟩
  rintro i m H ⟨rfl, hi, p⟩
  rcases Nat.lt_or_ge i n with hlt | hge
  · refine .inr ⟨hlt, Pv (i + 1), fun H' p' => ⟨n - (i + 1), by omega, rfl, hlt, p'⟩, fun x H' y => ?_⟩
    obtain ⟨e, y⟩ := y
    subst e y
    exact hs i _ hlt p
  · cases Nat.le_antisymm hi hge
    exact .inl ⟨Nat.le_refl _, hd H p⟩

end Vx
/-! # fourth part: reckoning with functions that may refuse -/
namespace Vx
open PySem PySem.Spec PyProof.Rows L2
section
variable {α β σ ρ τ : Type}
theorem bind_ok (a : α) (f : α → Rx β) : (Rx.ok a).bind f = f a := rfl
theorem bind_er (e : Nat) (f : α → Rx β) : (Rx.er e : Rx α).bind f = .er e := rfl
theorem grd_pos {p : Prop} {dp : Decidable p} {m : Rx α} (h : p) : grd p m = m := if_pos h
theorem bnd_eq (a : α) (f : α → Rx β) : bnd a f = f a := rfl
theorem noEr_ok (a : α) : noEr (.ok a : Rx α) = .ok a := rfl
theorem tryR_ok {cs : List Nat} (a : α) (f : α → Rx β) (g : Nat → Rx β) : tryR (.ok a) cs f g = f a := rfl
theorem tryR_er {cs : List Nat} {e : Nat} (h : e ∈ cs) (f : α → Rx β) (g : Nat → Rx β) : tryR (.er e) cs f g = g e := if_pos h
theorem aft_go (s : σ) (kr : ρ → Rx τ) (k : σ → Rx τ) : (Lp.go s : Lp σ ρ).aft kr k = k s := rfl
theorem aft_rt (r : ρ) (kr : ρ → Rx τ) (k : σ → Rx τ) : (Lp.rt r : Lp σ ρ).aft kr k = kr r := rfl
/-- gives a value of which P holds -/
def Gv (m : Rx α) (P : α → Prop) : Prop := ∃ v, m = .ok v ∧ P v
theorem Gv.ok {a : α} {P : α → Prop} (h : P a) : Gv (.ok a) P := ⟨a, rfl, h⟩
theorem Gv.of_eq {m : Rx α} {a : α} {P : α → Prop} (e : m = .ok a) (h : P a) : Gv m P := ⟨a, e, h⟩
theorem Gv.bind {m : Rx α} {f : α → Rx β} {P : α → Prop} {Q : β → Prop} (h : Gv m P) (k : ∀ v, P v → Gv (f v) Q) : Gv (m.bind f) Q := by
  obtain ⟨v, rfl, p⟩ := h
  exact k v p
theorem Gv.bind_eq {m : Rx α} {f : α → Rx β} {a : α} {Q : β → Prop} (h : m = .ok a) (k : Gv (f a) Q) : Gv (m.bind f) Q := by
  subst h
  exact k
theorem Gv.grd {p : Prop} {dp : Decidable p} {m : Rx α} {Q : α → Prop} (h : p) (k : Gv m Q) : Gv (Vx.grd p m) Q := by
  rw [grd_pos h]
  exact k
theorem Gv.bnd {a : α} {f : α → Rx β} {Q : β → Prop} (k : ∀ x, x = a → Gv (f x) Q) : Gv (Vx.bnd a f) Q := k a rfl
theorem Gv.ite {p : Prop} {dp : Decidable p} {a b : Rx α} {Q : α → Prop} (h1 : p → Gv a Q) (h2 : ¬ p → Gv b Q) : Gv (if p then a else b) Q := by
  split
  · exact h1 ‹_›
  · exact h2 ‹_›
theorem Gv.pos {p : Prop} {dp : Decidable p} {a b : Rx α} {Q : α → Prop} (h : p) (k : Gv a Q) : Gv (if p then a else b) Q := by rwa [if_pos h]
theorem Gv.neg {p : Prop} {dp : Decidable p} {a b : Rx α} {Q : α → Prop} (h : ¬ p) (k : Gv b Q) : Gv (if p then a else b) Q := by rwa [if_neg h]
theorem Gv.imp {m : Rx α} {P Q : α → Prop} (h : Gv m P) (k : ∀ v, P v → Q v) : Gv m Q := by
  obtain ⟨v, e, p⟩ := h
  exact ⟨v, e, k v p⟩
theorem Gv.noEr {m : Rx α} {P : α → Prop} (h : Gv m P) : Gv (Vx.noEr m) P := by
  obtain ⟨v, rfl, p⟩ := h
  exact ⟨v, rfl, p⟩
theorem Gv.tryOk {m : Rx α} {cs : List Nat} {f : α → Rx β} {g : Nat → Rx β} {P : α → Prop} {Q : β → Prop} (h : Gv m P) (k : ∀ v, P v → Gv (f v) Q) : Gv (tryR m cs f g) Q := by
  obtain ⟨v, rfl, p⟩ := h
  exact k v p
theorem Gv.tryEr {m : Rx α} {cs : List Nat} {e : Nat} {f : α → Rx β} {g : Nat → Rx β} {Q : β → Prop} (h : m = .er e) (hm : e ∈ cs) (k : Gv (g e) Q) : Gv (tryR m cs f g) Q := by
  subst h
  rw [tryR_er hm]
  exact k
theorem Gv.get {m : Rx α} {a : α} (h : Gv m (fun v => v = a)) : m = .ok a := by
  obtain ⟨v, e, rfl⟩ := h
  exact e
theorem Gv.eq {m : Rx α} {P : α → Prop} (h : Gv m P) : ∃ v, m = .ok v ∧ P v := h
/-- a loop that keeps P -/
theorem Gv.forS {P : Nat → σ → Prop} {xs : List α} {s : σ} {f : σ → α → Rx σ} (h0 : P 0 s) (hs : ∀ i x s, xs[i]? = some x → P i s → Gv (f s x) (P (i + 1))) : Gv (Vx.forS xs s f) (P xs.length) := by
  induction xs generalizing s P with
  | nil => exact .ok h0
  | cons x r ih =>
    refine Gv.bind (hs 0 x s rfl h0) fun s' p => ?_
    exact ih (P := fun i => P (i + 1)) p fun i y s hy q => hs (i + 1) y s (by simpa using hy) q
theorem Gv.forR {P : Nat → σ → Prop} {xs : List α} {s : σ} {f : σ → α → Rx (Lp σ ρ)} (h0 : P 0 s) (hs : ∀ i x s, xs[i]? = some x → P i s → Gv (f s x) (fun l => ∃ s', l = .go s' ∧ P (i + 1) s')) : Gv (Vx.forR xs s f) (fun l => ∃ s', l = .go s' ∧ P xs.length s') := by
  induction xs generalizing s P with
  | nil => exact .ok ⟨s, rfl, h0⟩
  | cons x r ih =>
    refine Gv.bind (hs 0 x s rfl h0) ?_
    rintro _ ⟨s', rfl, p⟩
    exact ih (P := fun i => P (i + 1)) p fun i y s hy q => hs (i + 1) y s (by simpa using hy) q
/-- a loop that carries nothing -/
theorem forR_unit {xs : List α} {f : Unit → α → Rx (Lp Unit ρ)} (h : ∀ x ∈ xs, f () x = .ok (.go ())) : Vx.forR xs () f = .ok (.go ()) := by
  induction xs with
  | nil => rfl
  | cons x r ih =>
    show (f () x).bind _ = _
    rw [h x List.mem_cons_self]
    exact ih fun y hy => h y (List.mem_cons_of_mem _ hy)
theorem forS_pure {xs : List α} {s : σ} {f : σ → α → Rx σ} {g : σ → α → σ} (h : ∀ s x, x ∈ xs → f s x = .ok (g s x)) : Vx.forS xs s f = .ok (xs.foldl g s) := by
  induction xs generalizing s with
  | nil => rfl
  | cons x r ih =>
    show (f s x).bind _ = _
    rw [h s x List.mem_cons_self]
    exact ih fun s y hy => h s y (List.mem_cons_of_mem _ hy)
theorem mapA_pure {xs : List α} {acc : List β} {f : α → Rx β} {g : α → β} (h : ∀ x ∈ xs, f x = .ok (g x)) (hl : acc.length + xs.length ≤ 1000000) : mapA xs acc f = .ok (acc ++ xs.map g) := by
  induction xs generalizing acc with
  | nil => simp [mapA]
  | cons x r ih =>
    rw [List.length_cons] at hl
    unfold mapA
    rw [grd_pos (by omega), h x List.mem_cons_self, bind_ok, ih (fun y hy => h y (List.mem_cons_of_mem _ hy)) (by rw [List.length_append, List.length_cons, List.length_nil]; omega)]
    simp
theorem mapA_pure0 {xs : List α} {f : α → Rx β} {g : α → β} (h : ∀ x ∈ xs, f x = .ok (g x)) (hl : xs.length ≤ 1000000) : mapA xs [] f = .ok (xs.map g) := by
  rw [mapA_pure h (by simpa using hl)]
  rfl
theorem mapF_pure {xs : List α} {acc : List β} {f : α → Rx (Option β)} {g : α → Option β} (h : ∀ x ∈ xs, f x = .ok (g x)) (hl : acc.length + xs.length ≤ 1000000) : mapF xs acc f = .ok (acc ++ xs.filterMap g) := by
  induction xs generalizing acc with
  | nil => simp [mapF]
  | cons x r ih =>
    rw [List.length_cons] at hl
    unfold mapF
    rw [grd_pos (by omega), h x List.mem_cons_self, bind_ok]
    cases e : g x with
    | none =>
      show mapF r acc f = _
      rw [ih (fun y hy => h y (List.mem_cons_of_mem _ hy)) (by omega), List.filterMap_cons, e]
    | some z =>
      show mapF r (acc ++ [z]) f = _
      rw [ih (fun y hy => h y (List.mem_cons_of_mem _ hy)) (by rw [List.length_append, List.length_cons, List.length_nil]; omega), List.filterMap_cons, e]
      simp
/-- a while that ends: m falls -/
theorem Gv.whileR {P : σ → Prop} {R : σ → Prop} (m : σ → Nat) {f : σ → Rx (Lp σ ρ)} (hs : ∀ s, P s → Gv (f s) (fun l => (∃ s', l = .go s' ∧ P s' ∧ m s' < m s) ∨ ∃ s', l = .bk s' ∧ R s')) : ∀ {n : Nat} {s : σ}, P s → m s < n → Gv (Vx.whileR n s f) (fun l => ∃ s', l = .go s' ∧ R s') := by
  intro n
  induction n with
  | zero => intro s _ h; exact absurd h (Nat.not_lt_zero _)
  | succ n ih =>
    intro s p h
    refine Gv.bind (hs s p) ?_
    rintro _ (⟨s', rfl, p', l⟩ | ⟨s', rfl, r⟩)
    · exact ih p' (by omega)
    · exact .ok ⟨s', rfl, r⟩
end
theorem rng_mem {lo x : Int} {n : Nat} (h : x ∈ rng lo n) : lo ≤ x ∧ x < lo + n := by
  unfold rng at h
  obtain ⟨j, hj, rfl⟩ := List.mem_map.mp h
  have := List.mem_range.mp hj
  omega
theorem rng_at {lo x : Int} {n i : Nat} (h : (rng lo n)[i]? = some x) : x = lo + i ∧ i < n := by
  have hl := get_len h
  rw [rng_len] at hl
  rw [rng_get hl] at h
  exact ⟨(Option.some.inj h).symm, hl⟩
end Vx
namespace Vx
open PySem PySem.Spec PyProof.Rows L2
def F__law_cell (script' : (List Int)) (k' : Int) : Rx Int :=
  (if k' < (((script') : (List Int)).length : Int) then grd (-((script' : (List Int)).length : Int) ≤ k' ∧ k' < ((script' : (List Int)).length : Int)) <| .ok ((if (itD (script') (k')) < 0 then -(itD (script') (k')) else (itD (script') (k')))) else .ok (0))

def F__law_digits_b1 (base_14 : Int) (large_15 : Bool) (cell_27 : Int) (digits_28 : (List Int)) (it31 : Int) : Rx (Int × (List Int)) :=
  (if large_15 = true then grd (0 < (base_14 : Int)) <| grd ((digits_28).length ≤ 1000000) <| bnd ((digits_28) ++ [(cell_27 % base_14)]) fun y41 => grd (0 < (base_14 : Int) ∧ (base_14 : Int) < 2 ^ 128) <| bnd ((cell_27 / base_14)) fun cell_43 => .ok ((cell_43), (y41)) else grd ((-(2 ^ 64) < ((it31 + 1) : Int) ∧ ((it31 + 1) : Int) < 2 ^ 64) ∨ (-(2 ^ 64) < ((it31 + 5) : Int) ∧ ((it31 + 5) : Int) < 2 ^ 64)) <| grd ((-(2 ^ 64) < ((cell_27 / 97) : Int) ∧ ((cell_27 / 97) : Int) < 2 ^ 64) ∨ (-(2 ^ 64) < (it31 : Int) ∧ (it31 : Int) < 2 ^ 64)) <| grd (0 < (base_14 : Int)) <| grd ((digits_28).length ≤ 1000000) <| bnd ((digits_28) ++ [(((((cell_27 * 48271) + (((it31 + 1) * (it31 + 5)) * 69621)) + ((cell_27 / 97) * it31)) % 2147483647) % base_14)]) fun y54 => .ok ((cell_27), (y54)))

def F__law_digits_r1 (cell_60 : Int) (digits_61 : (List Int)) : Rx (List Int) :=
  .ok (digits_61)

def F__law_digits (cell' : Int) (base' : Int) (most' : Int) : Rx (List Int) :=
  bnd (decide (((10 : Int) ^ Int.toNat 18) ≤ cell')) fun large_12 => grd (-(2 ^ 62) ≤ most' ∧ most' < 2 ^ 62) <| Rx.bind (forS (rng (0) (Int.toNat (most'))) ((cell'), (([] : (List Int)))) (fun s x => F__law_digits_b1 (base') (large_12) (s.1) (s.2) x)) fun s => F__law_digits_r1  (s.1) (s.2)

def F__law_entries_k3 (entries_147 : (List (Int × (List Int)))) (time_148 : Int) (step_149 : Int) : Rx (Lp ((List (Int × (List Int))) × Int) (List (Int × (List Int)))) :=
  (if 4294967295 < (time_148 + step_149) then .ok (.rt (entries_147)) else bnd ((time_148 + step_149)) fun time_161 => .ok (.go ((entries_147), (time_161))))

def F__law_entries_b2 (cell_87 : Int) (entries_103 : (List (Int × (List Int)))) (time_104 : Int) (it107 : Int) : Rx (Lp ((List (Int × (List Int))) × Int) (List (Int × (List Int)))) :=
  grd (0 < ((1 + it107) : Int) ∧ ((1 + it107) : Int) < 2 ^ 128) <| bnd ((((cell_87 + (7 * it107)) * 48271) / (1 + it107))) fun draw_109 => Rx.bind (F__law_digits draw_109 256 (((draw_109 / 3) % 21))) fun v110 => grd ((entries_103).length ≤ 1000000) <| bnd ((entries_103) ++ [(time_104, v110)]) fun y145 => bnd ((1 + ((draw_109 / 5) % 4))) fun step_146 => Rx.bind (((if (((draw_109 / 20) % 4) : Int) = 3 then bnd ((1 + (draw_109 % 900000000))) fun step_154 => .ok (step_154) else .ok (step_146)) : Rx (Int))) fun s => F__law_entries_k3 (y145) (time_104) s

def F__law_entries_r2 (entries_168 : (List (Int × (List Int)))) (time_169 : Int) : Rx (List (Int × (List Int))) :=
  .ok (entries_168)

def F__law_entries_k1 (cell_73 : Int) (entries_74 : (List (Int × (List Int)))) (time_75 : Int) : Rx (List (Int × (List Int))) :=
  grd (-(2 ^ 62) ≤ (cell_73 % 9) ∧ (cell_73 % 9) < 2 ^ 62) <| Rx.bind (forR (rng (0) (Int.toNat ((cell_73 % 9)))) ((entries_74), (time_75)) (fun s x => F__law_entries_b2 (cell_73) (s.1) (s.2) x)) fun l => l.aft Rx.ok fun s => F__law_entries_r2  (s.1) (s.2)

def F__law_entries (cell' : Int) : Rx (List (Int × (List Int))) :=
  bnd (((cell' / 7) % 3)) fun time_72 => Rx.bind (((if (((cell' / 21) % 3) : Int) = 2 then bnd ((cell' % 4294967000)) fun time_80 => .ok (time_80) else .ok (time_72)) : Rx (Int))) fun s => F__law_entries_k1 (cell') (([] : (List (Int × (List Int))))) s

def F__require (holds' : Bool) (text' : Str) : Rx Unit :=
  (if holds' = true then .ok (()) else .er 2)

def F__check_times_c1 (it211 : Int) : Rx Bool :=
  .ok ((decide (0 ≤ it211) && decide (it211 ≤ 4294967295)))

def F__check_times_c2 (it301 : (Int × Int)) : Rx Bool :=
  .ok (decide (it301.1 < it301.2))

def F__check_times (times' : (List Int)) : Rx Unit :=
  Rx.bind (mapA (times') [] (fun x => noEr (F__check_times_c1  x))) fun v171 => Rx.bind (F__require ((List.all (v171) id)) (("a time is from 0 to 2**32 - 1" : Str))) fun v233 => Rx.bind (mapA (List.zip (times') (cutL (times') (some (1)) none)) [] (fun x => noEr (F__check_times_c2  x))) fun v243 => bnd ((List.all (v243) id)) fun ascends_323 => Rx.bind (F__require ascends_323 (("the times ascend" : Str))) fun v324 => .ok (())

def F__octets_of_c1 (number_326 : Int) (it355 : Int) : Rx Int :=
  grd ((0 : Int) ≤ (8 * it355)) <| .ok ((PySem.Builtin.bitAnd ((number_326 / 2 ^ Int.toNat ((8 * it355)))) (255)))

def F__octets_of (number' : Int) (count' : Int) : Rx (List Int) :=
  grd (-(2 ^ 62) ≤ ((count' - 1) : Int) ∧ ((count' - 1) : Int) < 2 ^ 62 ∧ -(2 ^ 62) ≤ ((-1) : Int) ∧ ((-1) : Int) < 2 ^ 62) <| Rx.bind (mapA (rngD ((count' - 1)) (Int.toNat ((count' - 1) - (-1)))) [] (fun x => noEr (F__octets_of_c1 (number') x))) fun v327 => .ok (v327)

def F_pack_container_c1 (it429 : (Int × (List Int))) : Rx Int :=
  .ok it429.1

def F_pack_container_b2 (octets_507 : (List Int)) (it510 : (Int × (List Int))) : Rx ((List Int)) :=
  Rx.bind (F__octets_of it510.1 4) fun v511 => Rx.bind (F__octets_of ((((it510.2) : (List Int)).length : Int)) 4) fun v520 => grd ((v511).length + (v520).length ≤ 1000000) <| grd ((octets_507).length + ((v511) ++ (v520)).length ≤ 1000000) <| bnd ((octets_507) ++ ((v511) ++ (v520))) fun y548 => .ok (y548)

def F_pack_container_b3 (octets_580 : (List Int)) (it583 : (Int × (List Int))) : Rx ((List Int)) :=
  grd ((octets_580).length + (it583.2).length ≤ 1000000) <| bnd ((octets_580) ++ (it583.2)) fun y591 => .ok (y591)

def F_pack_container_r3 (octets_597 : (List Int)) : Rx (List Int) :=
  .ok (octets_597)

def F_pack_container_r2 (entries_481 : (List (Int × (List Int)))) (octets_554 : (List Int)) : Rx (List Int) :=
  Rx.bind (forS (entries_481) (octets_554) (fun s x => F_pack_container_b3  s x)) fun s => F_pack_container_r3  s

def F_pack_container (entries' : (List (Int × (List Int)))) : Rx (List Int) :=
  (if 65535 < (((entries') : (List (Int × (List Int)))).length : Int) then .er 2 else Rx.bind (mapA (entries') [] (fun x => noEr (F_pack_container_c1  x))) fun v380 => Rx.bind (F__check_times (v380)) fun v448 => Rx.bind (F__octets_of ((((entries') : (List (Int × (List Int)))).length : Int)) 2) fun v461 => grd (([84, 72, 65, 85]).length + (v461).length ≤ 1000000) <| Rx.bind (forS (entries') (([84, 72, 65, 85]) ++ (v461)) (fun s x => F_pack_container_b2  s x)) fun s => F_pack_container_r2 (entries') s)

def F__number_of_b1 (number_611 : Int) (it614 : Int) : Rx (Int) :=
  grd ((0 : Int) ≤ 8 ∧ (8 : Int) ≤ 4096 ∧ -(2 ^ 4096) < (number_611 : Int) ∧ (number_611 : Int) < 2 ^ 4096) <| bnd ((PySem.Builtin.bitOr ((number_611 * 2 ^ Int.toNat (8))) (it614))) fun number_616 => .ok (number_616)

def F__number_of_r1 (number_621 : Int) : Rx Int :=
  .ok (number_621)

def F__number_of (octets' : (List Int)) : Rx Int :=
  Rx.bind (forS (octets') (0) (fun s x => F__number_of_b1  s x)) fun s => F__number_of_r1  s

def F_open_container_b2 (octets_676 : (List Int)) (end_693 : Int) (entries_694 : (List (Int × (List Int)))) (it697 : Int) : Rx (Int × (List (Int × (List Int)))) :=
  bnd ((6 + (8 * it697))) fun place_698 => Rx.bind (F__number_of (cutL (octets_676) (some ((place_698 + 4))) (some ((place_698 + 8))))) fun v708 => Rx.bind (F__number_of (cutL (octets_676) (some (place_698)) (some ((place_698 + 4))))) fun v722 => grd ((entries_694).length ≤ 1000000) <| bnd ((entries_694) ++ [(v722, cutL (octets_676) (some (end_693)) (some ((end_693 + v708))))]) fun y761 => bnd ((end_693 + v708)) fun end_762 => .ok ((end_762), (y761))

def F_open_container_c3 (it824 : (Int × (List Int))) : Rx Int :=
  .ok it824.1

def F_open_container_r2 (octets_677 : (List Int)) (end_769 : Int) (entries_770 : (List (Int × (List Int)))) : Rx (List (Int × (List Int))) :=
  Rx.bind (F__require (decide (((((octets_677) : (List Int)).length : Int) : Int) = end_769)) (("the octets are more or fewer than those of the segments" : Str))) fun v771 => Rx.bind (mapA (entries_770) [] (fun x => noEr (F_open_container_c3  x))) fun v772 => Rx.bind (F__check_times (v772)) fun v845 => .ok (entries_770)

def F_open_container_k1 (octets_622 : (List Int)) : Rx (List (Int × (List Int))) :=
  Rx.bind (F__number_of (cutL (octets_622) (some (4)) (some (6)))) fun v660 => bnd ((6 + (8 * v660))) fun end_664 => grd (-(2 ^ 62) ≤ v660 ∧ v660 < 2 ^ 62) <| Rx.bind (forS (rng (0) (Int.toNat (v660))) ((end_664), (([] : (List (Int × (List Int)))))) (fun s x => F_open_container_b2 (octets_622) (s.1) (s.2) x)) fun s => F_open_container_r2 (octets_622) (s.1) (s.2)

def F_open_container (octets' : (List Int)) : Rx (List (Int × (List Int))) :=
  Rx.bind (((if decide (6 ≤ (((octets') : (List Int)).length : Int)) = true then Rx.bind (F__require (decide ((cutL (octets') none (some (4)) : (List Int)) = [84, 72, 65, 85])) (("the octets begin otherwise" : Str))) fun v645 => .ok () else Rx.bind (F__require false (("the octets begin otherwise" : Str))) fun v646 => .ok ()) : Rx Unit)) fun s => F_open_container_k1 (octets') 

def F__law_number_c1 (worth_851 : Int) (count_852 : Int) (it881 : Int) : Rx Int :=
  grd ((0 : Int) ≤ (8 * ((count_852 - 1) - it881))) <| .ok ((PySem.Builtin.bitAnd ((worth_851 / 2 ^ Int.toNat ((8 * ((count_852 - 1) - it881))))) (255)))

def F__law_number (worth' : Int) (count' : Int) : Rx (List Int) :=
  grd (-(2 ^ 62) ≤ count' ∧ count' < 2 ^ 62) <| Rx.bind (mapA (rng (0) (Int.toNat (count'))) [] (fun x => noEr (F__law_number_c1 (worth') (count') x))) fun v853 => .ok (v853)

def F__law_packed_b1 (octets_962 : (List Int)) (it965 : (Int × (List Int))) : Rx ((List Int)) :=
  Rx.bind (F__law_number it965.1 4) fun v966 => grd ((octets_962).length + (v966).length ≤ 1000000) <| Rx.bind (F__law_number ((((it965.2) : (List Int)).length : Int)) 4) fun v986 => grd (((octets_962) ++ (v966)).length + (v986).length ≤ 1000000) <| .ok (((octets_962) ++ (v966)) ++ (v986))

def F__law_packed_b2 (octets_1040 : (List Int)) (it1043 : (Int × (List Int))) : Rx ((List Int)) :=
  grd ((octets_1040).length + (it1043.2).length ≤ 1000000) <| .ok ((octets_1040) ++ (it1043.2))

def F__law_packed_r2 (octets_1060 : (List Int)) : Rx (List Int) :=
  .ok (octets_1060)

def F__law_packed_r1 (entries_934 : (List (Int × (List Int)))) (octets_1012 : (List Int)) : Rx (List Int) :=
  Rx.bind (forS (entries_934) (octets_1012) (fun s x => F__law_packed_b2  s x)) fun s => F__law_packed_r2  s

def F__law_packed (entries' : (List (Int × (List Int)))) : Rx (List Int) :=
  Rx.bind (F__law_number ((((entries') : (List (Int × (List Int)))).length : Int)) 2) fun v914 => grd (([84, 72, 65, 85]).length + (v914).length ≤ 1000000) <| Rx.bind (forS (entries') (([84, 72, 65, 85]) ++ (v914)) (fun s x => F__law_packed_b1  s x)) fun s => F__law_packed_r1 (entries') s

def F__law_refused (entries' : (List (Int × (List Int)))) : Rx Bool :=
  tryR (F_pack_container (entries')) [2] (fun v1065 => .ok (false)) (fun _ => .ok (true))

def F_seek_container_b1 (time_1094 : Int) (first_1135 : Int) (it1138 : (Int × (Int × (List Int)))) : Rx (Int) :=
  (if it1138.2.1 ≤ time_1094 then .ok (it1138.1) else .ok (first_1135))

def F_seek_container_b2 (found_1200 : (List Int)) (it1203 : (Int × (List Int))) : Rx ((List Int)) :=
  grd ((found_1200).length + (it1203.2).length ≤ 1000000) <| bnd ((found_1200) ++ (it1203.2)) fun y1211 => .ok (y1211)

def F_seek_container_r2 (found_1219 : (List Int)) : Rx (List Int) :=
  .ok (found_1219)

def F_seek_container_r1 (entries_1095 : (List (Int × (List Int)))) (first_1147 : Int) : Rx (List Int) :=
  Rx.bind (forS (cutL (entries_1095) (some (first_1147)) none) (([] : (List Int))) (fun s x => F_seek_container_b2  s x)) fun s => F_seek_container_r2  s

def F_seek_container (octets' : (List Int)) (time' : Int) : Rx (List Int) :=
  Rx.bind (F_open_container (octets')) fun v1079 => Rx.bind (forS (enumL (v1079)) (0) (fun s x => F_seek_container_b1 (time') s x)) fun s => F_seek_container_r1 (v1079) s

def F__law_seek_refused (octets' : (List Int)) (time' : Int) : Rx Bool :=
  tryR (F_seek_container (octets') time') [2] (fun v1220 => .ok (false)) (fun _ => .ok (true))

def F__law_opened (octets' : (List Int)) : Rx (List (List (Int × (List Int)))) :=
  tryR (F_open_container (octets')) [2] (fun v1232 => .ok ([v1232])) (fun _ => .ok (([] : (List (List (Int × (List Int)))))))

def F__law_bad_k1 (same_1615 : (List (Int × (List Int)))) (late_1616 : (List (Int × (List Int)))) (early_1617 : (List (Int × (List Int)))) : Rx Bool :=
  Rx.bind (F__law_refused (same_1615)) fun v1826 => (if v1826 = true then Rx.bind (F__law_refused (late_1616)) fun v1832 => (if v1832 = true then Rx.bind (F__law_refused (early_1617)) fun v1838 => .ok (v1838) else .ok (false)) else .ok (false))

def F__law_bad (entries' : (List (Int × (List Int)))) (cell' : Int) : Rx Bool :=
  (if ((((entries') : (List (Int × (List Int)))).length : Int) : Int) = 0 then Rx.bind (F__law_refused ([((4294967296 + (cell' % 9)), ([] : (List Int)))])) fun v1315 => (if v1315 = true then Rx.bind (F__law_refused ([(((-1) - (cell' % 9)), ([] : (List Int)))])) fun v1356 => .ok (v1356) else .ok (false)) else grd (0 < ((((entries') : (List (Int × (List Int)))).length : Int) : Int)) <| bnd ((cell' % (((entries') : (List (Int × (List Int)))).length : Int))) fun at_1361 => grd (-((entries' : (List (Int × (List Int)))).length : Int) ≤ at_1361 ∧ at_1361 < ((entries' : (List (Int × (List Int)))).length : Int)) <| grd ((cutL (entries') none (some ((at_1361 + 1))) : (List (Int × (List Int)))).length + ([((itD (entries') (at_1361)).1, [7])] : (List (Int × (List Int)))).length ≤ 1000000) <| grd (((cutL (entries') none (some ((at_1361 + 1)))) ++ ([((itD (entries') (at_1361)).1, [7])]) : (List (Int × (List Int)))).length + (cutL (entries') (some ((at_1361 + 1))) none : (List (Int × (List Int)))).length ≤ 1000000) <| grd (-((entries' : (List (Int × (List Int)))).length : Int) ≤ at_1361 ∧ at_1361 < ((entries' : (List (Int × (List Int)))).length : Int)) <| grd ((cutL (entries') none (some (at_1361)) : (List (Int × (List Int)))).length + ([((4294967296 + (cell' % 5)), (itD (entries') (at_1361)).2)] : (List (Int × (List Int)))).length ≤ 1000000) <| grd (((cutL (entries') none (some (at_1361))) ++ ([((4294967296 + (cell' % 5)), (itD (entries') (at_1361)).2)]) : (List (Int × (List Int)))).length + (cutL (entries') (some ((at_1361 + 1))) none : (List (Int × (List Int)))).length ≤ 1000000) <| grd (([(((-1) - (cell' % 5)), ([] : (List Int)))] : (List (Int × (List Int)))).length + (entries' : (List (Int × (List Int)))).length ≤ 1000000) <| Rx.bind (((if 1 < (((entries') : (List (Int × (List Int)))).length : Int) then grd (0 < (((((entries') : (List (Int × (List Int)))).length : Int) - 1) : Int)) <| bnd (((cell' / 3) % ((((entries') : (List (Int × (List Int)))).length : Int) - 1))) fun one_1625 => grd (-((entries' : (List (Int × (List Int)))).length : Int) ≤ (one_1625 + 1) ∧ (one_1625 + 1) < ((entries' : (List (Int × (List Int)))).length : Int)) <| grd (-((entries' : (List (Int × (List Int)))).length : Int) ≤ one_1625 ∧ one_1625 < ((entries' : (List (Int × (List Int)))).length : Int)) <| grd ((cutL (entries') none (some (one_1625)) : (List (Int × (List Int)))).length + ([(itD (entries') ((one_1625 + 1))), (itD (entries') (one_1625))] : (List (Int × (List Int)))).length ≤ 1000000) <| grd (((cutL (entries') none (some (one_1625))) ++ ([(itD (entries') ((one_1625 + 1))), (itD (entries') (one_1625))]) : (List (Int × (List Int)))).length + (cutL (entries') (some ((one_1625 + 2))) none : (List (Int × (List Int)))).length ≤ 1000000) <| Rx.bind (F__law_packed (((cutL (entries') none (some (one_1625))) ++ ([(itD (entries') ((one_1625 + 1))), (itD (entries') (one_1625))])) ++ (cutL (entries') (some ((one_1625 + 2))) none))) fun v1720 => Rx.bind (F__law_refused (((cutL (entries') none (some (one_1625))) ++ ([(itD (entries') ((one_1625 + 1))), (itD (entries') (one_1625))])) ++ (cutL (entries') (some ((one_1625 + 2))) none))) fun v1730 => (if v1730 = true then Rx.bind (F__law_opened (v1720)) fun v1736 => (if 0 < (((v1736) : (List (List (Int × (List Int))))).length : Int) then .ok (.rt (false)) else grd (-((entries' : (List (Int × (List Int)))).length : Int) ≤ one_1625 ∧ one_1625 < ((entries' : (List (Int × (List Int)))).length : Int)) <| Rx.bind (F__law_seek_refused (v1720) ((itD (entries') (one_1625)).1)) fun v1765 => (if v1765 = true then Rx.bind (F__law_packed (((cutL (entries') none (some ((at_1361 + 1)))) ++ ([((itD (entries') (at_1361)).1, [7])])) ++ (cutL (entries') (some ((at_1361 + 1))) none))) fun v1771 => Rx.bind (F__law_opened (v1771)) fun v1780 => (if 0 < (((v1780) : (List (List (Int × (List Int))))).length : Int) then .ok (.rt (false)) else grd (-((entries' : (List (Int × (List Int)))).length : Int) ≤ at_1361 ∧ at_1361 < ((entries' : (List (Int × (List Int)))).length : Int)) <| Rx.bind (F__law_seek_refused (v1771) ((itD (entries') (at_1361)).1)) fun v1809 => (if v1809 = true then .ok (.go ()) else .ok (.rt (false)))) else .ok (.rt (false)))) else .ok (.rt (false))) else .ok (.go ())) : Rx (Lp Unit Bool))) fun l => l.aft Rx.ok fun s => F__law_bad_k1 (((cutL (entries') none (some ((at_1361 + 1)))) ++ ([((itD (entries') (at_1361)).1, [7])])) ++ (cutL (entries') (some ((at_1361 + 1))) none)) (((cutL (entries') none (some (at_1361))) ++ ([((4294967296 + (cell' % 5)), (itD (entries') (at_1361)).2)])) ++ (cutL (entries') (some ((at_1361 + 1))) none)) (([(((-1) - (cell' % 5)), ([] : (List Int)))]) ++ (entries')) )

def F__law_seek_b1 (entries_1847 : (List (Int × (List Int)))) (time_1848 : Int) (first_1861 : Int) (it1864 : Int) : Rx (Int) :=
  grd (-((entries_1847 : (List (Int × (List Int)))).length : Int) ≤ it1864 ∧ it1864 < ((entries_1847 : (List (Int × (List Int)))).length : Int)) <| (if (itD (entries_1847) (it1864)).1 ≤ time_1848 then .ok (it1864) else .ok (first_1861))

def F__law_seek_b2 (due_1936 : (List Int)) (it1939 : (Int × (List Int))) : Rx ((List Int)) :=
  grd ((due_1936).length + (it1939.2).length ≤ 1000000) <| .ok ((due_1936) ++ (it1939.2))

def F__law_seek_r2 (octets_1902 : (List Int)) (time_1903 : Int) (due_1959 : (List Int)) : Rx Bool :=
  Rx.bind (F_seek_container (octets_1902) time_1903) fun v1960 => .ok (decide ((v1960 : (List Int)) = due_1959))

def F__law_seek_r1 (entries_1849 : (List (Int × (List Int)))) (octets_1850 : (List Int)) (time_1851 : Int) (first_1882 : Int) : Rx Bool :=
  Rx.bind (forS (cutL (entries_1849) (some (first_1882)) none) (([] : (List Int))) (fun s x => F__law_seek_b2  s x)) fun s => F__law_seek_r2 (octets_1850) (time_1851) s

def F__law_seek (entries' : (List (Int × (List Int)))) (octets' : (List Int)) (time' : Int) : Rx Bool :=
  grd (-(2 ^ 62) ≤ (((entries') : (List (Int × (List Int)))).length : Int) ∧ (((entries') : (List (Int × (List Int)))).length : Int) < 2 ^ 62) <| Rx.bind (forS (rng (0) (Int.toNat ((((entries') : (List (Int × (List Int)))).length : Int)))) (0) (fun s x => F__law_seek_b1 (entries') (time') s x)) fun s => F__law_seek_r1 (entries') (octets') (time') s

def F_law_k4 (entries_2193 : (List (Int × (List Int)))) (octets_2194 : (List Int)) (time_2195 : Int) (at_2196 : Int) (other_2197 : (List Int)) : Rx (Lp Unit Bool) :=
  Rx.bind (F__law_opened (other_2197)) fun v2321 => (if ((((v2321) : (List (List (Int × (List Int))))).length : Int) : Int) = 0 then Rx.bind (F__law_seek_refused (other_2197) time_2195) fun v2338 => (if v2338 = true then (if ((((v2321) : (List (List (Int × (List Int))))).length : Int) : Int) = 1 then grd (-((v2321 : (List (List (Int × (List Int))))).length : Int) ≤ 0 ∧ 0 < ((v2321 : (List (List (Int × (List Int))))).length : Int)) <| Rx.bind (F_pack_container ((itD (v2321) (0)))) fun v2353 => (if (v2353 : (List Int)) = other_2197 then (if ((((v2321) : (List (List (Int × (List Int))))).length : Int) : Int) = 0 then (if ((((other_2197) : (List Int)).length : Int) : Int) = (((octets_2194) : (List Int)).length : Int) then (if (6 + (8 * (((entries_2193) : (List (Int × (List Int)))).length : Int))) ≤ at_2196 then .ok (.rt (false)) else (if ((((v2321) : (List (List (Int × (List Int))))).length : Int) : Int) = 1 then (if at_2196 < 6 then (if ((((other_2197) : (List Int)).length : Int) : Int) = (((octets_2194) : (List Int)).length : Int) then .ok (.rt (false)) else .ok (.go ())) else .ok (.go ())) else .ok (.go ()))) else (if ((((v2321) : (List (List (Int × (List Int))))).length : Int) : Int) = 1 then (if at_2196 < 6 then (if ((((other_2197) : (List Int)).length : Int) : Int) = (((octets_2194) : (List Int)).length : Int) then .ok (.rt (false)) else .ok (.go ())) else .ok (.go ())) else .ok (.go ()))) else (if ((((v2321) : (List (List (Int × (List Int))))).length : Int) : Int) = 1 then (if at_2196 < 6 then (if ((((other_2197) : (List Int)).length : Int) : Int) = (((octets_2194) : (List Int)).length : Int) then .ok (.rt (false)) else .ok (.go ())) else .ok (.go ())) else .ok (.go ()))) else .ok (.rt (false))) else (if ((((v2321) : (List (List (Int × (List Int))))).length : Int) : Int) = 0 then (if ((((other_2197) : (List Int)).length : Int) : Int) = (((octets_2194) : (List Int)).length : Int) then (if (6 + (8 * (((entries_2193) : (List (Int × (List Int)))).length : Int))) ≤ at_2196 then .ok (.rt (false)) else (if ((((v2321) : (List (List (Int × (List Int))))).length : Int) : Int) = 1 then (if at_2196 < 6 then (if ((((other_2197) : (List Int)).length : Int) : Int) = (((octets_2194) : (List Int)).length : Int) then .ok (.rt (false)) else .ok (.go ())) else .ok (.go ())) else .ok (.go ()))) else (if ((((v2321) : (List (List (Int × (List Int))))).length : Int) : Int) = 1 then (if at_2196 < 6 then (if ((((other_2197) : (List Int)).length : Int) : Int) = (((octets_2194) : (List Int)).length : Int) then .ok (.rt (false)) else .ok (.go ())) else .ok (.go ())) else .ok (.go ()))) else (if ((((v2321) : (List (List (Int × (List Int))))).length : Int) : Int) = 1 then (if at_2196 < 6 then (if ((((other_2197) : (List Int)).length : Int) : Int) = (((octets_2194) : (List Int)).length : Int) then .ok (.rt (false)) else .ok (.go ())) else .ok (.go ())) else .ok (.go ())))) else .ok (.rt (false))) else (if ((((v2321) : (List (List (Int × (List Int))))).length : Int) : Int) = 1 then grd (-((v2321 : (List (List (Int × (List Int))))).length : Int) ≤ 0 ∧ 0 < ((v2321 : (List (List (Int × (List Int))))).length : Int)) <| Rx.bind (F_pack_container ((itD (v2321) (0)))) fun v2444 => (if (v2444 : (List Int)) = other_2197 then (if ((((v2321) : (List (List (Int × (List Int))))).length : Int) : Int) = 0 then (if ((((other_2197) : (List Int)).length : Int) : Int) = (((octets_2194) : (List Int)).length : Int) then (if (6 + (8 * (((entries_2193) : (List (Int × (List Int)))).length : Int))) ≤ at_2196 then .ok (.rt (false)) else (if ((((v2321) : (List (List (Int × (List Int))))).length : Int) : Int) = 1 then (if at_2196 < 6 then (if ((((other_2197) : (List Int)).length : Int) : Int) = (((octets_2194) : (List Int)).length : Int) then .ok (.rt (false)) else .ok (.go ())) else .ok (.go ())) else .ok (.go ()))) else (if ((((v2321) : (List (List (Int × (List Int))))).length : Int) : Int) = 1 then (if at_2196 < 6 then (if ((((other_2197) : (List Int)).length : Int) : Int) = (((octets_2194) : (List Int)).length : Int) then .ok (.rt (false)) else .ok (.go ())) else .ok (.go ())) else .ok (.go ()))) else (if ((((v2321) : (List (List (Int × (List Int))))).length : Int) : Int) = 1 then (if at_2196 < 6 then (if ((((other_2197) : (List Int)).length : Int) : Int) = (((octets_2194) : (List Int)).length : Int) then .ok (.rt (false)) else .ok (.go ())) else .ok (.go ())) else .ok (.go ()))) else .ok (.rt (false))) else (if ((((v2321) : (List (List (Int × (List Int))))).length : Int) : Int) = 0 then (if ((((other_2197) : (List Int)).length : Int) : Int) = (((octets_2194) : (List Int)).length : Int) then (if (6 + (8 * (((entries_2193) : (List (Int × (List Int)))).length : Int))) ≤ at_2196 then .ok (.rt (false)) else (if ((((v2321) : (List (List (Int × (List Int))))).length : Int) : Int) = 1 then (if at_2196 < 6 then (if ((((other_2197) : (List Int)).length : Int) : Int) = (((octets_2194) : (List Int)).length : Int) then .ok (.rt (false)) else .ok (.go ())) else .ok (.go ())) else .ok (.go ()))) else (if ((((v2321) : (List (List (Int × (List Int))))).length : Int) : Int) = 1 then (if at_2196 < 6 then (if ((((other_2197) : (List Int)).length : Int) : Int) = (((octets_2194) : (List Int)).length : Int) then .ok (.rt (false)) else .ok (.go ())) else .ok (.go ())) else .ok (.go ()))) else (if ((((v2321) : (List (List (Int × (List Int))))).length : Int) : Int) = 1 then (if at_2196 < 6 then (if ((((other_2197) : (List Int)).length : Int) : Int) = (((octets_2194) : (List Int)).length : Int) then .ok (.rt (false)) else .ok (.go ())) else .ok (.go ())) else .ok (.go ())))))

def F_law_k3 (entries_2104 : (List (Int × (List Int)))) (octets_2105 : (List Int)) (cell_2106 : Int) (time_2107 : Int) : Rx (Lp Unit Bool) :=
  Rx.bind (F__law_seek (entries_2104) (octets_2105) time_2107) fun v2133 => (if v2133 = true then grd (0 < ((((octets_2105) : (List Int)).length : Int) : Int)) <| bnd (((cell_2106 / 5) % (((octets_2105) : (List Int)).length : Int))) fun at_2140 => grd (-((octets_2105 : (List Int)).length : Int) ≤ at_2140 ∧ at_2140 < ((octets_2105 : (List Int)).length : Int)) <| grd ((cutL (octets_2105) none (some (at_2140))).length + ([((((itD (octets_2105) (at_2140)) + 1) + ((cell_2106 / 7) % 255)) % 256)]).length ≤ 1000000) <| grd (((cutL (octets_2105) none (some (at_2140))) ++ ([((((itD (octets_2105) (at_2140)) + 1) + ((cell_2106 / 7) % 255)) % 256)])).length + (cutL (octets_2105) (some ((at_2140 + 1))) none).length ≤ 1000000) <| Rx.bind (((if (((cell_2106 / 11) % 4) : Int) = 1 then grd ((cutL (octets_2105) none (some (at_2140))).length + (cutL (octets_2105) (some ((at_2140 + 1))) none).length ≤ 1000000) <| .ok ((cutL (octets_2105) none (some (at_2140))) ++ (cutL (octets_2105) (some ((at_2140 + 1))) none)) else (if (((cell_2106 / 11) % 4) : Int) = 2 then grd ((cutL (octets_2105) none (some (at_2140))).length + ([((cell_2106 / 7) % 256)]).length ≤ 1000000) <| grd (((cutL (octets_2105) none (some (at_2140))) ++ ([((cell_2106 / 7) % 256)])).length + (cutL (octets_2105) (some (at_2140)) none).length ≤ 1000000) <| .ok (((cutL (octets_2105) none (some (at_2140))) ++ ([((cell_2106 / 7) % 256)])) ++ (cutL (octets_2105) (some (at_2140)) none)) else (if (((cell_2106 / 11) % 4) : Int) = 3 then .ok (cutL (octets_2105) none (some (at_2140))) else .ok (((cutL (octets_2105) none (some (at_2140))) ++ ([((((itD (octets_2105) (at_2140)) + 1) + ((cell_2106 / 7) % 255)) % 256)])) ++ (cutL (octets_2105) (some ((at_2140 + 1))) none))))) : Rx ((List Int)))) fun s => F_law_k4 (entries_2104) (octets_2105) (time_2107) (at_2140) s else .ok (.rt (false)))

def F_law_k2 (entries_2074 : (List (Int × (List Int)))) (octets_2075 : (List Int)) (cell_2076 : Int) (time_2077 : Int) : Rx (Lp Unit Bool) :=
  Rx.bind (((if ((cell_2076 % 7) : Int) = 0 then grd (-(([((-1) - (cell_2076 % 9)), (4294967296 + (cell_2076 % 9))] : (List Int)).length : Int) ≤ ((cell_2076 / 7) % 2) ∧ ((cell_2076 / 7) % 2) < (([((-1) - (cell_2076 % 9)), (4294967296 + (cell_2076 % 9))] : (List Int)).length : Int)) <| bnd ((itD ([((-1) - (cell_2076 % 9)), (4294967296 + (cell_2076 % 9))]) (((cell_2076 / 7) % 2)))) fun time_2122 => .ok (time_2122) else .ok (time_2077)) : Rx (Int))) fun s => F_law_k3 (entries_2074) (octets_2075) (cell_2076) s

def F_law_b1 (script_2047 : (List Int)) (entries_2048 : (List (Int × (List Int)))) (octets_2049 : (List Int)) (it2070 : Int) : Rx (Lp Unit Bool) :=
  Rx.bind (F__law_cell (script_2047) ((it2070 + 1))) fun v2071 => bnd ((v2071 + it2070)) fun cell_2072 => bnd ((cell_2072 % 40)) fun time_2073 => Rx.bind (((if 0 < (((entries_2048) : (List (Int × (List Int)))).length : Int) then (if 0 < (cell_2072 % 3) then grd (0 < ((((entries_2048) : (List (Int × (List Int)))).length : Int) : Int)) <| grd (-((entries_2048 : (List (Int × (List Int)))).length : Int) ≤ ((cell_2072 / 3) % (((entries_2048) : (List (Int × (List Int)))).length : Int)) ∧ ((cell_2072 / 3) % (((entries_2048) : (List (Int × (List Int)))).length : Int)) < ((entries_2048 : (List (Int × (List Int)))).length : Int)) <| bnd ((((itD (entries_2048) (((cell_2072 / 3) % (((entries_2048) : (List (Int × (List Int)))).length : Int)))).1 + ((cell_2072 / 27) % 3)) - 1)) fun time_2096 => .ok (time_2096) else .ok (time_2073)) else .ok (time_2073)) : Rx (Int))) fun s => F_law_k2 (entries_2048) (octets_2049) (cell_2072) s

def F_law_r1 (first_2050 : Int) (entries_2051 : (List (Int × (List Int)))) : Rx Bool :=
  Rx.bind (F__law_bad (entries_2051) ((first_2050 / 5))) fun v2533 => .ok (v2533)

def F_law (script' : (List Int)) : Rx Bool :=
  Rx.bind (F__law_cell (script') 0) fun v1970 => Rx.bind (F__law_entries v1970) fun v1971 => grd (ShowOk ((encL (encT2 PyData.int (encL PyData.int))) (v1971))) <| Rx.bind (F_pack_container (v1971)) fun v1987 => Rx.bind (F__law_packed (v1971)) fun v1997 => (if (v1987 : (List Int)) = v1997 then grd (ShowOk ((encL (encT2 PyData.int (encL PyData.int))) (v1971))) <| (if V.str ((PyData.shown ((encL (encT2 PyData.int (encL PyData.int))) (v1971)))) = V.str ((PyData.shown ((encL (encT2 PyData.int (encL PyData.int))) (v1971)))) then Rx.bind (F_open_container (v1987)) fun v2021 => grd (ShowOk ((encL (encT2 PyData.int (encL PyData.int))) (v2021))) <| (if V.str ((PyData.shown ((encL (encT2 PyData.int (encL PyData.int))) (v2021)))) = V.str ((PyData.shown ((encL (encT2 PyData.int (encL PyData.int))) (v1971)))) then (if (v1987 : (List Int)) = v1987 then grd (-(2 ^ 62) ≤ (if 6 < (1 + (((script') : (List Int)).length : Int)) then 6 else (1 + (((script') : (List Int)).length : Int))) ∧ (if 6 < (1 + (((script') : (List Int)).length : Int)) then 6 else (1 + (((script') : (List Int)).length : Int))) < 2 ^ 62) <| Rx.bind (forR (rng (0) (Int.toNat ((if 6 < (1 + (((script') : (List Int)).length : Int)) then 6 else (1 + (((script') : (List Int)).length : Int)))))) () (fun s x => F_law_b1 (script') (v1971) (v1987)  x)) fun l => l.aft Rx.ok fun s => F_law_r1 (v1970) (v1971)  else .ok (false)) else .ok (false)) else .ok (false)) else .ok (false))
theorem cell_gv (s : List Int) (k : Int) (h : 0 ≤ k) : Gv (F__law_cell s k) (fun v => 0 ≤ v) := by
  unfold F__law_cell
  refine Gv.ite (fun c => Gv.grd ⟨by omega, c⟩ (.ok ?_)) fun _ => .ok (by decide)
  split <;> omega
theorem all_snoc {P : Int → Prop} {xs : List Int} {y : Int} (h : ∀ x ∈ xs, P x) (hy : P y) : ∀ x ∈ xs ++ [y], P x := fun x hx => by
  rcases List.mem_append.mp hx with q | q
  · exact h x q
  · rw [List.mem_singleton.mp q]
    exact hy
theorem digits_gv (cell base most : Int) (h0 : 0 < base) (h1 : base < 2 ^ 64) (hm : 0 ≤ most) (hm2 : most ≤ 1000) : Gv (F__law_digits cell base most) (fun v => (v.length : Int) = most ∧ ∀ x ∈ v, 0 ≤ x ∧ x < base) := by
  unfold F__law_digits
  refine Gv.bnd fun large _ => Gv.grd ⟨by omega, by omega⟩ (Gv.bind (Gv.forS (P := fun i s => s.2.length = i ∧ ∀ x ∈ s.2, 0 ≤ x ∧ x < base) ⟨rfl, fun x hx => by cases hx⟩ fun i x s hx p => ?_) fun s p => .ok ⟨?_, p.2⟩)
  · obtain ⟨rfl, hi⟩ := rng_at hx
    have hl := p.1
    unfold F__law_digits_b1
    refine Gv.ite (fun _ => Gv.grd h0 (Gv.grd (by omega) (Gv.bnd fun y hy => Gv.grd ⟨h0, by omega⟩ (Gv.bnd fun c _ => .ok ?_)))) fun _ => Gv.grd ?_ (Gv.grd ?_ (Gv.grd h0 (Gv.grd (by omega) (Gv.bnd fun y hy => .ok ?_))))
    · subst hy
      exact ⟨by rw [List.length_append, hl]; rfl, all_snoc p.2 ⟨Int.emod_nonneg _ (by omega), Int.emod_lt_of_pos _ h0⟩⟩
    · left
      omega
    · right
      omega
    · subst hy
      exact ⟨by rw [List.length_append, hl]; rfl, all_snoc p.2 ⟨Int.emod_nonneg _ (by omega), Int.emod_lt_of_pos _ h0⟩⟩
  · have := p.1
    rw [rng_len] at this
    omega
theorem itD_some {α : Type} [Inhabited α] {xs : List α} {k : Int} (h : -(xs.length : Int) ≤ k ∧ k < xs.length) : ∃ j : Nat, xs[j]? = some (itD xs k) := by
  obtain ⟨j, e, hj⟩ := ixN_some h
  refine ⟨j, ?_⟩
  unfold itD atI
  rw [e, List.getElem?_eq_getElem hj]
  show some xs[j] = some ((xs[j]?).getD default)
  rw [List.getElem?_eq_getElem hj] <;> rfl
theorem itD_mem {α : Type} [Inhabited α] {xs : List α} {k : Int} (h : -(xs.length : Int) ≤ k ∧ k < xs.length) : itD xs k ∈ xs := by
  obtain ⟨j, e⟩ := itD_some h
  exact List.mem_of_getElem? e
theorem itD_map {α β : Type} [Inhabited α] [Inhabited β] {xs : List α} {f : α → β} {k : Int} (h : -(xs.length : Int) ≤ k ∧ k < xs.length) : itD (xs.map f) k = f (itD xs k) := by
  obtain ⟨j, e, hj⟩ := ixN_some h
  unfold itD atI
  rw [List.length_map, e]
  show ((xs.map f)[j]?).getD default = f ((xs[j]?).getD default)
  rw [List.getElem?_map, List.getElem?_eq_getElem hj] <;> rfl
theorem itD_nat {α : Type} [Inhabited α] {xs : List α} {k : Int} {j : Nat} (e : k = (j : Int)) (h : j < xs.length) : itD xs k = xs[j] := by
  subst e
  unfold itD atI ixN
  rw [if_pos (by omega), if_pos (by omega)]
  show (xs[j]?).getD default = _
  rw [List.getElem?_eq_getElem h] <;> rfl
theorem setL_mem {α : Type} {xs : List α} {k : Int} {y z : α} (h : z ∈ setL xs k y) : z ∈ xs ∨ z = y := by
  unfold setL at h
  exact List.mem_or_eq_of_mem_set h
theorem setL_len {α : Type} {xs : List α} {k : Int} {y : α} : (setL xs k y).length = xs.length := by
  unfold setL
  rw [List.length_set]
/-! ### numbers as octets, the first octet the highest -/
theorem mask8 (x : Int) : PySem.Builtin.bitAnd x 255 = x % 256 := by
  by_cases h : 0 ≤ x
  · rw [PyProof.Rows.bitAnd_pp h (by decide)]
    have e : x.toNat &&& (255 : Int).toNat = x.toNat % 256 := Nat.and_two_pow_sub_one_eq_mod x.toNat 8
    rw [e]; omega
  · rw [PyProof.Rows.bitAnd_np h (by decide), Nat.and_comm]
    have e : (PySem.Builtin.bitNot x).toNat &&& (255 : Int).toNat = (PySem.Builtin.bitNot x).toNat % 256 := Nat.and_two_pow_sub_one_eq_mod _ 8
    rw [e]; unfold PySem.Builtin.bitNot; omega
theorem or8 {v o : Int} (h : 0 ≤ v) (h0 : 0 ≤ o) (h1 : o ≤ 255) : PySem.Builtin.bitOr (v * 256) o = v * 256 + o := by
  obtain ⟨a, rfl⟩ := Int.eq_ofNat_of_zero_le h
  obtain ⟨b, rfl⟩ := Int.eq_ofNat_of_zero_le h0
  have z : (a * 256) &&& b = 0 := by
    apply Nat.eq_of_testBit_eq
    intro i
    rw [Nat.testBit_and, Nat.zero_testBit, show a * 256 = a * 2 ^ 8 from rfl, Nat.testBit_mul_two_pow]
    by_cases hi : 8 ≤ i
    · have e : b.testBit i = false := Nat.testBit_lt_two_pow (Nat.lt_of_lt_of_le (by omega : b < 2 ^ 8) (Nat.pow_le_pow_right (by decide) hi))
      rw [e, Bool.and_false]
    · simp [hi]
  rw [PyProof.Rows.bitOr_and, PyProof.Rows.bitAnd_pp (by omega) (by omega)]
  rw [show ((a : Int) * 256).toNat = a * 256 from by omega, show ((b : Int)).toNat = b from rfl, z]
  exact Int.sub_zero _
theorem big96 {x : Int} (h0 : 0 ≤ x) (h1 : x < 2 ^ 64) : -(2 ^ 4096) < x ∧ x < 2 ^ 4096 := by
  have h : (0 : Int) < 2 ^ 4032 := Int.pow_pos (by decide)
  have e : (2 : Int) ^ 4096 = 2 ^ 4032 * 2 ^ 64 := Int.pow_add 2 4032 64
  have l : (1 : Int) * 2 ^ 64 ≤ 2 ^ 4032 * 2 ^ 64 := Int.mul_le_mul_of_nonneg_right h (by decide)
  rw [← e] at l
  generalize (2 : Int) ^ 4096 = z at l ⊢
  omega
/-- octets -/
def By (o : List Int) : Prop := ∀ x ∈ o, 0 ≤ x ∧ x < 256
theorem By.app {a b : List Int} (h : By a) (k : By b) : By (a ++ b) := fun x hx => (List.mem_append.mp hx).elim (h x) (k x)
theorem By.take {a : List Int} (h : By a) (n : Nat) : By (a.take n) := fun x hx => h x (List.mem_of_mem_take hx)
theorem By.drop {a : List Int} (h : By a) (n : Nat) : By (a.drop n) := fun x hx => h x (List.mem_of_mem_drop hx)
theorem By.flat {α : Type} {xs : List α} {f : α → List Int} (h : ∀ x ∈ xs, By (f x)) : By (xs.flatMap f) := fun y hy => by
  obtain ⟨x, hx, hy⟩ := List.mem_flatMap.mp hy
  exact h x hx y hy
def num (o : List Int) : Int := o.foldl (fun n x => n * 256 + x) 0
def be2 (n : Int) : List Int := [n / 256 % 256, n % 256]
def be4 (n : Int) : List Int := [n / 16777216 % 256, n / 65536 % 256, n / 256 % 256, n % 256]
theorem be2_by (n : Int) : By (be2 n) := fun x hx => by
  simp only [be2, List.mem_cons, List.not_mem_nil, or_false] at hx
  omega
theorem be4_by (n : Int) : By (be4 n) := fun x hx => by
  simp only [be4, List.mem_cons, List.not_mem_nil, or_false] at hx
  omega
theorem num_be2 {n : Int} (h0 : 0 ≤ n) (h1 : n < 65536) : num (be2 n) = n := by
  simp only [num, be2, List.foldl_cons, List.foldl_nil]
  omega
theorem num_be4 {n : Int} (h0 : 0 ≤ n) (h1 : n < 4294967296) : num (be4 n) = n := by
  simp only [num, be4, List.foldl_cons, List.foldl_nil]
  omega
theorem be2_num {o : List Int} (h : By o) (hl : o.length = 2) : be2 (num o) = o := by
  obtain ⟨a, b, rfl⟩ : ∃ a b, o = [a, b] := by
    match o, hl with
    | [a, b], _ => exact ⟨a, b, rfl⟩
  have h1 := h a (by simp)
  have h2 := h b (by simp)
  simp only [num, be2, List.foldl_cons, List.foldl_nil, List.cons.injEq, and_true]
  omega
theorem be4_num {o : List Int} (h : By o) (hl : o.length = 4) : be4 (num o) = o := by
  obtain ⟨a, b, c, d, rfl⟩ : ∃ a b c d, o = [a, b, c, d] := by
    match o, hl with
    | [a, b, c, d], _ => exact ⟨a, b, c, d, rfl⟩
  have h1 := h a (by simp)
  have h2 := h b (by simp)
  have h3 := h c (by simp)
  have h4 := h d (by simp)
  simp only [num, be4, List.foldl_cons, List.foldl_nil, List.cons.injEq, and_true]
  omega
theorem num_bound : ∀ {o : List Int} {v : Int}, By o → 0 ≤ v → 0 ≤ o.foldl (fun n x => n * 256 + x) v ∧ o.foldl (fun n x => n * 256 + x) v < (v + 1) * 256 ^ o.length
  | [], v, _, h => by
    simp only [List.foldl_nil, List.length_nil, Int.pow_zero]
    omega
  | x :: r, v, hb, h => by
    have hx := hb x List.mem_cons_self
    obtain ⟨a, b⟩ := num_bound (o := r) (v := v * 256 + x) (fun y hy => hb y (List.mem_cons_of_mem _ hy)) (by omega)
    rw [List.foldl_cons, List.length_cons]
    refine ⟨a, Int.lt_of_lt_of_le b ?_⟩
    rw [Int.pow_succ, Int.mul_comm (256 ^ r.length) 256, ← Int.mul_assoc]
    exact Int.mul_le_mul_of_nonneg_right (by omega) (Int.pow_nonneg (by decide))
theorem num_pos {o : List Int} (h : By o) : 0 ≤ num o := (num_bound h (by decide)).1
theorem num_lt2 {o : List Int} (h : By o) (hl : o.length ≤ 2) : num o < 65536 := by
  have := (num_bound h (v := 0) (by decide)).2
  refine Int.lt_of_lt_of_le this ?_
  match o, hl with
  | [], _ => show (0 + 1 : Int) * 256 ^ 0 ≤ _; decide
  | [_], _ => show (0 + 1 : Int) * 256 ^ 1 ≤ _; decide
  | [_, _], _ => show (0 + 1 : Int) * 256 ^ 2 ≤ _; decide
theorem num_lt4 {o : List Int} (h : By o) (hl : o.length ≤ 4) : num o < 4294967296 := by
  have := (num_bound h (v := 0) (by decide)).2
  refine Int.lt_of_lt_of_le this ?_
  match o, hl with
  | [], _ => show (0 + 1 : Int) * 256 ^ 0 ≤ _; decide
  | [_], _ => show (0 + 1 : Int) * 256 ^ 1 ≤ _; decide
  | [_, _], _ => show (0 + 1 : Int) * 256 ^ 2 ≤ _; decide
  | [_, _, _], _ => show (0 + 1 : Int) * 256 ^ 3 ≤ _; decide
  | [_, _, _, _], _ => show (0 + 1 : Int) * 256 ^ 4 ≤ _; decide
/-! ### cuts -/
section
variable {α : Type}
theorem sIx_le {n d : Nat} {v : Int} (h0 : 0 ≤ v) : HT.sIx n d (some v) = min v.toNat n := by
  show (if v < 0 then (v + (n : Int)).toNat else min v.toNat n) = _
  rw [if_neg (by omega)]
theorem cut_ab {xs : List α} {a b : Int} (h0 : 0 ≤ a) (h1 : 0 ≤ b) : cutL xs (some a) (some b) = (xs.drop a.toNat).take (b.toNat - a.toNat) := by
  unfold cutL
  rw [sIx_le h0, sIx_le h1]
  apply List.ext_getElem?
  intro i
  rw [List.getElem?_take, List.getElem?_take, List.getElem?_drop, List.getElem?_drop]
  by_cases c : a.toNat ≤ xs.length
  · rw [Nat.min_eq_left c]
    by_cases d : i < b.toNat - a.toNat
    · rw [if_pos d]
      by_cases e : i < min b.toNat xs.length - a.toNat
      · rw [if_pos e]
      · rw [if_neg e, List.getElem?_eq_none (by omega)]
    · rw [if_neg d, if_neg (by omega)]
  · rw [List.getElem?_eq_none (by omega), List.getElem?_eq_none (by omega)]
    simp
theorem cut_to' {xs : List α} {b : Int} (h1 : 0 ≤ b) : cutL xs none (some b) = xs.take b.toNat := by
  unfold cutL
  rw [sIx_le h1]
  show (xs.drop 0).take (min b.toNat xs.length - 0) = _
  rw [List.drop_zero, Nat.sub_zero]
  by_cases c : b.toNat ≤ xs.length
  · rw [Nat.min_eq_left c]
  · rw [Nat.min_eq_right (by omega), List.take_of_length_le (by omega), List.take_of_length_le (by omega)]
theorem cut_from' {xs : List α} {a : Int} (h0 : 0 ≤ a) : cutL xs (some a) none = xs.drop a.toNat := by
  unfold cutL
  rw [sIx_le h0]
  show (xs.drop (min a.toNat xs.length)).take (xs.length - min a.toNat xs.length) = _
  by_cases c : a.toNat ≤ xs.length
  · rw [Nat.min_eq_left c, List.take_of_length_le (by rw [List.length_drop]; omega)]
  · rw [Nat.min_eq_right (by omega), List.drop_of_length_le (by omega), List.drop_of_length_le (by omega)]
    simp
theorem mid {P X S : List α} {k l : Nat} (hk : P.length = k) (hl : X.length = l) : ((P ++ X ++ S).drop k).take l = X := by
  subst hk hl
  rw [List.append_assoc, List.drop_left, List.take_left]
theorem take_drop_take {xs : List α} {m k l : Nat} (h : k + l ≤ m) : ((xs.take m).drop k).take l = (xs.drop k).take l := by
  rw [List.drop_take, List.take_take, Nat.min_eq_left (by omega)]
/-- cuts that lie one behind the other -/
theorem cuts_flat {o : List α} {a l : Nat → Nat} (h : ∀ i, a (i + 1) = a i + l i) : ∀ n, (List.range n).flatMap (fun i => (o.drop (a i)).take (l i)) = (o.drop (a 0)).take (a n - a 0) ∧ a 0 ≤ a n
  | 0 => by simp
  | n + 1 => by
    obtain ⟨e, k⟩ := cuts_flat (o := o) h n
    refine ⟨?_, by rw [h n]; omega⟩
    rw [List.range_succ, List.flatMap_append, e, h n, show a n + l n - a 0 = (a n - a 0) + l n by omega, List.take_add, List.drop_drop, show a 0 + (a n - a 0) = a n by omega]
    simp
theorem forS_flat {xs : List α} {F : List Int → α → Rx (List Int)} {f : α → List Int} {M : Nat} (h : ∀ x ∈ xs, ∀ s : List Int, s.length + (f x).length ≤ M → F s x = .ok (s ++ f x)) : ∀ {s : List Int}, s.length + (xs.flatMap f).length ≤ M → forS xs s F = .ok (s ++ xs.flatMap f) := by
  induction xs with
  | nil => intro s _; simp [forS]
  | cons x r ih =>
    intro s hl
    rw [List.flatMap_cons, List.length_append] at hl
    show (F s x).bind _ = _
    rw [h x List.mem_cons_self s (by omega), bind_ok, ih (fun y hy => h y (List.mem_cons_of_mem _ hy)) (by rw [List.length_append]; omega), List.flatMap_cons, List.append_assoc]
theorem forS_map {β σ : Type} {xs : List α} {h : α → β} {s : σ} {F : σ → β → Rx σ} : forS (xs.map h) s F = forS xs s fun s x => F s (h x) := by
  induction xs generalizing s with
  | nil => rfl
  | cons x r ih =>
    show (F s (h x)).bind _ = (F s (h x)).bind _
    congr 1
    funext s'
    exact ih
end
/-- a loop that may return -/
theorem Gv.forRR {α σ ρ : Type} {P : Nat → σ → Prop} {Q : ρ → Prop} {xs : List α} {s : σ} {f : σ → α → Rx (Lp σ ρ)} (h0 : P 0 s) (hs : ∀ i x s, xs[i]? = some x → P i s → Gv (f s x) (fun l => (∃ s', l = .go s' ∧ P (i + 1) s') ∨ ∃ r, l = .rt r ∧ Q r)) : Gv (Vx.forR xs s f) (fun l => (∃ s', l = .go s' ∧ P xs.length s') ∨ ∃ r, l = .rt r ∧ Q r) := by
  induction xs generalizing s P with
  | nil => exact .ok (.inl ⟨s, rfl, h0⟩)
  | cons x r ih =>
    refine Gv.bind (hs 0 x s rfl h0) ?_
    rintro _ (⟨s', rfl, p⟩ | ⟨r, rfl, q⟩)
    · exact ih (P := fun i => P (i + 1)) p fun i y s hy q => hs (i + 1) y s (by simpa using hy) q
    · exact .ok (.inr ⟨r, rfl, q⟩)
/-! ### the container -/
abbrev En := List (Int × List Int)
theorem rngD_low {c : Int} {x : Int} (h : x ∈ rngD c (Int.toNat (c - -1))) : 0 ≤ x ∧ x ≤ c := by
  unfold rngD at h
  obtain ⟨j, hj, rfl⟩ := List.mem_map.mp h
  have := List.mem_range.mp hj
  omega
theorem number_of_ok {o : List Int} (h : By o) (hl : o.length ≤ 4) : F__number_of o = .ok (num o) := by
  unfold F__number_of
  have key : Gv (forS o (0 : Int) fun s x => F__number_of_b1 s x) (fun s => s = (o.take o.length).foldl (fun n x => n * 256 + x) 0) := by
    refine Gv.forS (P := fun i s => s = (o.take i).foldl (fun n x => n * 256 + x) 0) (by simp) fun i x s hx p => ?_
    have hi := get_len hx
    have bs : By (o.take i) := h.take i
    have b1 := num_bound bs (v := 0) (by decide)
    have b2 : num (o.take i) < 4294967296 := num_lt4 bs (by rw [List.length_take]; omega)
    have hx2 := h x (List.mem_of_getElem? hx)
    rw [← p] at b1
    have b3 : s < 4294967296 := by rw [p]; exact b2
    unfold F__number_of_b1
    obtain ⟨g1, g2⟩ := big96 b1.1 (by omega)
    refine Gv.grd ⟨by decide, by decide, g1, g2⟩ (Gv.bnd fun v hv => .ok ?_)
    subst hv
    rw [show (2 : Int) ^ Int.toNat 8 = 256 by decide, or8 b1.1 hx2.1 (by omega), List.take_add_one, hx, List.foldl_append, ← p]
    rfl
  refine Gv.get (Gv.bind key fun s e => .ok ?_)
  rw [e, List.take_length]
  rfl
theorem octets4_ok (n : Int) : F__octets_of n 4 = .ok (be4 n) := by
  unfold F__octets_of
  rw [grd_pos (by decide), mapA_pure0 (g := fun p => PySem.Builtin.bitAnd (n / 2 ^ Int.toNat (8 * p)) 255) (fun p hp => ?_) (by decide), bind_ok]
  · rw [show rngD (4 - 1) (Int.toNat (4 - 1 - -1)) = [3, 2, 1, 0] by decide]
    simp only [List.map_cons, List.map_nil, mask8]
    rw [show Int.toNat (8 * 3) = 24 by decide, show Int.toNat (8 * 2) = 16 by decide, show Int.toNat (8 * 1) = 8 by decide, show Int.toNat (8 * 0) = 0 by decide]
    simp [be4]
  · have h := rngD_low hp
    unfold F__octets_of_c1
    rw [grd_pos (by omega)]
    rfl
theorem octets2_ok (n : Int) : F__octets_of n 2 = .ok (be2 n) := by
  unfold F__octets_of
  rw [grd_pos (by decide), mapA_pure0 (g := fun p => PySem.Builtin.bitAnd (n / 2 ^ Int.toNat (8 * p)) 255) (fun p hp => ?_) (by decide), bind_ok]
  · rw [show rngD (2 - 1) (Int.toNat (2 - 1 - -1)) = [1, 0] by decide]
    simp only [List.map_cons, List.map_nil, mask8]
    rw [show Int.toNat (8 * 1) = 8 by decide, show Int.toNat (8 * 0) = 0 by decide]
    simp [be2]
  · have h := rngD_low hp
    unfold F__octets_of_c1
    rw [grd_pos (by omega)]
    rfl
theorem lnumber4_ok (n : Int) : F__law_number n 4 = .ok (be4 n) := by
  unfold F__law_number
  rw [grd_pos (by decide), mapA_pure0 (g := fun p => PySem.Builtin.bitAnd (n / 2 ^ Int.toNat (8 * (4 - 1 - p))) 255) (fun p hp => ?_) (by decide), bind_ok]
  · rw [show rng 0 (Int.toNat 4) = [0, 1, 2, 3] by decide]
    simp only [List.map_cons, List.map_nil, mask8]
    rw [show Int.toNat (8 * (4 - 1 - 0)) = 24 by decide, show Int.toNat (8 * (4 - 1 - 1)) = 16 by decide, show Int.toNat (8 * (4 - 1 - 2)) = 8 by decide, show Int.toNat (8 * (4 - 1 - 3)) = 0 by decide]
    simp [be4]
  · have h := rng_mem hp
    unfold F__law_number_c1
    rw [grd_pos (by omega)]
    rfl
theorem lnumber2_ok (n : Int) : F__law_number n 2 = .ok (be2 n) := by
  unfold F__law_number
  rw [grd_pos (by decide), mapA_pure0 (g := fun p => PySem.Builtin.bitAnd (n / 2 ^ Int.toNat (8 * (2 - 1 - p))) 255) (fun p hp => ?_) (by decide), bind_ok]
  · rw [show rng 0 (Int.toNat 2) = [0, 1] by decide]
    simp only [List.map_cons, List.map_nil, mask8]
    rw [show Int.toNat (8 * (2 - 1 - 0)) = 8 by decide, show Int.toNat (8 * (2 - 1 - 1)) = 0 by decide]
    simp [be2]
  · have h := rng_mem hp
    unfold F__law_number_c1
    rw [grd_pos (by omega)]
    rfl
/-! ### the times -/
def asc : List Int → Bool
  | a :: b :: r => decide (a < b) && asc (b :: r)
  | _ => true
def okT (ts : List Int) : Bool := ts.all (fun t => decide (0 ≤ t) && decide (t ≤ 4294967295)) && asc ts
theorem asc_zip : ∀ (ts : List Int), ((ts.zip (ts.drop 1)).map fun p => decide (p.1 < p.2)).all id = asc ts
  | [] => rfl
  | [_] => rfl
  | a :: b :: r => by
    have := asc_zip (b :: r)
    simp only [List.drop_succ_cons, List.drop_zero] at this
    simp only [List.drop_succ_cons, List.drop_zero, List.zip_cons_cons, List.map_cons, List.all_cons, asc, this, id]
theorem asc_mid {a b : Int} : ∀ {A B : List Int}, asc (A ++ a :: b :: B) = true → a < b
  | [], B, h => by
    simp only [List.nil_append, asc, Bool.and_eq_true, decide_eq_true_eq] at h
    exact h.1
  | [x], B, h => by
    simp only [List.cons_append, List.nil_append, asc, Bool.and_eq_true, decide_eq_true_eq] at h
    exact h.2.1
  | x :: y :: r, B, h => by
    have h2 : asc ((y :: r) ++ a :: b :: B) = true := by
      simp only [List.cons_append, asc, Bool.and_eq_true] at h
      exact h.2
    exact asc_mid h2
theorem asc_snoc {t : Int} : ∀ {ts : List Int}, asc ts = true → (∀ x ∈ ts, x < t) → asc (ts ++ [t]) = true
  | [], _, _ => rfl
  | [x], _, h => by
    simp only [List.cons_append, List.nil_append, asc, Bool.and_eq_true, decide_eq_true_eq]
    exact ⟨h x (by simp), trivial⟩
  | x :: y :: r, a, h => by
    simp only [asc, Bool.and_eq_true] at a
    simp only [List.cons_append, asc, Bool.and_eq_true]
    exact ⟨a.1, asc_snoc (ts := y :: r) a.2 fun z hz => h z (List.mem_cons_of_mem _ hz)⟩
theorem okT_range {ts : List Int} (h : okT ts = true) : ∀ t ∈ ts, 0 ≤ t ∧ t ≤ 4294967295 := fun t ht => by
  simp only [okT, Bool.and_eq_true, List.all_eq_true, decide_eq_true_eq] at h
  exact h.1 t ht
theorem okT_asc {ts : List Int} (h : okT ts = true) : asc ts = true := by
  simp only [okT, Bool.and_eq_true] at h
  exact h.2
theorem okT_of {ts : List Int} (h : ∀ t ∈ ts, 0 ≤ t ∧ t ≤ 4294967295) (k : asc ts = true) : okT ts = true := by
  simp only [okT, Bool.and_eq_true, List.all_eq_true, decide_eq_true_eq]
  exact ⟨h, k⟩
theorem require_t (s : Str) : F__require true s = .ok () := rfl
theorem require_f (s : Str) : F__require false s = .er 2 := rfl
theorem check_times_eq {ts : List Int} (hl : ts.length ≤ 1000000) : F__check_times ts = if okT ts = true then .ok () else .er 2 := by
  unfold F__check_times
  rw [mapA_pure0 (f := fun x => noEr (F__check_times_c1 x)) (g := fun t => decide (0 ≤ t) && decide (t ≤ 4294967295)) (fun t _ => rfl) hl, bind_ok]
  rw [mapA_pure0 (xs := List.zip ts (cutL ts (some 1) none)) (f := fun x => noEr (F__check_times_c2 x)) (g := fun p => decide (p.1 < p.2)) (fun t _ => rfl) (by rw [List.length_zip]; omega), bind_ok, cut_from' (by decide)]
  show Rx.bind _ _ = _
  rw [show (ts.drop (Int.toNat 1)) = ts.drop 1 from rfl]
  simp only [bnd, asc_zip]
  have e : List.all (ts.map fun t => decide (0 ≤ t) && decide (t ≤ 4294967295)) id = ts.all (fun t => decide (0 ≤ t) && decide (t ≤ 4294967295)) := by
    rw [List.all_map]; rfl
  rw [e]
  unfold okT
  cases ts.all (fun t => decide (0 ≤ t) && decide (t ≤ 4294967295)) <;> cases asc ts <;> rfl
theorem flat_congr {α β : Type} {xs : List α} {f g : α → List β} (h : ∀ x ∈ xs, f x = g x) : xs.flatMap f = xs.flatMap g := by
  induction xs with
  | nil => rfl
  | cons x r ih => rw [List.flatMap_cons, List.flatMap_cons, h x List.mem_cons_self, ih fun y hy => h y (List.mem_cons_of_mem _ hy)]
theorem cut_mem' {α : Type} {xs : List α} {a b : Option Int} {x : α} (h : x ∈ cutL xs a b) : x ∈ xs := by
  unfold cutL at h
  exact List.mem_of_mem_drop (List.mem_of_mem_take h)
/-! ### packed -/
def ent (e : Int × List Int) : List Int := be4 e.1 ++ be4 e.2.length
def mark : List Int := [84, 72, 65, 85]
def pk (es : En) : List Int := mark ++ be2 es.length ++ es.flatMap ent ++ es.flatMap (·.2)
theorem ent_len (e : Int × List Int) : (ent e).length = 8 := rfl
theorem flat_ent_len (es : En) : (es.flatMap ent).length = 8 * es.length := by
  induction es with
  | nil => rfl
  | cons e r ih => rw [List.flatMap_cons, List.length_append, ih, ent_len, List.length_cons]; omega
theorem pk_len (es : En) : (pk es).length = 6 + 8 * es.length + (es.flatMap (·.2)).length := by
  unfold pk
  rw [List.length_append, List.length_append, flat_ent_len]
  rfl
theorem pack_er {es : En} (hl : es.length ≤ 65535) (h : okT (es.map (·.1)) = false) : F_pack_container es = .er 2 := by
  unfold F_pack_container
  rw [if_neg (by omega), mapA_pure0 (f := fun x => noEr (F_pack_container_c1 x)) (g := (·.1)) (fun x _ => rfl) (by omega), bind_ok, check_times_eq (by rw [List.length_map]; omega), h]
  rfl
theorem pack_ok {es : En} (hl : es.length ≤ 65535) (h : okT (es.map (·.1)) = true) (hs : (pk es).length ≤ 1000000) : F_pack_container es = .ok (pk es) := by
  have hp := pk_len es
  unfold F_pack_container
  rw [if_neg (by omega), mapA_pure0 (f := fun x => noEr (F_pack_container_c1 x)) (g := (·.1)) (fun x _ => rfl) (by omega), bind_ok, check_times_eq (by rw [List.length_map]; omega), h, if_pos rfl, bind_ok, octets2_ok, bind_ok, grd_pos (by show 4 + 2 ≤ _; decide),
    forS_flat (f := ent) (M := 1000000) (fun x _ s hs => ?_) (by rw [flat_ent_len]; show 6 + _ ≤ _; omega), bind_ok]
  · unfold F_pack_container_r2
    rw [forS_flat (f := fun e : Int × List Int => e.2) (M := 1000000) (fun x _ s hs => ?_) (by rw [List.length_append, flat_ent_len]; show 6 + _ + _ ≤ _; omega), bind_ok]
    · rfl
    · unfold F_pack_container_b3
      rw [grd_pos (by omega)]
      rfl
  · unfold F_pack_container_b2
    rw [octets4_ok, bind_ok, octets4_ok, bind_ok, grd_pos (by show 4 + 4 ≤ _; decide), grd_pos (p := s.length + (be4 x.1 ++ be4 (x.2.length : Int)).length ≤ 1000000) hs]
    rfl
theorem packed_ok {es : En} (hs : (pk es).length ≤ 1000000) : F__law_packed es = .ok (pk es) := by
  have hp := pk_len es
  unfold F__law_packed
  rw [lnumber2_ok, bind_ok, grd_pos (by show 4 + 2 ≤ _; decide),
    forS_flat (f := ent) (M := 1000000) (fun x _ s hs => ?_) (by rw [flat_ent_len]; show 6 + _ ≤ _; omega), bind_ok]
  · unfold F__law_packed_r1
    rw [forS_flat (f := fun e : Int × List Int => e.2) (M := 1000000) (fun x _ s hs => ?_) (by rw [List.length_append, flat_ent_len]; show 6 + _ + _ ≤ _; omega), bind_ok]
    · rfl
    · unfold F__law_packed_b2
      rw [grd_pos (by omega)]
  · rw [ent_len] at hs
    unfold F__law_packed_b1
    rw [lnumber4_ok, bind_ok, grd_pos (by show s.length + 4 ≤ _; omega), lnumber4_ok, bind_ok, grd_pos (by rw [List.length_append]; show s.length + 4 + 4 ≤ _; omega), List.append_assoc]
    rfl
/-! ### opened -/
def tm (o : List Int) (i : Nat) : Int := num ((o.drop (6 + 8 * i)).take 4)
def ln (o : List Int) (i : Nat) : Nat := (num ((o.drop (6 + 8 * i + 4)).take 4)).toNat
def ed (o : List Int) (n : Nat) : Nat → Nat
  | 0 => 6 + 8 * n
  | i + 1 => ed o n i + ln o i
def cnt (o : List Int) : Nat := (num ((o.drop 4).take 2)).toNat
def ens (o : List Int) (n : Nat) : En := (List.range n).map fun i => (tm o i, (o.drop (ed o n i)).take (ln o i))
/-- the octets are those of a container -/
structure Op (o : List Int) : Prop where
  six : 6 ≤ o.length
  head : o.take 4 = mark
  whole : o.length = ed o (cnt o) (cnt o)
  times : okT ((List.range (cnt o)).map (tm o)) = true
theorem ens_times (o : List Int) (n : Nat) : (ens o n).map (·.1) = (List.range n).map (tm o) := by
  unfold ens
  rw [List.map_map]
  rfl
theorem ens_len (o : List Int) (n : Nat) : (ens o n).length = n := by
  unfold ens
  rw [List.length_map, List.length_range]
theorem cnt_lt {o : List Int} (h : By o) : cnt o < 65536 := by
  have := num_lt2 ((h.drop 4).take 2) (by rw [List.length_take]; omega)
  unfold cnt
  omega
theorem open_loop {o : List Int} (h : By o) {n : Nat} (hn : n < 65536) : forS (rng 0 n) ((((6 + 8 * n : Nat) : Int)), ([] : En)) (fun s x => F_open_container_b2 o s.1 s.2 x) = .ok (((ed o n n : Nat) : Int), ens o n) := by
  refine Gv.get (Gv.imp (Gv.forS (P := fun i s => s = (((ed o n i : Nat) : Int), (List.range i).map fun i => (tm o i, (o.drop (ed o n i)).take (ln o i)))) rfl fun i x s hx p => ?_) fun s e => ?_)
  · obtain ⟨rfl, hi⟩ := rng_at hx
    subst p
    unfold F_open_container_b2
    refine Gv.bnd fun pl hpl => ?_
    have epl : pl = ((6 + 8 * i : Nat) : Int) := by rw [hpl]; omega
    subst epl
    have b1 : By ((o.drop (6 + 8 * i + 4)).take 4) := (h.drop _).take 4
    have b2 : By ((o.drop (6 + 8 * i)).take 4) := (h.drop _).take 4
    have e1 : cutL o (some (((6 + 8 * i : Nat) : Int) + 4)) (some (((6 + 8 * i : Nat) : Int) + 8)) = (o.drop (6 + 8 * i + 4)).take 4 := by
      rw [cut_ab (by omega) (by omega)]
      congr 1 <;> first | omega | (congr 1 <;> omega)
    have e2 : cutL o (some ((6 + 8 * i : Nat) : Int)) (some (((6 + 8 * i : Nat) : Int) + 4)) = (o.drop (6 + 8 * i)).take 4 := by
      rw [cut_ab (by omega) (by omega)]
      congr 1 <;> first | omega | (congr 1 <;> omega)
    have hv := num_pos b1
    rw [e1, e2]
    refine Gv.bind_eq (number_of_ok b1 (by rw [List.length_take]; omega)) (Gv.bind_eq (number_of_ok b2 (by rw [List.length_take]; omega)) (Gv.grd (by rw [List.length_map, List.length_range]; omega) (Gv.bnd fun y hy => Gv.bnd fun z hz => .ok ?_)))
    subst hy hz
    have e3 : (num ((o.drop (6 + 8 * i + 4)).take 4)) = ((ln o i : Nat) : Int) := by unfold ln; omega
    have e4 : cutL o (some ((ed o n i : Nat) : Int)) (some (((ed o n i : Nat) : Int) + num ((o.drop (6 + 8 * i + 4)).take 4))) = (o.drop (ed o n i)).take (ln o i) := by
      rw [e3, cut_ab (by omega) (by omega)]
      congr 1 <;> first | omega | (congr 1 <;> omega)
    rw [e4, e3, List.range_succ, List.map_append]
    refine Prod.ext ?_ rfl
    show _ = (((ed o n i + ln o i : Nat)) : Int)
    omega
  · rw [e, rng_len]
    rfl
theorem open_eq {o : List Int} (h : By o) : (Op o → F_open_container o = .ok (ens o (cnt o))) ∧ (¬ Op o → F_open_container o = .er 2) := by
  have hn := cnt_lt h
  by_cases c1 : 6 ≤ o.length
  · by_cases c2 : o.take 4 = mark
    · have e : F_open_container o = F_open_container_r2 o ((ed o (cnt o) (cnt o) : Nat) : Int) (ens o (cnt o)) := by
        unfold F_open_container
        rw [if_pos (by simp; omega), cut_to' (by decide)]
        rw [show o.take (Int.toNat 4) = [84, 72, 65, 85] from c2]
        show F_open_container_k1 o = _
        unfold F_open_container_k1
        have b : By ((o.drop 4).take 2) := (h.drop _).take 2
        have hv := num_pos b
        have e1 : cutL o (some 4) (some 6) = (o.drop 4).take 2 := by rw [cut_ab (by decide) (by decide)]; rfl
        rw [e1, number_of_ok b (by rw [List.length_take]; omega), bind_ok, bnd_eq]
        have e2 : num ((o.drop 4).take 2) = ((cnt o : Nat) : Int) := by unfold cnt; omega
        rw [e2, grd_pos (by omega), Int.toNat_natCast]
        have e3 : (6 + 8 * ((cnt o : Nat) : Int)) = ((6 + 8 * cnt o : Nat) : Int) := by omega
        rw [e3, open_loop h hn]
        rfl
      rw [e]
      unfold F_open_container_r2
      by_cases c3 : o.length = ed o (cnt o) (cnt o)
      · rw [show decide (((o : List Int).length : Int) = ((ed o (cnt o) (cnt o) : Nat) : Int)) = true from decide_eq_true (by omega), require_t, bind_ok, mapA_pure0 (f := fun x => noEr (F_open_container_c3 x)) (g := (·.1)) (fun x _ => rfl) (by rw [ens_len]; omega), bind_ok, check_times_eq (by rw [List.length_map, ens_len]; omega), ens_times]
        by_cases c4 : okT ((List.range (cnt o)).map (tm o)) = true
        · rw [if_pos c4]
          exact ⟨fun _ => rfl, fun n => absurd ⟨c1, c2, c3, c4⟩ n⟩
        · rw [if_neg c4]
          exact ⟨fun n => absurd n.times c4, fun _ => rfl⟩
      · rw [show decide (((o : List Int).length : Int) = ((ed o (cnt o) (cnt o) : Nat) : Int)) = false by simp only [decide_eq_false_iff_not]; omega]
        exact ⟨fun n => absurd n.whole c3, fun _ => rfl⟩
    · refine ⟨fun n => absurd n.head c2, fun _ => ?_⟩
      unfold F_open_container
      rw [if_pos (by simp; omega), cut_to' (by decide), show decide ((o.take (Int.toNat 4) : List Int) = [84, 72, 65, 85]) = false from decide_eq_false c2]
      rfl
  · refine ⟨fun n => absurd n.six c1, fun _ => ?_⟩
    unfold F_open_container
    rw [if_neg (by simp; omega)]
    rfl

/-! ### what was packed is opened -/
structure Fit (es : En) : Prop where
  len : es.length < 65536
  tim : ∀ e ∈ es, 0 ≤ e.1 ∧ e.1 < 4294967296
  siz : ∀ e ∈ es, e.2.length < 4294967296
theorem pk_by {es : En} (h : ∀ e ∈ es, By e.2) : By (pk es) := by
  unfold pk
  refine By.app (By.app (By.app (fun x hx => ?_) (be2_by _)) (By.flat fun e _ => By.app (be4_by _) (be4_by _))) (By.flat h)
  simp only [mark, List.mem_cons, List.not_mem_nil, or_false] at hx
  omega
theorem split_at {es : En} {i : Nat} {e : Int × List Int} (h : es[i]? = some e) : es = es.take i ++ e :: es.drop (i + 1) := by
  have hi := get_len h
  rw [List.getElem?_eq_getElem hi] at h
  rw [← Option.some.inj h, List.getElem_cons_drop, List.take_append_drop]
theorem pk_cnt {es : En} (h : Fit es) : cnt (pk es) = es.length := by
  unfold cnt
  rw [show pk es = mark ++ be2 es.length ++ (es.flatMap ent ++ es.flatMap (·.2)) by unfold pk; simp only [List.append_assoc], mid (k := 4) (l := 2) rfl rfl, num_be2 (by omega) (by have := h.len; omega)]
  omega
theorem pk_tm {es : En} (h : Fit es) {i : Nat} {e : Int × List Int} (he : es[i]? = some e) : tm (pk es) i = e.1 := by
  have hi := get_len he
  have s := split_at he
  have hm := h.tim e (List.mem_of_getElem? he)
  have k : pk es = (mark ++ be2 es.length ++ (es.take i).flatMap ent) ++ be4 e.1 ++ (be4 e.2.length ++ (es.drop (i + 1)).flatMap ent ++ es.flatMap (·.2)) := by
    unfold pk
    rw [show es.flatMap ent = (es.take i ++ e :: es.drop (i + 1)).flatMap ent by rw [← s], List.flatMap_append, List.flatMap_cons]
    simp only [ent, List.append_assoc]
  unfold tm
  rw [k, mid (k := 6 + 8 * i) (l := 4) (by rw [List.length_append, flat_ent_len, List.length_take, Nat.min_eq_left (by omega)]; rfl) rfl, num_be4 hm.1 hm.2]
theorem pk_ln {es : En} (h : Fit es) {i : Nat} {e : Int × List Int} (he : es[i]? = some e) : ln (pk es) i = e.2.length := by
  have hi := get_len he
  have s := split_at he
  have hm := h.siz e (List.mem_of_getElem? he)
  have k : pk es = (mark ++ be2 es.length ++ (es.take i).flatMap ent ++ be4 e.1) ++ be4 e.2.length ++ ((es.drop (i + 1)).flatMap ent ++ es.flatMap (·.2)) := by
    unfold pk
    rw [show es.flatMap ent = (es.take i ++ e :: es.drop (i + 1)).flatMap ent by rw [← s], List.flatMap_append, List.flatMap_cons]
    simp only [ent, List.append_assoc]
  unfold ln
  rw [k, mid (k := 6 + 8 * i + 4) (l := 4) (by rw [List.length_append, List.length_append, flat_ent_len, List.length_take, Nat.min_eq_left (by omega)]; rfl) rfl, num_be4 (by omega) (by omega)]
  omega
theorem pk_ed {es : En} (h : Fit es) : ∀ {i : Nat}, i ≤ es.length → ed (pk es) es.length i = 6 + 8 * es.length + ((es.take i).flatMap (·.2)).length
  | 0, _ => rfl
  | i + 1, hi => by
    have he : es[i]? = some es[i] := List.getElem?_eq_getElem (by omega)
    rw [ed, pk_ed h (by omega), pk_ln h he, List.take_add_one, he, List.flatMap_append, List.length_append]
    simp
    omega
theorem pk_ens {es : En} (h : Fit es) : ens (pk es) es.length = es := by
  apply List.ext_getElem?
  intro i
  unfold ens
  rw [List.getElem?_map]
  by_cases hi : i < es.length
  · have he : es[i]? = some es[i] := List.getElem?_eq_getElem hi
    rw [List.getElem?_range hi, he]
    generalize es[i] = e at he
    have s := split_at he
    show some (tm (pk es) i, ((pk es).drop (ed (pk es) es.length i)).take (ln (pk es) i)) = some e
    have k : pk es = (mark ++ be2 es.length ++ es.flatMap ent ++ (es.take i).flatMap (·.2)) ++ e.2 ++ (es.drop (i + 1)).flatMap (·.2) := by
      unfold pk
      rw [show es.flatMap (fun x : Int × List Int => x.2) = (es.take i ++ e :: es.drop (i + 1)).flatMap (·.2) by rw [← s], List.flatMap_append, List.flatMap_cons]
      simp only [List.append_assoc]
    rw [pk_tm h he, pk_ln h he, pk_ed h (by omega)]
    have z : ((pk es).drop (6 + 8 * es.length + ((es.take i).flatMap fun x : Int × List Int => x.2).length)).take e.2.length = e.2 := by
      rw [k]
      exact mid (by rw [List.length_append, List.length_append, flat_ent_len]; rfl) rfl
    rw [z]
  · rw [List.getElem?_eq_none (by rw [List.length_range]; omega), List.getElem?_eq_none (by omega)]
    rfl
theorem pk_op {es : En} (h : Fit es) : Op (pk es) ↔ okT (es.map (·.1)) = true := by
  have e := pk_ens h
  have t : (List.range es.length).map (tm (pk es)) = es.map (·.1) := by rw [← ens_times, e]
  constructor
  · intro o
    have := o.times
    rwa [pk_cnt h, t] at this
  · intro o
    refine ⟨by rw [pk_len]; omega, rfl, ?_, by rw [pk_cnt h, t]; exact o⟩
    rw [pk_cnt h, pk_ed h (Nat.le_refl _), pk_len, List.take_length]
/-! ### what was opened packs as it was -/
theorem ed_le (o : List Int) (n : Nat) : ∀ {i j : Nat}, i ≤ j → ed o n i ≤ ed o n j := by
  intro i j h
  induction h with
  | refl => exact Nat.le_refl _
  | step _ ih => exact Nat.le_trans ih (Nat.le_add_right _ _)
theorem op_pk {o : List Int} (hb : By o) (h : Op o) : pk (ens o (cnt o)) = o := by
  have hn := cnt_lt hb
  have h6 := h.six
  have hw := h.whole
  have h0 := ed_le o (cnt o) (Nat.zero_le (cnt o))
  have hz : ed o (cnt o) 0 = 6 + 8 * cnt o := rfl
  generalize hN : cnt o = n at *
  have p1 : be2 (ens o n).length = (o.drop 4).take 2 := by
    have b : By ((o.drop 4).take 2) := (hb.drop _).take 2
    have := num_pos b
    rw [ens_len, ← hN, show ((cnt o : Nat) : Int) = num ((o.drop 4).take 2) by unfold cnt; omega, be2_num b (by rw [List.length_take, List.length_drop]; omega)]
  have p2 : (ens o n).flatMap ent = (o.drop 6).take (8 * n) := by
    have k := (cuts_flat (o := o) (a := fun i => 6 + 8 * i) (l := fun _ => 8) (fun i => by omega) n).1
    rw [show 6 + 8 * n - (6 + 8 * 0) = 8 * n by omega] at k
    rw [← k]
    unfold ens
    rw [List.flatMap_map]
    refine flat_congr fun i hi => ?_
    have hi := List.mem_range.mp hi
    have b1 : By ((o.drop (6 + 8 * i)).take 4) := (hb.drop _).take 4
    have b2 : By ((o.drop (6 + 8 * i + 4)).take 4) := (hb.drop _).take 4
    have i1 : ed o n (i + 1) ≤ ed o n n := ed_le o n (Nat.succ_le_of_lt hi)
    have i2 := ed_le o n (Nat.zero_le i)
    have hl : ((o.drop (ed o n i)).take (ln o i)).length = ln o i := by
      rw [List.length_take, List.length_drop]
      have : ed o n (i + 1) = ed o n i + ln o i := rfl
      omega
    show be4 (tm o i) ++ be4 ((o.drop (ed o n i)).take (ln o i)).length = _
    rw [hl, show ((ln o i : Nat) : Int) = num ((o.drop (6 + 8 * i + 4)).take 4) by have := num_pos b2; unfold ln; omega]
    unfold tm
    rw [be4_num b1 (by rw [List.length_take, List.length_drop]; omega), be4_num b2 (by rw [List.length_take, List.length_drop]; omega)]
    rw [show (8 : Nat) = 4 + 4 from rfl, List.take_add, List.drop_drop]
  have p3 : (ens o n).flatMap (·.2) = o.drop (6 + 8 * n) := by
    have k := (cuts_flat (o := o) (a := ed o n) (l := ln o) (fun i => rfl) n).1
    rw [hz, ← hw, List.take_of_length_le (by rw [List.length_drop]; omega)] at k
    rw [← k]
    unfold ens
    rw [List.flatMap_map]
  unfold pk
  rw [p1, p2, p3, ← h.head]
  have q1 : o.take 4 ++ (o.drop 4).take 2 = o.take 6 := by rw [← List.take_add]
  have q2 : o.take 6 ++ (o.drop 6).take (8 * n) = o.take (6 + 8 * n) := by rw [← List.take_add]
  rw [q1, q2, List.take_append_drop]
/-! ### a changed octet -/
theorem ed_same {o p : List Int} {n : Nat} : ∀ {i : Nat}, (∀ j, j < i → ln p j = ln o j) → ed p n i = ed o n i
  | 0, _ => rfl
  | i + 1, h => by rw [ed, ed, h i (by omega), ed_same fun j hj => h j (by omega)]
theorem op_body {o p : List Int} (h : Op o) (hl : p.length = o.length) {m : Nat} (hm : 6 + 8 * cnt o ≤ m) (ht : p.take m = o.take m) : Op p := by
  have key : ∀ k l, k + l ≤ m → (p.drop k).take l = (o.drop k).take l := fun k l hk => by
    rw [← take_drop_take (m := m) hk, ht, take_drop_take hk]
  have c : cnt p = cnt o := by unfold cnt; rw [key 4 2 (by omega)]
  have t : ∀ i, i < cnt o → tm p i = tm o i := fun i hi => by unfold tm; rw [key _ _ (by omega)]
  have l : ∀ i, i < cnt o → ln p i = ln o i := fun i hi => by unfold ln; rw [key _ _ (by omega)]
  refine ⟨by rw [hl]; exact h.six, ?_, ?_, ?_⟩
  · rw [← h.head]
    have := key 0 4 (by omega)
    simpa using this
  · rw [hl, c, ed_same l, ← h.whole]
  · rw [c, show (List.range (cnt o)).map (tm p) = (List.range (cnt o)).map (tm o) from List.map_congr_left fun i hi => t i (List.mem_range.mp hi)]
    exact h.times
theorem ed_up (o : List Int) {n m : Nat} (h : n < m) : ed o n n < ed o m m := by
  have a : ∀ i, ed o n i + 8 * (m - n) = ed o m i := fun i => by
    induction i with
    | zero => simp only [ed]; omega
    | succ i ih => simp only [ed]; omega
  have b := a n
  have c := ed_le o m (Nat.le_of_lt h)
  omega
theorem op_head {o p : List Int} (ho : By o) (hp : By p) (h : Op o) (k : Op p) (hl : p.length = o.length) (hd : ∀ i, 6 ≤ i → p.drop i = o.drop i) : p = o := by
  have l : ∀ i, ln p i = ln o i := fun i => by unfold ln; rw [hd _ (by omega)]
  have c : cnt p = cnt o := by
    have e1 := h.whole
    have e2 := k.whole
    rw [hl, e1, ed_same fun j _ => l j] at e2
    rcases Nat.lt_trichotomy (cnt p) (cnt o) with z | z | z
    · have := ed_up o z; omega
    · exact z
    · have := ed_up o z; omega
  have b1 : By ((o.drop 4).take 2) := (ho.drop _).take 2
  have b2 : By ((p.drop 4).take 2) := (hp.drop _).take 2
  have n1 := num_pos b1
  have n2 := num_pos b2
  have e : num ((p.drop 4).take 2) = num ((o.drop 4).take 2) := by
    unfold cnt at c
    omega
  have h6 := h.six
  have e2 : (p.drop 4).take 2 = (o.drop 4).take 2 := by
    rw [← be2_num b1 (by rw [List.length_take, List.length_drop]; omega), ← be2_num b2 (by rw [List.length_take, List.length_drop]; omega), e]
  have q : ∀ x : List Int, x = x.take 4 ++ (x.drop 4).take 2 ++ x.drop 6 := fun x => by
    rw [← List.take_add, List.take_append_drop]
  rw [q p, q o, h.head, k.head, e2, hd 6 (by omega)]

/-! ### the entries of the law -/
structure Ent (es : En) : Prop where
  len : es.length ≤ 9
  ok : okT (es.map (·.1)) = true
  seg : ∀ e ∈ es, e.2.length ≤ 20 ∧ By e.2
theorem flat_len {es : En} {m : Nat} (h : ∀ e ∈ es, e.2.length ≤ m) : (es.flatMap (·.2)).length ≤ es.length * m := by
  induction es with
  | nil => simp
  | cons e r ih =>
    rw [List.flatMap_cons, List.length_append, List.length_cons, Nat.succ_mul]
    have := h e List.mem_cons_self
    have := ih fun y hy => h y (List.mem_cons_of_mem _ hy)
    omega
theorem Ent.fit {es : En} (h : Ent es) : Fit es := by
  refine ⟨by have := h.len; omega, fun e he => ?_, fun e he => by have := (h.seg e he).1; omega⟩
  have := okT_range h.ok e.1 (List.mem_map.mpr ⟨e, he, rfl⟩)
  omega
theorem Ent.small {es : En} (h : Ent es) : (pk es).length ≤ 300 := by
  rw [pk_len]
  have := flat_len (es := es) (m := 20) fun e he => (h.seg e he).1
  have := h.len
  omega
theorem Ent.by {es : En} (h : Ent es) : By (pk es) := pk_by fun e he => (h.seg e he).2
theorem entries_gv (cell : Int) (hc : 0 ≤ cell) : Gv (F__law_entries cell) Ent := by
  unfold F__law_entries
  have key : ∀ t : Int, 0 ≤ t → t ≤ 4294967295 → Gv (F__law_entries_k1 cell [] t) Ent := fun t h0 h1 => by
    unfold F__law_entries_k1
    refine Gv.grd (by omega) (Gv.bind (Gv.forRR (Q := Ent) (P := fun (i : Nat) (s : En × Int) => s.1.length = i ∧ okT (s.1.map (·.1)) = true ∧ (∀ e ∈ s.1, e.1 < s.2 ∧ e.2.length ≤ 20 ∧ By e.2) ∧ 0 ≤ s.2 ∧ s.2 ≤ 4294967295) ⟨rfl, rfl, (fun e he => absurd he List.not_mem_nil), h0, h1⟩ fun i x s hx p => ?_) ?_)
    · obtain ⟨rfl, hi⟩ := rng_at hx
      obtain ⟨es, t⟩ := s
      obtain ⟨q1, q2, q3, q4, q5⟩ := p
      have q1 : es.length = i := q1
      have hi2 : i ≤ 8 := by omega
      unfold F__law_entries_b2
      refine Gv.grd ⟨by omega, by omega⟩ (Gv.bnd fun draw hd => Gv.bind (digits_gv _ _ _ (by decide) (by decide) (Int.emod_nonneg _ (by decide)) (by omega)) fun dg hg => Gv.grd (by show es.length ≤ 1000000; clear hg; omega) (Gv.bnd fun y hy => Gv.bnd fun st hst => Gv.bind (P := fun z : Int => 1 ≤ z) (.ite (fun _ => .bnd fun z hz => .ok (by omega)) fun _ => .ok (by omega)) fun z hz => ?_))
      subst hy
      have q2 : okT (es.map (·.1)) = true := q2
      have q3 : ∀ e ∈ es, e.1 < t ∧ e.2.length ≤ 20 ∧ By e.2 := q3
      have q4 : 0 ≤ t := q4
      have q5 : t ≤ 4294967295 := q5
      have l1 : (es ++ [(t, dg)]).length = i + 1 := by rw [List.length_append, q1]; rfl
      have l2 : okT ((es ++ [(t, dg)]).map (·.1)) = true := by
        rw [List.map_append]
        refine okT_of (fun x hx => ?_) (asc_snoc (okT_asc q2) fun x hx => ?_)
        · rcases List.mem_append.mp hx with k | k
          · exact okT_range q2 x k
          · rw [List.mem_singleton.mp k]; exact ⟨q4, q5⟩
        · obtain ⟨e, he, rfl⟩ := List.mem_map.mp hx
          exact (q3 e he).1
      have l3 : ∀ e ∈ es ++ [(t, dg)], e.1 < t + z ∧ e.2.length ≤ 20 ∧ By e.2 := fun e he => by
        rcases List.mem_append.mp he with k | k
        · obtain ⟨a, b⟩ := q3 e k
          exact ⟨by omega, b⟩
        · rw [List.mem_singleton.mp k]
          have := hg.1
          exact ⟨by show t < _; omega, by show dg.length ≤ 20; omega, hg.2⟩
      unfold F__law_entries_k3
      refine Gv.ite (fun _ => .ok (.inr ⟨_, rfl, by show (es ++ [(t, dg)]).length ≤ 9; rw [l1]; omega, l2, fun e he => (l3 e he).2⟩)) fun hle => Gv.bnd fun w hw => .ok (.inl ⟨_, rfl, l1, l2, ?_, ?_, ?_⟩)
      · subst hw; exact l3
      · show 0 ≤ w; omega
      · show w ≤ _; omega
    · rintro _ (⟨s, rfl, p⟩ | ⟨r, rfl, q⟩)
      · have := p.1
        rw [rng_len] at this
        exact .ok ⟨by omega, p.2.1, fun e he => (p.2.2.1 e he).2⟩
      · exact .ok q
  refine Gv.bnd fun t ht => Gv.bind (P := fun z : Int => 0 ≤ z ∧ z ≤ 4294967295) (.ite (fun _ => .bnd fun z hz => .ok (by omega)) fun _ => .ok (by omega)) fun z hz => key z hz.1 hz.2
/-! ### seeking -/
def fstOf (es : En) (time : Int) : Int := (rng 0 es.length).foldl (fun s k => if (itD es k).1 ≤ time then k else s) 0
def due (es : En) (time : Int) : List Int := (cutL es (some (fstOf es time)) none).flatMap (·.2)
theorem enum_map (es : En) : enumL es = (rng 0 es.length).map fun k => (k, itD es k) := by
  apply List.ext_getElem?
  intro i
  by_cases hi : i < es.length
  · have he : es[i]? = some es[i] := List.getElem?_eq_getElem hi
    rw [enumL_get he, List.getElem?_map, rng_get hi]
    show some _ = some ((0 + (i : Int), itD es (0 + (i : Int))))
    rw [itD_nat (j := i) (by omega) hi, Int.zero_add]
  · rw [List.getElem?_eq_none (by rw [enumL_len]; omega), List.getElem?_eq_none (by rw [List.length_map, rng_len]; omega)]
theorem due_len {es : En} (h : Ent es) (a : Option Int) : ((cutL es a none).flatMap (fun e : Int × List Int => e.2)).length ≤ 1000000 := by
  have l := cutL_len es a none
  have := flat_len (es := cutL es a none) (m := 20) fun e he => (h.seg e (cut_mem' he)).1
  have := h.len
  omega
theorem seek_ok {o : List Int} {es : En} {time : Int} (h : Ent es) (ho : F_open_container o = .ok es) : F_seek_container o time = .ok (due es time) := by
  unfold F_seek_container
  rw [ho, bind_ok, enum_map, forS_map, forS_pure (g := fun s k => if (itD es k).1 ≤ time then k else s) (fun s x _ => ?_), bind_ok]
  · unfold F_seek_container_r1
    rw [forS_flat (f := fun e : Int × List Int => e.2) (M := 1000000) (fun x _ s hs => ?_) (by rw [List.length_nil, Nat.zero_add]; exact due_len h _), bind_ok]
    · rfl
    · unfold F_seek_container_b2
      rw [grd_pos (by omega)]
      rfl
  · unfold F_seek_container_b1
    show (if (itD es x).1 ≤ time then _ else _) = _
    split <;> rfl
theorem law_seek_ok {o : List Int} {es : En} {time : Int} (h : Ent es) (ho : F_open_container o = .ok es) : F__law_seek es o time = .ok true := by
  have hl := h.len
  unfold F__law_seek
  rw [grd_pos (by omega), forS_pure (g := fun s k => if (itD es k).1 ≤ time then k else s) (fun s x hx => ?_), bind_ok, Int.toNat_natCast]
  · unfold F__law_seek_r1
    rw [forS_flat (f := fun e : Int × List Int => e.2) (M := 1000000) (fun x _ s hs => ?_) (by rw [List.length_nil, Nat.zero_add]; exact due_len h _), bind_ok]
    · unfold F__law_seek_r2
      rw [seek_ok h ho, bind_ok]
      exact congrArg Rx.ok (decide_eq_true rfl)
    · unfold F__law_seek_b2
      rw [grd_pos (by omega)]
  · have := rng_mem hx
    unfold F__law_seek_b1
    rw [grd_pos (by omega)]
    split <;> rfl
/-! ### refusals -/
theorem refused_ok {es : En} (hl : es.length ≤ 65535) (h : okT (es.map (·.1)) = false) : F__law_refused es = .ok true := by
  unfold F__law_refused
  rw [pack_er hl h, tryR_er (by simp)]
theorem opened_no {o : List Int} (h : By o) (k : ¬ Op o) : F__law_opened o = .ok [] := by
  unfold F__law_opened
  rw [(open_eq h).2 k, tryR_er (by simp)]
theorem opened_yes {o : List Int} (h : By o) (k : Op o) : F__law_opened o = .ok [ens o (cnt o)] := by
  unfold F__law_opened
  rw [(open_eq h).1 k, tryR_ok]
theorem seek_no {o : List Int} {time : Int} (h : By o) (k : ¬ Op o) : F__law_seek_refused o time = .ok true := by
  unfold F__law_seek_refused F_seek_container
  rw [(open_eq h).2 k, bind_er, tryR_er (by simp)]
theorem ok_mid {A B : List Int} {a b : Int} (h : ¬ a < b) : okT (A ++ a :: b :: B) = false := by
  rw [Bool.eq_false_iff]
  exact fun z => h (asc_mid (okT_asc z))
theorem ok_out {ts : List Int} {t : Int} (h : t ∈ ts) (k : ¬ (0 ≤ t ∧ t ≤ 4294967295)) : okT ts = false := by
  rw [Bool.eq_false_iff]
  exact fun z => k (okT_range z t h)

/-! ### the law's parts -/
theorem itD_of {α : Type} [Inhabited α] {xs : List α} {k : Int} {j : Nat} (e : k = (j : Int)) {a : α} (h : xs[j]? = some a) : itD xs k = a := by
  have hl := get_len h
  rw [itD_nat e hl]
  rw [List.getElem?_eq_getElem hl] at h
  exact Option.some.inj h
theorem split_two {es : En} {i : Nat} {a b : Int × List Int} (h : es[i]? = some a) (k : es[i + 1]? = some b) : es = es.take i ++ a :: b :: es.drop (i + 2) := by
  have s := split_at h
  have hk := get_len k
  have : es.drop (i + 1) = b :: es.drop (i + 2) := by
    rw [List.getElem?_eq_getElem hk] at k
    rw [← Option.some.inj k, List.getElem_cons_drop]
  rw [← this]
  exact s
theorem fit_of {es fs : En} (h : Ent es) (hl : fs.length ≤ 20) (hm : ∀ e ∈ fs, (0 ≤ e.1 ∧ e.1 < 4294967296) ∧ e.2.length ≤ 20 ∧ By e.2) : Fit fs ∧ By (pk fs) ∧ (pk fs).length ≤ 1000000 := by
  refine ⟨⟨by omega, fun e he => (hm e he).1, fun e he => by have := (hm e he).2.1; omega⟩, pk_by fun e he => (hm e he).2.2, ?_⟩
  rw [pk_len]
  have := flat_len (es := fs) (m := 20) fun e he => (hm e he).2.1
  omega
theorem lenS1 {α : Type} {a : α} : (([a] : List α).length : Int) = 1 := rfl
theorem bad_ok {es : En} (h : Ent es) {c : Int} (hc : 0 ≤ c) : F__law_bad es c = .ok true := by
  have hl := h.len
  have hf := h.fit
  refine Gv.get ?_
  unfold F__law_bad
  refine Gv.ite (fun c0 => ?_) fun c0 => ?_
  · refine Gv.bind_eq (refused_ok (by simp) (ok_out (t := 4294967296 + c % 9) (by simp) (by omega))) (Gv.pos rfl (Gv.bind_eq (refused_ok (by simp) (ok_out (t := (-1) - c % 9) (by simp) (by omega))) (.ok rfl)))
  have hn : 0 < es.length := by omega
  have hat : 0 ≤ c % (es.length : Int) ∧ c % (es.length : Int) < es.length := ⟨Int.emod_nonneg _ (by omega), Int.emod_lt_of_pos _ (by omega)⟩
  refine Gv.grd (by omega) (Gv.bnd fun at_ ha => ?_)
  subst ha
  obtain ⟨a, ea, la⟩ : ∃ a : Nat, c % (es.length : Int) = (a : Int) ∧ a < es.length := ⟨(c % (es.length : Int)).toNat, by omega, by omega⟩
  rw [ea]
  obtain ⟨e, he⟩ : ∃ e, es[a]? = some e := ⟨es[a], List.getElem?_eq_getElem la⟩
  have hi : itD es (a : Int) = e := itD_of rfl he
  have sp := split_at he
  have c1 : cutL es none (some ((a : Int) + 1)) = es.take (a + 1) := by rw [cut_to' (by omega)]; congr 1
  have c2 : cutL es (some ((a : Int) + 1)) none = es.drop (a + 1) := by rw [cut_from' (by omega)]; congr 1
  have c3 : cutL es none (some (a : Int)) = es.take a := by rw [cut_to' (by omega)]; congr 1
  have t1 : (es.take (a + 1)).length ≤ 9 := by rw [List.length_take]; omega
  have t2 : (es.drop (a + 1)).length ≤ 9 := by rw [List.length_drop]; omega
  have t3 : (es.take a).length ≤ 9 := by rw [List.length_take]; omega
  rw [hi, c1, c2, c3]
  have hsame : okT (((es.take (a + 1) ++ [(e.1, ([7] : List Int))]) ++ es.drop (a + 1)).map (·.1)) = false := by
    have z : ((es.take (a + 1) ++ [(e.1, ([7] : List Int))]) ++ es.drop (a + 1)).map (·.1) = (es.take a).map (·.1) ++ e.1 :: e.1 :: (es.drop (a + 1)).map (·.1) := by
      rw [List.take_add_one, he]
      simp
    rw [z]
    exact ok_mid (by omega)
  have hlate : okT (((es.take a ++ [(4294967296 + c % 5, e.2)]) ++ es.drop (a + 1)).map (·.1)) = false := ok_out (t := 4294967296 + c % 5) (by simp) (by omega)
  have hearly : okT ((([((-1) - c % 5, ([] : List Int))]) ++ es).map (·.1)) = false := ok_out (t := (-1) - c % 5) (by simp) (by omega)
  have lsame : ((es.take (a + 1) ++ [(e.1, ([7] : List Int))]) ++ es.drop (a + 1)).length ≤ 20 := by simp only [List.length_append, List.length_cons, List.length_nil]; omega
  have llate : ((es.take a ++ [(4294967296 + c % 5, e.2)]) ++ es.drop (a + 1)).length ≤ 20 := by simp only [List.length_append, List.length_cons, List.length_nil]; omega
  have learly : (([((-1) - c % 5, ([] : List Int))]) ++ es).length ≤ 20 := by simp only [List.length_append, List.length_cons, List.length_nil]; omega
  have hall : ∀ x ∈ es, (0 ≤ x.1 ∧ x.1 < 4294967296) ∧ x.2.length ≤ 20 ∧ By x.2 := fun x hx => ⟨hf.tim x hx, h.seg x hx⟩
  have msame : ∀ x ∈ (es.take (a + 1) ++ [(e.1, ([7] : List Int))]) ++ es.drop (a + 1), (0 ≤ x.1 ∧ x.1 < 4294967296) ∧ x.2.length ≤ 20 ∧ By x.2 := fun x hx => by
    rcases List.mem_append.mp hx with k | k
    · rcases List.mem_append.mp k with k | k
      · exact hall x (List.mem_of_mem_take k)
      · rw [List.mem_singleton.mp k]
        exact ⟨hf.tim e (List.mem_of_getElem? he), by simp, fun y hy => by rw [List.mem_singleton.mp hy]; decide⟩
    · exact hall x (List.mem_of_mem_drop k)
  have in1 : -(es.length : Int) ≤ (a : Int) ∧ (a : Int) < (es.length : Int) := by omega
  refine Gv.grd in1 (Gv.grd (by simp only [List.length_cons, List.length_nil]; omega) (Gv.grd (by simp only [List.length_append, List.length_cons, List.length_nil]; omega) (Gv.grd in1 (Gv.grd (by simp only [List.length_cons, List.length_nil]; omega) (Gv.grd (by simp only [List.length_append, List.length_cons, List.length_nil]; omega) (Gv.grd (by simp only [List.length_cons, List.length_nil]; omega) ?_))))))
  refine Gv.bind (P := fun l => l = Lp.go ()) ?_ ?_
  · refine Gv.ite (fun c9 => ?_) fun _ => .ok rfl
    have hone : 0 ≤ c / 3 % ((es.length : Int) - 1) ∧ c / 3 % ((es.length : Int) - 1) < (es.length : Int) - 1 := ⟨Int.emod_nonneg _ (by omega), Int.emod_lt_of_pos _ (by omega)⟩
    refine Gv.grd (by omega) (Gv.bnd fun one ho => ?_)
    subst ho
    obtain ⟨o, eo, lo⟩ : ∃ o : Nat, c / 3 % ((es.length : Int) - 1) = (o : Int) ∧ o + 1 < es.length := ⟨(c / 3 % ((es.length : Int) - 1)).toNat, by omega, by omega⟩
    rw [eo]
    obtain ⟨x, hx⟩ : ∃ x, es[o]? = some x := ⟨es[o], List.getElem?_eq_getElem (by omega)⟩
    obtain ⟨y, hy⟩ : ∃ y, es[o + 1]? = some y := ⟨es[o + 1], List.getElem?_eq_getElem lo⟩
    have hi1 : itD es ((o : Int) + 1) = y := itD_of (j := o + 1) (by omega) hy
    have hi2 : itD es (o : Int) = x := itD_of rfl hx
    have s2 := split_two hx hy
    have d1 : cutL es none (some (o : Int)) = es.take o := by rw [cut_to' (by omega)]; congr 1
    have d2 : cutL es (some ((o : Int) + 2)) none = es.drop (o + 2) := by rw [cut_from' (by omega)]; congr 1
    have u1 : (es.take o).length ≤ 9 := by rw [List.length_take]; omega
    have u2 : (es.drop (o + 2)).length ≤ 9 := by rw [List.length_drop]; omega
    have hxy : x.1 < y.1 := by
      have z := okT_asc h.ok
      rw [s2, List.map_append, List.map_cons, List.map_cons] at z
      exact asc_mid z
    rw [hi1, hi2, d1, d2]
    have ht : okT (((es.take o ++ [y, x]) ++ es.drop (o + 2)).map (·.1)) = false := by
      have z : ((es.take o ++ [y, x]) ++ es.drop (o + 2)).map (·.1) = (es.take o).map (·.1) ++ y.1 :: x.1 :: (es.drop (o + 2)).map (·.1) := by simp
      rw [z]
      exact ok_mid (by omega)
    have lt : ((es.take o ++ [y, x]) ++ es.drop (o + 2)).length ≤ 20 := by simp only [List.length_append, List.length_cons, List.length_nil]; omega
    have mt : ∀ z ∈ (es.take o ++ [y, x]) ++ es.drop (o + 2), (0 ≤ z.1 ∧ z.1 < 4294967296) ∧ z.2.length ≤ 20 ∧ By z.2 := fun z hz => by
      refine hall z ?_
      rw [s2]
      simp only [List.mem_append, List.mem_cons, List.not_mem_nil, or_false] at hz ⊢
      grind
    obtain ⟨f1, b1, z1⟩ := fit_of h lt mt
    obtain ⟨f2, b2, z2⟩ := fit_of h lsame msame
    have n1 : ¬ Op (pk ((es.take o ++ [y, x]) ++ es.drop (o + 2))) := fun q => by rw [pk_op f1, ht] at q; cases q
    have n2 : ¬ Op (pk ((es.take (a + 1) ++ [(e.1, ([7] : List Int))]) ++ es.drop (a + 1))) := fun q => by rw [pk_op f2, hsame] at q; cases q
    exact Gv.grd (by omega) (Gv.grd (by omega) (Gv.grd (by simp only [List.length_cons, List.length_nil]; omega) (Gv.grd (by simp only [List.length_append, List.length_cons, List.length_nil]; omega) (Gv.bind_eq (packed_ok z1) (Gv.bind_eq (refused_ok (by omega) ht) (Gv.pos rfl (Gv.bind_eq (opened_no b1 n1) (Gv.neg (by decide) (Gv.grd (by omega) (Gv.bind_eq (seek_no b1 n1) (Gv.pos rfl
      (Gv.bind_eq (packed_ok z2) (Gv.bind_eq (opened_no b2 n2) (Gv.neg (by decide) (Gv.grd in1 (Gv.bind_eq (seek_no b2 n2) (Gv.pos rfl (.ok rfl))))))))))))))))))
  · rintro _ rfl
    show Gv (F__law_bad_k1 _ _ _) _
    unfold F__law_bad_k1
    exact Gv.bind_eq (refused_ok (by omega) hsame) (Gv.pos rfl (Gv.bind_eq (refused_ok (by omega) hlate) (Gv.pos rfl (Gv.bind_eq (refused_ok (by omega) hearly) (.ok rfl)))))
theorem k4_ok {es : En} {octs : List Int} {time at_ : Int} {other : List Int} (hb : By other) (hl : other.length ≤ 1000) (h1 : ¬ Op other → ¬ (other.length = octs.length ∧ 6 + 8 * (es.length : Int) ≤ at_)) (h2 : Op other → ¬ (at_ < 6 ∧ other.length = octs.length)) : F_law_k4 es octs time at_ other = .ok (.go ()) := by
  unfold F_law_k4
  by_cases c : Op other
  · have hc := cnt_lt hb
    rw [opened_yes hb c, bind_ok, if_neg (by rw [lenS1]; decide), if_pos lenS1, grd_pos (by rw [lenS1]; decide), show itD [ens other (cnt other)] 0 = ens other (cnt other) from rfl,
      pack_ok (by rw [ens_len]; omega) (by rw [ens_times]; exact c.times) (by rw [op_pk hb c]; omega), bind_ok, if_pos (op_pk hb c), if_neg (by rw [lenS1]; decide), if_pos lenS1]
    have := h2 c
    split
    · split
      · exact absurd ⟨‹_›, by omega⟩ this
      · rfl
    · rfl
  · have l0 : ((([] : List En).length : Nat) : Int) = 0 := rfl
    rw [opened_no hb c, bind_ok, if_pos l0, seek_no hb c, bind_ok, if_pos rfl, if_neg (by rw [l0]; decide), if_pos l0]
    have := h1 c
    split
    · split
      · exact absurd ⟨by omega, ‹_›⟩ this
      · rw [if_neg (by decide)]
    · rw [if_neg (by decide)]
theorem k3_ok {es : En} (h : Ent es) {cell time : Int} (hc : 0 ≤ cell) : F_law_k3 es (pk es) cell time = .ok (.go ()) := by
  have hf := h.fit
  have hb := h.by
  have hop : Op (pk es) := (pk_op hf).2 h.ok
  have ho : F_open_container (pk es) = .ok es := by rw [(open_eq hb).1 hop, pk_cnt hf, pk_ens hf]
  have hs := h.small
  have h6 := hop.six
  have hcn := pk_cnt hf
  refine Gv.get ?_
  unfold F_law_k3
  refine Gv.bind_eq (law_seek_ok h ho) (Gv.pos rfl (Gv.grd (by omega) (Gv.bnd fun at_ ha => ?_)))
  have hat : 0 ≤ cell / 5 % ((pk es).length : Int) ∧ cell / 5 % ((pk es).length : Int) < (pk es).length := ⟨Int.emod_nonneg _ (by omega), Int.emod_lt_of_pos _ (by omega)⟩
  subst ha
  obtain ⟨a, ea, la⟩ : ∃ a : Nat, cell / 5 % ((pk es).length : Int) = (a : Int) ∧ a < (pk es).length := ⟨(cell / 5 % ((pk es).length : Int)).toNat, by omega, by omega⟩
  rw [ea]
  generalize pk es = o at *
  obtain ⟨e, he⟩ : ∃ e, o[a]? = some e := ⟨o[a], List.getElem?_eq_getElem la⟩
  have hi : itD o (a : Int) = e := itD_of rfl he
  have hbe := hb e (List.mem_of_getElem? he)
  have c1 : cutL o none (some (a : Int)) = o.take a := by rw [cut_to' (by omega)]; congr 1
  have c2 : cutL o (some ((a : Int) + 1)) none = o.drop (a + 1) := by rw [cut_from' (by omega)]; congr 1
  have c3 : cutL o (some (a : Int)) none = o.drop a := by rw [cut_from' (by omega)]; congr 1
  have t1 : (o.take a).length = a := by rw [List.length_take]; omega
  have t2 : (o.drop (a + 1)).length = o.length - (a + 1) := by rw [List.length_drop]
  have t3 : (o.drop a).length = o.length - a := by rw [List.length_drop]
  rw [hi, c1, c2, c3]
  obtain ⟨x, hx⟩ : ∃ x, x = (e + 1 + cell / 7 % 255) % 256 := ⟨_, rfl⟩
  have hx1 : 0 ≤ x ∧ x < 256 ∧ x ≠ e := by omega
  rw [← hx]
  have bx : ∀ y : Int, 0 ≤ y ∧ y < 256 → By [y] := fun y hy z hz => by rw [List.mem_singleton.mp hz]; exact hy
  refine Gv.grd (by omega) (Gv.grd (by rw [t1]; simp only [List.length_cons, List.length_nil]; omega) (Gv.grd (by rw [List.length_append, t1, t2]; simp only [List.length_cons, List.length_nil]; omega) ?_))
  refine Gv.bind (P := fun p => By p ∧ p.length ≤ 1000 ∧ (¬ Op p → ¬ (p.length = o.length ∧ 6 + 8 * (es.length : Int) ≤ (a : Int))) ∧ (Op p → ¬ ((a : Int) < 6 ∧ p.length = o.length))) ?_ fun p hp => .of_eq (k4_ok hp.1 hp.2.1 hp.2.2.1 hp.2.2.2) rfl
  refine Gv.ite (fun _ => Gv.grd (by rw [t1, t2]; omega) (.ok ?_)) fun _ => Gv.ite (fun _ => Gv.grd (by rw [t1]; simp only [List.length_cons, List.length_nil]; omega) (Gv.grd (by rw [List.length_append, t1, t3]; simp only [List.length_cons, List.length_nil]; omega) (.ok ?_))) fun _ => Gv.ite (fun _ => .ok ?_) fun _ => .ok ?_
  · have l : (o.take a ++ o.drop (a + 1)).length = o.length - 1 := by rw [List.length_append, t1, t2]; omega
    exact ⟨(hb.take a).app (hb.drop _), by omega, fun _ z => by omega, fun _ z => by omega⟩
  · have l : ((o.take a ++ [cell / 7 % 256]) ++ o.drop a).length = o.length + 1 := by rw [List.length_append, List.length_append, t1, t3]; simp only [List.length_cons, List.length_nil]; omega
    exact ⟨((hb.take a).app (bx _ (by omega))).app (hb.drop _), by omega, fun _ z => by omega, fun _ z => by omega⟩
  · exact ⟨hb.take a, by omega, fun _ z => by omega, fun _ z => by omega⟩
  · have l : ((o.take a ++ [x]) ++ o.drop (a + 1)).length = o.length := by rw [List.length_append, List.length_append, t1, t2]; simp only [List.length_cons, List.length_nil]; omega
    have bp : By ((o.take a ++ [x]) ++ o.drop (a + 1)) := ((hb.take a).app (bx _ (by omega))).app (hb.drop _)
    refine ⟨bp, by omega, fun n z => n (op_body hop l (m := a) (by rw [hcn]; omega) ?_), fun q z => ?_⟩
    · rw [List.append_assoc, List.take_append_of_le_length (by omega), List.take_of_length_le (by omega)]
    · have w := op_head hb bp hop q l fun i hi => by
        rw [List.drop_append, List.length_append, t1, List.drop_of_length_le (by rw [List.length_append, t1]; simp only [List.length_cons, List.length_nil]; omega), List.nil_append, List.drop_drop]
        congr 1
        simp only [List.length_cons, List.length_nil]
        omega
      have w2 : ((o.take a ++ [x]) ++ o.drop (a + 1))[a]? = o[a]? := by rw [w]
      rw [he, List.append_assoc, List.getElem?_append_right (by omega), t1, Nat.sub_self] at w2
      exact hx1.2.2 (Option.some.inj w2)
theorem k2_ok {es : En} (h : Ent es) {cell time : Int} (hc : 0 ≤ cell) : F_law_k2 es (pk es) cell time = .ok (.go ()) := by
  refine Gv.get ?_
  unfold F_law_k2
  refine Gv.bind (P := fun _ => True) (.ite (fun _ => .grd ?_ (.bnd fun _ _ => .ok trivial)) fun _ => .ok trivial) fun s _ => .of_eq (k3_ok h hc) rfl
  simp only [List.length_cons, List.length_nil]
  omega
theorem show_ent {es : En} (h : Ent es) : ShowOk (encL (encT2 PyData.int (encL PyData.int)) es) := by
  have hf := h.fit
  refine (sm_L (n := 23) (k := 2) (m := 9) (fun e he => ?_) h.len).show
  have a := hf.tim e he
  refine (sm_T2 (n := 1) (k := 0) (m := 21) (j := 1) (sm_int (by omega)) (sm_ints (m := 20) (fun y hy => ?_) (h.seg e he).1)).imp (by omega) (by omega)
  have := (h.seg e he).2 y hy
  omega
theorem law_true (s : List Int) (hs : s.length ≤ 63) : F_law s = .ok true := by
  refine Gv.get ?_
  unfold F_law
  refine Gv.bind (cell_gv s 0 (by decide)) fun c hc => Gv.bind (entries_gv c hc) fun es h => ?_
  have hf := h.fit
  have hb := h.by
  have hop : Op (pk es) := (pk_op hf).2 h.ok
  have ho : F_open_container (pk es) = .ok es := by rw [(open_eq hb).1 hop, pk_cnt hf, pk_ens hf]
  have hsm := h.small
  have hl := h.len
  have sh := show_ent h
  refine Gv.grd sh (Gv.bind_eq (pack_ok (by omega) h.ok (by omega)) (Gv.bind_eq (packed_ok (by omega)) (Gv.pos rfl (Gv.grd sh (Gv.pos rfl (Gv.bind_eq ho (Gv.grd sh (Gv.pos rfl (Gv.pos rfl (Gv.grd (by split <;> omega) (Gv.bind_eq (forR_unit fun x hx => ?_) ?_)))))))))))
  · have hx := rng_mem hx
    refine Gv.get ?_
    unfold F_law_b1
    refine Gv.bind (cell_gv s (x + 1) (by omega)) fun v hv => Gv.bnd fun cell hcell => Gv.bnd fun t ht => Gv.bind (P := fun _ => True) (.ite (fun h0 => .ite (fun _ => .grd (by omega) (.grd ?_ (.bnd fun _ _ => .ok trivial))) fun _ => .ok trivial) fun _ => .ok trivial) fun t2 _ => .of_eq (k2_ok h (by omega)) rfl
    have a := Int.emod_nonneg (cell / 3) (b := (es.length : Int)) (by omega)
    have b := Int.emod_lt_of_pos (cell / 3) (b := (es.length : Int)) (by omega)
    omega
  · show Gv (F_law_r1 c es) _
    unfold F_law_r1
    exact Gv.bind_eq (bad_ok h (by omega)) (.ok rfl)

end Vx
namespace Vx
open PySem PySem.Spec PyProof.Rows L2
def topS (i : Nat) : Stmt := PySem.Challenge.pw_thaumatrope_k71_containers_packed_and_op.main.body.getD i (.Pass ⟨0, 0, 0, 0⟩)
abbrev s__law_cell : Stmt := topS 18
abbrev s__law_digits : Stmt := topS 19
abbrev s__law_entries : Stmt := topS 20
abbrev s__require : Stmt := topS 13
abbrev s__check_times : Stmt := topS 14
abbrev s__octets_of : Stmt := topS 15
abbrev s_pack_container : Stmt := topS 10
abbrev s__number_of : Stmt := topS 16
abbrev s_open_container : Stmt := topS 11
abbrev s__law_number : Stmt := topS 21
abbrev s__law_packed : Stmt := topS 22
abbrev s__law_refused : Stmt := topS 23
abbrev s_seek_container : Stmt := topS 12
abbrev s__law_seek_refused : Stmt := topS 24
abbrev s__law_opened : Stmt := topS 25
abbrev s__law_bad : Stmt := topS 27
abbrev s__law_seek : Stmt := topS 26
abbrev s_law : Stmt := topS 28
structure Ads where
  x_CodecError : Addr
  x_OutOfRange : Addr
  x_BadContainer : Addr
  t_MARK : Addr
  z0 : Addr
def excA (AD : Ads) : Nat → Addr
  | 0 => AD.x_CodecError
  | 1 => AD.x_OutOfRange
  | 2 => AD.x_BadContainer
  | _ => AD.z0
structure Txt (K : PySem.W.Frag) (mg : Str → Option Value) (AD : Ads) : Prop where
  b_len : mg "len" = none
  b_abs : mg "abs" = none
  b_int : mg "int" = none
  b_range : mg "range" = none
  b_all : mg "all" = none
  g_GREATEST_TIME : ∃ u, mg "GREATEST_TIME" = some u ∧ RelV (V.int 4294967295) u
  b_zip : mg "zip" = none
  g_MOST_ENTRIES : ∃ u, mg "MOST_ENTRIES" = some u ∧ RelV (V.int 65535) u
  b_list : mg "list" = none
  g_MARK : ∃ u, mg "MARK" = some u ∧ RelV (V.ref AD.t_MARK) u
  ts_MARK : ∀ H, SqT K H AD.t_MARK (([84, 72, 65, 85] : List Int).map V.int)
  g_HEAD : ∃ u, mg "HEAD" = some u ∧ RelV (V.int 6) u
  g_ENTRY : ∃ u, mg "ENTRY" = some u ∧ RelV (V.int 8) u
  b_isinstance : mg "isinstance" = none
  b_enumerate : mg "enumerate" = none
  b_repr : mg "repr" = none
  b_min : mg "min" = none
  xg_BadContainer : mg "BadContainer" = some (.ref AD.x_BadContainer)
  xx_BadContainer : PySem.W.excIn K AD.x_BadContainer [.type "ValueError", .type "Exception", .type "BaseException", .type "object"] "ValueError.__new__" = true
  xk_BadContainer : PySem.W.keepIn K (.ref AD.x_BadContainer) = true
  xb_BadContainer : PySem.W.subIn K (.ref AD.x_BadContainer) (.type "BaseException") = some true
  xt_BadContainer : PySem.W.typeIn K (.ref AD.x_BadContainer) = some (.type "type")
  xg_OutOfRange : mg "OutOfRange" = some (.ref AD.x_OutOfRange)
  xx_OutOfRange : PySem.W.excIn K AD.x_OutOfRange [.type "ValueError", .type "Exception", .type "BaseException", .type "object"] "ValueError.__new__" = true
  xk_OutOfRange : PySem.W.keepIn K (.ref AD.x_OutOfRange) = true
  xb_OutOfRange : PySem.W.subIn K (.ref AD.x_OutOfRange) (.type "BaseException") = some true
  xt_OutOfRange : PySem.W.typeIn K (.ref AD.x_OutOfRange) = some (.type "type")
  xg_CodecError : mg "CodecError" = some (.ref AD.x_CodecError)
  xx_CodecError : PySem.W.excIn K AD.x_CodecError [.type "ValueError", .type "Exception", .type "BaseException", .type "object"] "ValueError.__new__" = true
  xk_CodecError : PySem.W.keepIn K (.ref AD.x_CodecError) = true
  xb_CodecError : PySem.W.subIn K (.ref AD.x_CodecError) (.type "BaseException") = some true
  xt_CodecError : PySem.W.typeIn K (.ref AD.x_CodecError) = some (.type "type")
  xm_BadContainer_BadContainer : PySem.W.exmOne K (.ref AD.x_BadContainer) (.ref AD.x_BadContainer) = some true
  xo_BadContainer_CodecError : PySem.W.kitOne K (.ref AD.x_BadContainer) (.ref AD.x_CodecError) = some true
  xn_BadContainer_OutOfRange : PySem.W.kitOne K (.ref AD.x_BadContainer) (.ref AD.x_OutOfRange) = some false
  xc_BadContainer : ExcC K AD.x_BadContainer
abbrev pat__law_cell_0 : Pat := (2, [], fun vs _ => vs)
abbrev pats__law_cell : List Pat := [pat__law_cell_0]
abbrev pat__law_digits_0 : Pat := (3, [], fun vs _ => vs)
abbrev pats__law_digits : List Pat := [pat__law_digits_0]
abbrev pat__law_entries_0 : Pat := (1, [], fun vs _ => vs)
abbrev pats__law_entries : List Pat := [pat__law_entries_0]
abbrev pat__require_0 : Pat := (2, [], fun vs _ => vs)
abbrev pats__require : List Pat := [pat__require_0]
abbrev pat__check_times_0 : Pat := (1, [], fun vs _ => vs)
abbrev pats__check_times : List Pat := [pat__check_times_0]
abbrev pat__octets_of_0 : Pat := (2, [], fun vs _ => vs)
abbrev pats__octets_of : List Pat := [pat__octets_of_0]
abbrev pat_pack_container_0 : Pat := (1, [], fun vs _ => vs)
abbrev pats_pack_container : List Pat := [pat_pack_container_0]
abbrev pat__number_of_0 : Pat := (1, [], fun vs _ => vs)
abbrev pats__number_of : List Pat := [pat__number_of_0]
abbrev pat_open_container_0 : Pat := (1, [], fun vs _ => vs)
abbrev pats_open_container : List Pat := [pat_open_container_0]
abbrev pat__law_number_0 : Pat := (2, [], fun vs _ => vs)
abbrev pats__law_number : List Pat := [pat__law_number_0]
abbrev pat__law_packed_0 : Pat := (1, [], fun vs _ => vs)
abbrev pats__law_packed : List Pat := [pat__law_packed_0]
abbrev pat__law_refused_0 : Pat := (1, [], fun vs _ => vs)
abbrev pats__law_refused : List Pat := [pat__law_refused_0]
abbrev pat_seek_container_0 : Pat := (2, [], fun vs _ => vs)
abbrev pats_seek_container : List Pat := [pat_seek_container_0]
abbrev pat__law_seek_refused_0 : Pat := (2, [], fun vs _ => vs)
abbrev pats__law_seek_refused : List Pat := [pat__law_seek_refused_0]
abbrev pat__law_opened_0 : Pat := (1, [], fun vs _ => vs)
abbrev pats__law_opened : List Pat := [pat__law_opened_0]
abbrev pat__law_bad_0 : Pat := (2, [], fun vs _ => vs)
abbrev pats__law_bad : List Pat := [pat__law_bad_0]
abbrev pat__law_seek_0 : Pat := (3, [], fun vs _ => vs)
abbrev pats__law_seek : List Pat := [pat__law_seek_0]
abbrev pats_law : List Pat := []
def sp__law_cell (K : PySem.W.Frag) (AD : Ads) : Sp := fun vs H Q E => ∃ (G : Hp) (a_script : Addr) (script' : List Int) (k' : Int), vs = [.ref a_script, .int k'] ∧ Same G H ∧ SqL K H a_script ((script' : List Int).map V.int) ∧ cW (F__law_cell script' k') (fun v => Q (.int v) H) (fun e => E (.ref (excA AD e)) none H)
def sp__law_digits (K : PySem.W.Frag) (AD : Ads) : Sp := fun vs H Q E => ∃ (G : Hp) (cell' : Int) (base' : Int) (most' : Int), vs = [.int cell', .int base', .int most'] ∧ Same G H ∧ cW (F__law_digits cell' base' most') (fun v => ∀ p H', H p = none → Same H H' → H' p = some (.lst (v.map V.int)) → Q (.ref p) H') (fun e => ∀ H', Same H H' → E (.ref (excA AD e)) none H')
def sp__law_entries (K : PySem.W.Frag) (AD : Ads) : Sp := fun vs H Q E => ∃ (G : Hp) (cell' : Int), vs = [.int cell'] ∧ Same G H ∧ cW (F__law_entries cell') (fun v => ∀ p vs H' G', H p = none → Same H H' → Same G G' → Same G' H' → (∀ b, H b ≠ none → G b = none → G' b = none) → G' p = none → H' p = some (.lst vs) → RpAll G' vs (v.map (encT2 PyData.int (encL PyData.int))) → Q (.ref p) H') (fun e => ∀ H', Same H H' → E (.ref (excA AD e)) none H')
def sp__require (K : PySem.W.Frag) (AD : Ads) : Sp := fun vs H Q E => ∃ (G : Hp) (holds' : Bool) (text' : Str), vs = [.bl holds', .str text'] ∧ Same G H ∧ cW (F__require holds' text') (fun v => Q .non H) (fun e => E (.ref (excA AD e)) none H)
def sp__check_times (K : PySem.W.Frag) (AD : Ads) : Sp := fun vs H Q E => ∃ (G : Hp) (a_times : Addr) (times' : List Int), vs = [.ref a_times] ∧ Same G H ∧ (hideL [] H) a_times = some (.lst ((times' : List Int).map V.int)) ∧ cW (F__check_times times') (fun v => ∀ H', Same H H' → Q .non H') (fun e => ∀ H', Same H H' → E (.ref (excA AD e)) none H')
def sp__octets_of (K : PySem.W.Frag) (AD : Ads) : Sp := fun vs H Q E => ∃ (G : Hp) (number' : Int) (count' : Int), vs = [.int number', .int count'] ∧ Same G H ∧ cW (F__octets_of number' count') (fun v => ∀ p H', H p = none → Same H H' → H' p = some (.lst (v.map V.int)) → Q (.ref p) H') (fun e => ∀ H', Same H H' → E (.ref (excA AD e)) none H')
def sp_pack_container (K : PySem.W.Frag) (AD : Ads) : Sp := fun vs H Q E => ∃ (G : Hp) (v_entries : V) (entries' : (List (Int × (List Int)))), vs = [v_entries] ∧ Same G H ∧ Rp (hideL [] H) v_entries ((encL (encT2 PyData.int (encL PyData.int))) entries') ∧ cW (F_pack_container entries') (fun v => ∀ p H', H p = none → Same H H' → H' p = some (.lst (v.map V.int)) → Q (.ref p) H') (fun e => ∀ H', Same H H' → E (.ref (excA AD e)) none H')
def sp__number_of (K : PySem.W.Frag) (AD : Ads) : Sp := fun vs H Q E => ∃ (G : Hp) (a_octets : Addr) (octets' : List Int), vs = [.ref a_octets] ∧ Same G H ∧ (hideL [] H) a_octets = some (.lst ((octets' : List Int).map V.int)) ∧ cW (F__number_of octets') (fun v => ∀ H', Same H H' → Q (.int v) H') (fun e => ∀ H', Same H H' → E (.ref (excA AD e)) none H')
def sp_open_container (K : PySem.W.Frag) (AD : Ads) : Sp := fun vs H Q E => ∃ (G : Hp) (a_octets : Addr) (octets' : List Int), vs = [.ref a_octets] ∧ Same G H ∧ (hideL [] H) a_octets = some (.lst ((octets' : List Int).map V.int)) ∧ cW (F_open_container octets') (fun v => ∀ p vs H' G', H p = none → Same H H' → Same G G' → Same G' H' → (∀ b, H b ≠ none → G b = none → G' b = none) → G' p = none → H' p = some (.lst vs) → RpAll G' vs (v.map (encT2 PyData.int (encL PyData.int))) → Q (.ref p) H') (fun e => ∀ H', Same H H' → E (.ref (excA AD e)) none H')
def sp__law_number (K : PySem.W.Frag) (AD : Ads) : Sp := fun vs H Q E => ∃ (G : Hp) (worth' : Int) (count' : Int), vs = [.int worth', .int count'] ∧ Same G H ∧ cW (F__law_number worth' count') (fun v => ∀ p H', H p = none → Same H H' → H' p = some (.lst (v.map V.int)) → Q (.ref p) H') (fun e => ∀ H', Same H H' → E (.ref (excA AD e)) none H')
def sp__law_packed (K : PySem.W.Frag) (AD : Ads) : Sp := fun vs H Q E => ∃ (G : Hp) (v_entries : V) (entries' : (List (Int × (List Int)))), vs = [v_entries] ∧ Same G H ∧ Rp (hideL [] H) v_entries ((encL (encT2 PyData.int (encL PyData.int))) entries') ∧ cW (F__law_packed entries') (fun v => ∀ p H', H p = none → Same H H' → H' p = some (.lst (v.map V.int)) → Q (.ref p) H') (fun e => ∀ H', Same H H' → E (.ref (excA AD e)) none H')
def sp__law_refused (K : PySem.W.Frag) (AD : Ads) : Sp := fun vs H Q E => ∃ (G : Hp) (v_entries : V) (entries' : (List (Int × (List Int)))), vs = [v_entries] ∧ Same G H ∧ Rp (hideL [] H) v_entries ((encL (encT2 PyData.int (encL PyData.int))) entries') ∧ cW (F__law_refused entries') (fun v => ∀ H', Same H H' → Q (.bl v) H') (fun e => ∀ H', Same H H' → E (.ref (excA AD e)) none H')
def sp_seek_container (K : PySem.W.Frag) (AD : Ads) : Sp := fun vs H Q E => ∃ (G : Hp) (a_octets : Addr) (octets' : List Int) (time' : Int), vs = [.ref a_octets, .int time'] ∧ Same G H ∧ (hideL [] H) a_octets = some (.lst ((octets' : List Int).map V.int)) ∧ cW (F_seek_container octets' time') (fun v => ∀ p H', H p = none → Same H H' → H' p = some (.lst (v.map V.int)) → Q (.ref p) H') (fun e => ∀ H', Same H H' → E (.ref (excA AD e)) none H')
def sp__law_seek_refused (K : PySem.W.Frag) (AD : Ads) : Sp := fun vs H Q E => ∃ (G : Hp) (a_octets : Addr) (octets' : List Int) (time' : Int), vs = [.ref a_octets, .int time'] ∧ Same G H ∧ (hideL [] H) a_octets = some (.lst ((octets' : List Int).map V.int)) ∧ cW (F__law_seek_refused octets' time') (fun v => ∀ H', Same H H' → Q (.bl v) H') (fun e => ∀ H', Same H H' → E (.ref (excA AD e)) none H')
def sp__law_opened (K : PySem.W.Frag) (AD : Ads) : Sp := fun vs H Q E => ∃ (G : Hp) (a_octets : Addr) (octets' : List Int), vs = [.ref a_octets] ∧ Same G H ∧ (hideL [] H) a_octets = some (.lst ((octets' : List Int).map V.int)) ∧ cW (F__law_opened octets') (fun v => ∀ p vs H' G', H p = none → Same H H' → Same G G' → Same G' H' → (∀ b, H b ≠ none → G b = none → G' b = none) → G' p = none → H' p = some (.lst vs) → RpAll G' vs (v.map (encL (encT2 PyData.int (encL PyData.int)))) → Q (.ref p) H') (fun e => ∀ H', Same H H' → E (.ref (excA AD e)) none H')
def sp__law_bad (K : PySem.W.Frag) (AD : Ads) : Sp := fun vs H Q E => ∃ (G : Hp) (v_entries : V) (entries' : (List (Int × (List Int)))) (cell' : Int), vs = [v_entries, .int cell'] ∧ Same G H ∧ Rp G v_entries ((encL (encT2 PyData.int (encL PyData.int))) entries') ∧ cW (F__law_bad entries' cell') (fun v => ∀ H', Same H H' → Q (.bl v) H') (fun e => ∀ H', Same H H' → E (.ref (excA AD e)) none H')
def sp__law_seek (K : PySem.W.Frag) (AD : Ads) : Sp := fun vs H Q E => ∃ (G : Hp) (v_entries : V) (entries' : (List (Int × (List Int)))) (a_octets : Addr) (octets' : List Int) (time' : Int), vs = [v_entries, .ref a_octets, .int time'] ∧ Same G H ∧ Rp G v_entries ((encL (encT2 PyData.int (encL PyData.int))) entries') ∧ (hideL [] H) a_octets = some (.lst ((octets' : List Int).map V.int)) ∧ cW (F__law_seek entries' octets' time') (fun v => ∀ H', Same H H' → Q (.bl v) H') (fun e => ∀ H', Same H H' → E (.ref (excA AD e)) none H')
def sp_law (K : PySem.W.Frag) (AD : Ads) : Sp := fun vs H Q E => ∃ (a_script : Addr) (script : List Int), vs = [.ref a_script] ∧ SqL K H a_script (script.map V.int) ∧ cW (F_law script) (fun v => v = true) (fun _ => False) ∧ ∀ H', Q (.bl true) H'
section
variable {P : Program} {w : World} {K : PySem.W.Frag} {mg : Str → Option Value} {base : Heap} {AD : Ads}
abbrev N__law_cell : List Str := ["script", "k"]
theorem sc__law_cell : FnScope N__law_cell ["script", "k"] (defScope s__law_cell) := ⟨rfl, rfl, rfl, by decide +kernel, rfl, by decide +kernel, by decide +kernel⟩
theorem ok__law_cell (D : DefX K mg "_law_cell" s__law_cell ["script", "k"] pats__law_cell) (T : Txt K mg AD)  : CalX P w K mg base 1 "_law_cell" (sp__law_cell K AD) pats__law_cell := by
  refine D.ok sc__law_cell (fun vs H Q E h => ?_) (fun f cdv A_ outer s H vs Q E hr h => ?_)
  · obtain ⟨G, a_script, script', k', rfl, _⟩ := h
    rfl
  · obtain ⟨G, a_script, script', k', rfl, sG, q_script, hw⟩ := h
    refine ⟨_, (pss_cons (ps_if (pt_cmp (pc_lt (pv 1) (pe_callB (call_lenLiK (K := K)) (by rfl) T.b_len (by decide +kernel) (pa_cons (pv 0) pa_nil)))) (pss_one (ps_ret (pe_callB call_abs (by rfl) T.b_abs (by decide +kernel) (pa_cons (pe_callTy call_int1 (by rfl) T.b_int (by decide +kernel) (pa_cons (pe_ix (ix_listK (K := K)) (pv 0) (pv 1) (fun _ _ => rfl)) pa_nil)) pa_nil)))) pss_nil)
      (pss_one (ps_ret pe_int))), ?_⟩
    obtain ⟨KK, EE, hK0, hE, hw⟩ := cW_gen hw
    have S0 := Sep.startG sG
    unfold F__law_cell at hw
    refine ⟨_, rfl, _, rfl, _, _, rfl, (S0.b0.seq q_script), _, _, rfl, rfl, _, rfl, ?_⟩
    refine iteD (fun c1 => ?_) (fun c1 => ?_)
    · have hw := cW_pos c1 hw
      obtain ⟨g2, hw⟩ := cW_grd hw
      refine ⟨_, rfl, _, rfl, _, _, _, _, rfl, rfl, (S0.b0.seq q_script), (atI_map g2), .inl ⟨_, rfl, ?_⟩⟩
      refine ⟨_, rfl, ?_⟩
      have hw := cW_ok hw
      exact hK0 _ hw
    · have hw := cW_neg c1 hw
      have hw := cW_ok hw
      exact hK0 _ hw

abbrev N__law_digits : List Str := ["cell", "base", "most", "digits", "large", "k"]
theorem sc__law_digits : FnScope N__law_digits ["cell", "base", "most"] (defScope s__law_digits) := ⟨rfl, rfl, rfl, by decide +kernel, rfl, by decide +kernel, by decide +kernel⟩
theorem ok__law_digits (D : DefX K mg "_law_digits" s__law_digits ["cell", "base", "most"] pats__law_digits) (T : Txt K mg AD)  : CalX P w K mg base 1 "_law_digits" (sp__law_digits K AD) pats__law_digits := by
  refine D.ok sc__law_digits (fun vs H Q E h => ?_) (fun f cdv A_ outer s H vs Q E hr h => ?_)
  · obtain ⟨G, cell', base', most', rfl, _⟩ := h
    rfl
  · obtain ⟨G, cell', base', most', rfl, sG, hw⟩ := h
    refine ⟨_, (pss_cons (ps_set (i := 3) sc__law_digits.nd rfl (Or.inl rfl) (pe_lst pa_nil))
      (pss_cons (ps_set (i := 4) sc__law_digits.nd rfl (Or.inl rfl) (pe_cmp (pc_ge (pv 0) (pe_op op_pow pe_int pe_int))))
      (pss_cons (ps_for (passes_of rfl) rfl (pi_range1 rfl T.b_range (pa_cons (pv 2) pa_nil)) (pg_name (i := 5) sc__law_digits.nd rfl (Or.inl rfl)) (pss_one (ps_if (pt_val (pv 4)) (pss_cons (ps_expr (pe_bm PySem.F.plainAttrs_list PySem.F.slot_list_append PySem.F.type_list_append mt_append (pv 3) (pa_cons (pe_op op_mod (pe_callTy call_int1 (by rfl) T.b_int (by decide +kernel) (pa_cons (pv 0) pa_nil)) (pv 1)) pa_nil)))
      (pss_one (ps_set (i := 0) sc__law_digits.nd rfl (Or.inl rfl) (pe_op op_fdivW (pv 0) (pv 1))))) (pss_one (ps_expr (pe_bm PySem.F.plainAttrs_list PySem.F.slot_list_append PySem.F.type_list_append mt_append (pv 3) (pa_cons (pe_op op_mod (pe_op op_mod (pe_callTy call_int1 (by rfl) T.b_int (by decide +kernel) (pa_cons (pe_op op_add (pe_op op_add (pe_op op_mul (pv 0) pe_int) (pe_op op_mul (pe_op op_mul (pe_op op_add (pv 5) pe_int) (pe_op op_add (pv 5) pe_int)) pe_int)) (pe_op op_mul (pe_op op_fdivW (pv 0) pe_int) (pv 5))) pa_nil)) pe_int) (pv 1)) pa_nil)))))))
      (pss_one (ps_ret (pv 3)))))), ?_⟩
    obtain ⟨KK, EE, hK0, hE, hw⟩ := cW_gen hw
    have S0 := Sep.startG sG
    unfold F__law_digits at hw
    refine ⟨(by show 0 ≤ sizeLine; decide), fun p3 n4 => ?_⟩
    generalize g5 : upd H p3 _ = H6
    obtain ⟨e7, h8⟩ := gen_new n4 g5
    have h9 : H6 p3 = some (.lst ((([] : (List Int)) : (List Int)).map V.int)) := h8
    have fr10 := S0.free n4
    have S11 := S0.new n4 e7 h9 fr10
    refine ⟨_, rfl, _, _, rfl, rfl, ⟨by decide, by decide, by decide⟩, _, _, rfl, rfl, ?_⟩
    have hw := cW_bnd hw
    obtain ⟨g13, hw⟩ := cW_grd hw
    obtain ⟨K16, hK17, hw⟩ := cW_push hw
    refine ⟨_, rfl, _, rfl, g13.1, g13.2, for_range (lo := 0) (n := Int.toNat (most')) (fun i σ H' => ∃ (cell_18 : Int) (digits_19 : (List Int)) (u20 : Option V) (G' : Hp), σ = [some (V.int cell_18), some (V.int (base')), some (V.int (most')), some (V.ref p3), some (V.bl (decide (((10 : Int) ^ Int.toNat 18) ≤ cell'))), u20] ∧ Same G G' ∧ Sep [] H G G' H' [p3] ∧ H' p3 = some (.lst ((digits_19 : (List Int)).map V.int)) ∧ cW (forS (List.drop i (rng (0) (Int.toNat (most')))) (cell_18, digits_19) (fun s x => F__law_digits_b1 (base') (decide (((10 : Int) ^ Int.toNat 18) ≤ cell')) (s.1) (s.2) x)) K16 EE) ?_ ?_ ?_⟩
    · exact ⟨(cell'), (([] : (List Int))), _, _, rfl, (Same.refl _), S11, h9, hw⟩
    · intro i σ H21 hi hw
      obtain ⟨cell_18, digits_19, u20, G24, rfl, eG25, S22, h23, hw⟩ := hw
      have hw := cW_forS (rng_get hi) hw
      generalize (0 + (i : Int)) = x26 at hw ⊢
      have hw : cW (F__law_digits_b1 (base') (decide (((10 : Int) ^ Int.toNat 18) ≤ cell')) (cell_18) (digits_19) (x26)) _ EE := hw
      unfold F__law_digits_b1 at hw
      obtain ⟨K29, hK30, hw⟩ := cW_name hw
      refine ⟨_, rfl, _, rfl, ?_⟩
      refine iteB (fun c32 => ?_) (fun c32 => ?_)
      · have hw := cW_pos c32 hw
        refine ⟨_, rfl, (.inl ⟨rfl, _, SqL.of h23⟩), _, rfl, .inl ⟨_, rfl, ?_⟩⟩
        obtain ⟨g33, hw⟩ := cW_grd hw
        obtain ⟨g34, hw⟩ := cW_grd hw
        refine ⟨_, rfl, _, _, rfl, rfl, g33, _, _, _, rfl, rfl, h23, (app_lenM g34), ?_⟩
        generalize g35 : upd H21 p3 _ = H36
        obtain ⟨x37, h38⟩ := gen_mut g35
        have h39 : H36 p3 = some (.lst (((digits_19) ++ [(cell_18 % base')] : (List Int)).map V.int)) := snoc_map h38
        have S40 := S22.mut1 x37 (.head _) h39
        have hw := cW_bnd hw
        obtain ⟨g42, hw⟩ := cW_grd hw
        refine ⟨_, rfl, _, rfl, _, _, rfl, rfl, (divW_small g42.1 g42.2), ?_⟩
        have hw := cW_bnd hw
        have hw := cW_ok hw
        have hw := hK30 _ hw
        exact ⟨((cell_18 / base')), ((digits_19) ++ [(cell_18 % base')]), _, _, rfl, eG25, S40, h39, hw⟩
      · have hw := cW_negB c32 hw
        obtain ⟨g44, hw⟩ := cW_grd hw
        obtain ⟨g45, hw⟩ := cW_grd hw
        refine ⟨_, rfl, (.inl ⟨rfl, _, SqL.of h23⟩), _, rfl, _, _, rfl, rfl, (.inr ⟨by decide, by decide⟩), _, rfl, _, _, rfl, rfl, _, rfl, _, _, rfl, rfl, _, _, rfl, rfl, g44, _, _, rfl, rfl, (.inr ⟨by decide, by decide⟩), _, _, rfl, rfl, _, rfl, _, _, rfl, rfl, (divW_lit (by decide) (by decide)), _, rfl, _, _, rfl, rfl, g45, _, _, rfl, rfl, .inl ⟨_, rfl, ?_⟩⟩
        obtain ⟨g46, hw⟩ := cW_grd hw
        obtain ⟨g47, hw⟩ := cW_grd hw
        refine ⟨_, _, rfl, rfl, (show (0 : Int) < 2147483647 by decide), _, rfl, _, _, rfl, rfl, g46, _, _, _, rfl, rfl, h23, (app_lenM g47), ?_⟩
        generalize g48 : upd H21 p3 _ = H49
        obtain ⟨x50, h51⟩ := gen_mut g48
        have h52 : H49 p3 = some (.lst (((digits_19) ++ [(((((cell_18 * 48271) + (((x26 + 1) * (x26 + 5)) * 69621)) + ((cell_18 / 97) * x26)) % 2147483647) % base')] : (List Int)).map V.int)) := snoc_map h51
        have S53 := S22.mut1 x50 (.head _) h52
        have hw := cW_bnd hw
        have hw := cW_ok hw
        have hw := hK30 _ hw
        exact ⟨(cell_18), ((digits_19) ++ [(((((cell_18 * 48271) + (((x26 + 1) * (x26 + 5)) * 69621)) + ((cell_18 / 97) * x26)) % 2147483647) % base')]), _, _, rfl, eG25, S53, h52, hw⟩
    · intro σ H55 hw
      obtain ⟨cell_18, digits_19, u20, G58, rfl, eG59, S56, h57, hw⟩ := hw
      have hw := hK17 _ (cW_forS0 (rng_len _ _).symm hw)
      have hw : cW (F__law_digits_r1  (cell_18) (digits_19)) _ EE := hw
      unfold F__law_digits_r1 at hw
      refine ⟨_, rfl, ?_⟩
      have hw := cW_ok hw
      exact hK0 _ hw _ _ fr10 S56.b0 h57

abbrev N__law_entries : List Str := ["cell", "entries", "time", "k", "draw", "step"]
theorem sc__law_entries : FnScope N__law_entries ["cell"] (defScope s__law_entries) := ⟨rfl, rfl, rfl, by decide +kernel, rfl, by decide +kernel, by decide +kernel⟩
theorem ok__law_entries (D : DefX K mg "_law_entries" s__law_entries ["cell"] pats__law_entries) (T : Txt K mg AD) (c__law_digits : CalX P w K mg base 1 "_law_digits" (sp__law_digits K AD) pats__law_digits) : CalX P w K mg base 2 "_law_entries" (sp__law_entries K AD) pats__law_entries := by
  refine D.ok sc__law_entries (fun vs H Q E h => ?_) (fun f cdv A_ outer s H vs Q E hr h => ?_)
  · obtain ⟨G, cell', rfl, _⟩ := h
    rfl
  · obtain ⟨G, cell', rfl, sG, hw⟩ := h
    refine ⟨_, (pss_cons (ps_set (i := 1) sc__law_entries.nd rfl (Or.inl rfl) (pe_lst pa_nil))
      (pss_cons (ps_set (i := 2) sc__law_entries.nd rfl (Or.inl rfl) (pe_op op_mod (pe_op op_fdivW (pv 0) pe_int) pe_int))
      (C8.pss_cut (ps_if (pt_cmp (pc_eqI (pe_op op_mod (pe_op op_fdivW (pv 0) pe_int) pe_int) pe_int)) (pss_one (ps_set (i := 2) sc__law_entries.nd rfl (Or.inl rfl) (pe_op op_mod (pv 0) pe_int))) pss_nil)
      (pss_cons (ps_for (passes_of rfl) rfl (pi_range1 rfl T.b_range (pa_cons (pe_op op_mod (pv 0) pe_int) pa_nil)) (pg_name (i := 3) sc__law_entries.nd rfl (Or.inl rfl)) (pss_cons (ps_set (i := 4) sc__law_entries.nd rfl (Or.inl rfl) (pe_op op_fdivW (pe_op op_mul (pe_callTy call_int1 (by rfl) T.b_int (by decide +kernel) (pa_cons (pe_op op_add (pv 0) (pe_op op_mul pe_int (pv 3))) pa_nil)) pe_int) (pe_op op_add pe_int (pv 3))))
      (pss_cons (ps_expr (pe_bm PySem.F.plainAttrs_list PySem.F.slot_list_append PySem.F.type_list_append mt_append (pv 1) (pa_cons (pe_tup (pa_cons (pv 2) (pa_cons (vx_callX c__law_digits pat__law_digits_0 (.head _) hr (by decide) (takes_of rfl rfl rfl rfl) rfl (pa_cons (pv 4) (pa_cons pe_int (pa_cons (pe_op op_mod (pe_op op_fdivW (pv 4) pe_int) pe_int) pa_nil))) pk_nil) pa_nil))) pa_nil)))
      (pss_cons (ps_set (i := 5) sc__law_entries.nd rfl (Or.inl rfl) (pe_op op_add pe_int (pe_op op_mod (pe_op op_fdivW (pv 4) pe_int) pe_int)))
      (C8.pss_cut (ps_if (pt_cmp (pc_eqI (pe_op op_mod (pe_op op_fdivW (pv 4) pe_int) pe_int) pe_int)) (pss_one (ps_set (i := 5) sc__law_entries.nd rfl (Or.inl rfl) (pe_op op_add pe_int (pe_op op_mod (pv 4) pe_int)))) pss_nil)
      (pss_cons (ps_if (pt_cmp (pc_gt (pe_op op_add (pv 2) (pv 5)) pe_int)) (pss_one (ps_ret (pv 1))) pss_nil)
      (pss_one (ps_set (i := 2) sc__law_entries.nd rfl (Or.inl rfl) (pe_op op_add (pv 2) (pv 5))))))))))
      (pss_one (ps_ret (pv 1))))))), ?_⟩
    obtain ⟨KK, EE, hK0, hE, hw⟩ := cW_gen hw
    have S0 := Sep.startG sG
    unfold F__law_entries at hw
    refine ⟨(by show 0 ≤ sizeLine; decide), fun p62 n63 => ?_⟩
    generalize g64 : upd H p62 _ = H65
    obtain ⟨e66, h67⟩ := gen_new n63 g64
    have h68 : H65 p62 = some (.lst ([])) := h67
    have fr69 := S0.free n63
    have S70 := S0.new n63 e66 h68 fr69
    have d71 : RpAll G ([]) ((([] : (List (Int × (List Int)))) : (List (Int × (List Int)))).map (encT2 PyData.int (encL PyData.int))) := RpAll.nil
    refine ⟨_, rfl, _, _, rfl, rfl, (divW_lit (by decide) (by decide)), _, _, rfl, rfl, (show (0 : Int) < 3 by decide), ?_⟩
    have hw := cW_bnd hw
    refine ⟨fun σ H' => ∃ (time_76 : Int) (G' : Hp), σ = [some (V.int (cell')), some (V.ref p62), some (V.int time_76), none, none, none] ∧ Same G G' ∧ Sep [] H G G' H' [p62] ∧ H' p62 = some (.lst ([])) ∧ cW (F__law_entries_k1 (cell') (([] : (List (Int × (List Int))))) time_76) KK EE, ?_, ?_⟩
    · obtain ⟨K77, hK78, hw⟩ := cW_push hw
      refine ⟨_, rfl, _, _, rfl, rfl, (divW_lit (by decide) (by decide)), _, _, rfl, rfl, (show (0 : Int) < 3 by decide), _, _, rfl, rfl, _, rfl, ?_⟩
      refine iteD (fun c79 => ?_) (fun c79 => ?_)
      · have hw := cW_pos c79 hw
        refine ⟨_, rfl, _, _, rfl, rfl, (show (0 : Int) < 4294967000 by decide), ?_⟩
        have hw := cW_bnd hw
        have hw := cW_ok hw
        have hw := hK78 _ hw
        exact ⟨((cell' % 4294967000)), _, rfl, (Same.refl _), S70, h68, hw⟩
      · have hw := cW_neg c79 hw
        have hw := cW_ok hw
        have hw := hK78 _ hw
        exact ⟨(((cell' / 7) % 3)), _, rfl, (Same.refl _), S70, h68, hw⟩
    · intro σ H81 hw
      obtain ⟨time_76, G84, rfl, eG85, S82, h83, hw⟩ := hw
      unfold F__law_entries_k1 at hw
      obtain ⟨g86, hw⟩ := cW_grd hw
      obtain ⟨K88, hK89, hw⟩ := cW_push hw
      refine ⟨_, rfl, _, _, rfl, rfl, (show (0 : Int) < 9 by decide), _, rfl, g86.1, g86.2, for_range (lo := 0) (n := Int.toNat ((cell' % 9))) (fun i σ H' => ∃ (entries_90 : (List (Int × (List Int)))) (vs91 : List V) (time_92 : Int) (u93 : Option V) (u94 : Option V) (u95 : Option V) (G' : Hp), σ = [some (V.int (cell')), some (V.ref p62), some (V.int time_92), u93, u94, u95] ∧ Same G84 G' ∧ Sep [] H G G' H' [p62] ∧ H' p62 = some (.lst (vs91)) ∧ RpAll G' (vs91) ((entries_90 : (List (Int × (List Int)))).map (encT2 PyData.int (encL PyData.int))) ∧ cW (forR (List.drop i (rng (0) (Int.toNat ((cell' % 9))))) (entries_90, time_92) (fun s x => F__law_entries_b2 (cell') (s.1) (s.2) x)) K88 EE) ?_ ?_ ?_⟩
      · exact ⟨(([] : (List (Int × (List Int))))), _, (time_76), _, _, _, _, rfl, (Same.refl _), S82, h83, (RpAll.mono eG85 d71), hw⟩
      · intro i σ H96 hi hw
        obtain ⟨entries_90, vs91, time_92, u93, u94, u95, G100, rfl, eG101, S97, h98, d99, hw⟩ := hw
        have hw := cW_forR (rng_get hi) hw
        generalize (0 + (i : Int)) = x102 at hw ⊢
        have hw : cW (F__law_entries_b2 (cell') (entries_90) (time_92) (x102)) _ EE := hw
        unfold F__law_entries_b2 at hw
        obtain ⟨K105, hK106, hw⟩ := cW_name hw
        refine ⟨_, rfl, _, rfl, _, _, rfl, rfl, (.inl ⟨by decide, by decide⟩), _, _, rfl, rfl, .inl ⟨_, rfl, ?_⟩⟩
        obtain ⟨g108, hw⟩ := cW_grd hw
        refine ⟨_, _, rfl, rfl, (.inr ⟨by decide, by decide⟩), _, rfl, _, _, rfl, rfl, _, _, rfl, rfl, (divW_small g108.1 g108.2), ?_⟩
        have hw := cW_bnd hw
        refine ⟨_, rfl, (.inl ⟨rfl, _, SqL.of h98⟩), _, rfl, _, rfl, _, rfl, _, _, rfl, rfl, (divW_lit (by decide) (by decide)), _, _, rfl, rfl, (show (0 : Int) < 21 by decide), rfl, rfl, G100, _, _, _, rfl, S97.sG, cW_call hw (fun v110 hw p113 H111 n114 e112 h115 => ?_) (fun e he H2 e2 => hE e he H2 (Same.trans S97.b0 e2))⟩
        have h116 : H111 p113 = some (.lst ((v110 : (List Int)).map V.int)) := h115
        have fr117 := S97.free n114
        have S118 := S97.new n114 e112 h116 fr117
        refine ⟨(by show 2 ≤ sizeLine; decide), fun p119 n120 => ?_⟩
        generalize g121 : upd H111 p119 _ = H122
        obtain ⟨e123, h124⟩ := gen_new n120 g121
        have h125 : H122 p119 = some (.tup [V.int (time_92), V.ref p113]) := h124
        have fr126 := S118.free n120
        obtain ⟨G128, eG129, hg130, S127⟩ := S118.grow n120 e123 h125 fr126
        obtain ⟨g131, hw⟩ := cW_grd hw
        have h132 := (e123 _ _ (e112 _ _ h98))
        have h133 := (e123 _ _ h116)
        obtain ⟨G134, eG135, hg136, S137⟩ := Sep.freeze (O' := [p62]) S127 (.head _) h133 fr117 ((all_cons ⟨(.tail _ (.head _)), (ne_of_none h98 n114)⟩ all_nil))
        refine ⟨_, _, _, rfl, rfl, h132, (app_len (RpAll.mono eG135 (RpAll.mono eG129 d99)) g131), ?_⟩
        generalize g138 : upd H122 p62 _ = H139
        obtain ⟨x140, h141⟩ := gen_mut g138
        have h142 : H139 p62 = some (.lst (vs91 ++ [V.ref p119])) := h141
        have S143 := S137.mut1 x140 (.head _) h142
        have d144 : RpAll G134 (vs91 ++ [V.ref p119]) (((entries_90) ++ [(time_92, v110)] : (List (Int × (List Int)))).map (encT2 PyData.int (encL PyData.int))) := app_map (RpAll.mono eG135 (RpAll.mono eG129 d99)) (RpAll.one (rp_mk2 (eG135 _ _ hg130) (.int _) (rp_mk_ints hg136)))
        have hw := cW_bnd hw
        refine ⟨_, rfl, _, _, rfl, rfl, (divW_lit (by decide) (by decide)), _, _, rfl, rfl, (show (0 : Int) < 4 by decide), _, _, rfl, rfl, ?_⟩
        have hw := cW_bnd hw
        refine ⟨fun σ H' => ∃ (step_150 : Int) (G' : Hp), σ = [some (V.int (cell')), some (V.ref p62), some (V.int (time_92)), some (V.int (x102)), some (V.int ((((cell' + (7 * x102)) * 48271) / (1 + x102)))), some (V.int step_150)] ∧ Same G134 G' ∧ Sep [] H G G' H' [p62] ∧ H' p62 = some (.lst (vs91 ++ [V.ref p119])) ∧ cW (F__law_entries_k3 ((entries_90) ++ [(time_92, v110)]) (time_92) step_150) K105 EE, ?_, ?_⟩
        · obtain ⟨K151, hK152, hw⟩ := cW_push hw
          refine ⟨_, rfl, _, _, rfl, rfl, (divW_lit (by decide) (by decide)), _, _, rfl, rfl, (show (0 : Int) < 4 by decide), _, _, rfl, rfl, _, rfl, ?_⟩
          refine iteD (fun c153 => ?_) (fun c153 => ?_)
          · have hw := cW_pos c153 hw
            refine ⟨_, rfl, _, _, rfl, rfl, (show (0 : Int) < 900000000 by decide), _, _, rfl, rfl, ?_⟩
            have hw := cW_bnd hw
            have hw := cW_ok hw
            have hw := hK152 _ hw
            exact ⟨((1 + ((((cell' + (7 * x102)) * 48271) / (1 + x102)) % 900000000))), _, rfl, (Same.refl _), S143, h142, hw⟩
          · have hw := cW_neg c153 hw
            have hw := cW_ok hw
            have hw := hK152 _ hw
            exact ⟨((1 + (((((cell' + (7 * x102)) * 48271) / (1 + x102)) / 5) % 4))), _, rfl, (Same.refl _), S143, h142, hw⟩
        · intro σ H155 hw
          obtain ⟨step_150, G158, rfl, eG159, S156, h157, hw⟩ := hw
          unfold F__law_entries_k3 at hw
          refine ⟨_, rfl, _, rfl, _, _, rfl, rfl, _, _, rfl, rfl, _, rfl, ?_⟩
          refine iteD (fun c160 => ?_) (fun c160 => ?_)
          · have hw := cW_pos c160 hw
            refine ⟨_, rfl, ?_⟩
            have hw := cW_ok hw
            have hw := hK106 (.rt _) hw
            have hw := hK89 (.rt _) hw
            have hw := cW_ok hw
            exact hK0 _ hw _ _ _ _ fr69 S156.b0 S156.g0 S156.sG S156.gn (S156.ow _ (.head _)).1 h157 (RpAll.mono eG159 d144)
          · have hw := cW_neg c160 hw
            refine ⟨_, rfl, _, rfl, _, _, rfl, rfl, ?_⟩
            have hw := cW_bnd hw
            have hw := cW_ok hw
            have hw := hK106 _ hw
            exact ⟨((entries_90) ++ [(time_92, v110)]), _, ((time_92 + step_150)), _, _, _, _, rfl, (Same.trans (Same.trans (Same.trans eG101 eG129) eG135) eG159), S156, h157, (RpAll.mono eG159 d144), hw⟩
      · intro σ H162 hw
        obtain ⟨entries_90, vs91, time_92, u93, u94, u95, G166, rfl, eG167, S163, h164, d165, hw⟩ := hw
        have hw := cW_aftgo (hK89 _ (cW_forR0 (rng_len _ _).symm hw))
        have hw : cW (F__law_entries_r2  (entries_90) (time_92)) _ EE := hw
        unfold F__law_entries_r2 at hw
        refine ⟨_, rfl, ?_⟩
        have hw := cW_ok hw
        exact hK0 _ hw _ _ _ _ fr69 S163.b0 S163.g0 S163.sG S163.gn (S163.ow _ (.head _)).1 h164 d165

abbrev N__require : List Str := ["holds", "text"]
theorem sc__require : FnScope N__require ["holds", "text"] (defScope s__require) := ⟨rfl, rfl, rfl, by decide +kernel, rfl, by decide +kernel, by decide +kernel⟩
theorem ok__require (D : DefX K mg "_require" s__require ["holds", "text"] pats__require) (T : Txt K mg AD)  : CalX P w K mg base 1 "_require" (sp__require K AD) pats__require := by
  refine D.ok sc__require (fun vs H Q E h => ?_) (fun f cdv A_ outer s H vs Q E hr h => ?_)
  · obtain ⟨G, holds', text', rfl, _⟩ := h
    rfl
  · obtain ⟨G, holds', text', rfl, sG, hw⟩ := h
    refine ⟨_, (pss_one (ps_if (pt_not (pt_val (pv 0))) (pss_one (ps_raise rfl (takes_of rfl rfl rfl rfl) (SkE.pmk_own1 PySem.F.excBase_ValueError T.xx_BadContainer T.xg_BadContainer T.xk_BadContainer (raises_own T.xb_BadContainer T.xt_BadContainer) rfl (pv 1)))) pss_nil)), ?_⟩
    obtain ⟨KK, EE, hK0, hE, hw⟩ := cW_gen hw
    have S0 := Sep.startG sG
    unfold F__require at hw
    refine ⟨_, rfl, _, rfl, ?_⟩
    refine iteBN (fun c170 => ?_) (fun c170 => ?_)
    · have hw := cW_negB c170 hw
      refine ⟨_, rfl, ?_⟩
      exact hE 2 (cW_er hw)
    · have hw := cW_pos c170 hw
      have hw := cW_ok hw
      exact hK0 _ hw

abbrev N__check_times : List Str := ["times", "ascends", "time", "one", "other"]
theorem sc__check_times : FnScope N__check_times ["times"] (defScope s__check_times) := ⟨rfl, rfl, rfl, by decide +kernel, rfl, by decide +kernel, by decide +kernel⟩
theorem ok__check_times (D : DefX K mg "_check_times" s__check_times ["times"] pats__check_times) (T : Txt K mg AD) (c__require : CalX P w K mg base 1 "_require" (sp__require K AD) pats__require) : CalX P w K mg base 2 "_check_times" (sp__check_times K AD) pats__check_times := by
  refine D.ok sc__check_times (fun vs H Q E h => ?_) (fun f cdv A_ outer s H vs Q E hr h => ?_)
  · obtain ⟨G, a_times, times', rfl, _⟩ := h
    rfl
  · obtain ⟨G, a_times, times', rfl, sG, q_times, hw⟩ := h
    refine ⟨_, (pss_cons (ps_expr (vx_callX c__require pat__require_0 (.head _) hr (by decide) (takes_of rfl rfl rfl rfl) rfl (pa_cons (pe_callB (cr_allK (K := K) rfl) (by rfl) T.b_all (by decide +kernel) (pa_cons (pe_lc (own := [("time", 2)]) (g := gName 2) (by rfl) sc__check_times.nd (pi_listK (K := K) (pv 0)) (blkOk_by (own := [("time", 2)]) (N := N__check_times) (sc := defScope s__check_times) (by decide +kernel)) (fun _ _ _ _ _ => (pg_name (i := 2) sc__check_times.nd rfl (Or.inl rfl))) (fun _ _ _ _ _ => pts_nil) (fun _ _ _ _ _ => (pe_chain op_le op_le pe_int (pv 2) (C8.pe_gc rfl T.g_GREATEST_TIME)))) pa_nil)) (pa_cons pe_str pa_nil)) pk_nil))
      (pss_cons (ps_set (i := 1) sc__check_times.nd rfl (Or.inl rfl) (pe_callB (cr_allK (K := K) rfl) (by rfl) T.b_all (by decide +kernel) (pa_cons (pe_lc (own := [("one", 3), ("other", 4)]) (g := gTup K 2 (gCons (gName 3) (gCons (gName 4) gNil))) (by rfl) sc__check_times.nd (pi_zipK (K := K) rfl T.b_zip (pa_cons (pv 0) (pa_cons (pe_slice (sl_listK (K := K)) (pv 0) (po_some pe_int) po_none) pa_nil))) (blkOk_by (own := [("one", 3), ("other", 4)]) (N := N__check_times) (sc := defScope s__check_times) (by decide +kernel)) (fun _ _ _ _ _ => (pg_tupK (K := K) (n := 2) (pgs_cons (pg_name (i := 3) sc__check_times.nd rfl (Or.inl rfl)) (pgs_cons (pg_name (i := 4) sc__check_times.nd rfl (Or.inl rfl)) pgs_nil)))) (fun _ _ _ _ _ => pts_nil) (fun _ _ _ _ _ => (pe_cmp (pc_lt (pv 3) (pv 4))))) pa_nil)))
      (pss_one (ps_expr (vx_callX c__require pat__require_0 (.head _) hr (by decide) (takes_of rfl rfl rfl rfl) rfl (pa_cons (pv 1) (pa_cons pe_str pa_nil)) pk_nil))))), ?_⟩
    obtain ⟨KK, EE, hK0, hE, hw⟩ := cW_gen hw
    have S0 := Sep.startG sG
    unfold F__check_times at hw
    obtain ⟨K172, hK173, hw⟩ := cW_push hw
    refine ⟨_, rfl, _, rfl, ⟨_, (SqL.of (S0.bM _ _ q_times))⟩, fun D174 n175 => lc_list (K := K) (a := a_times) (xs := (times' : List Int).map V.int) (fun i H' => ∃ (G' : Hp) (acc177 : (List Bool)), Same G G' ∧ Sep [] H G G' H' [D174] ∧ H' D174 = some (.lst ((acc177 : (List Bool)).map V.bl)) ∧ Same H H' ∧ cW (mapA (List.drop i (times')) acc177 (fun x => noEr (F__check_times_c1  x))) K172 EE) ?_ ?_ ?_ ?_⟩
    · generalize g179 : upd H D174 _ = H180
      obtain ⟨e181, h182⟩ := gen_new n175 g179
      have fr183 := S0.free n175
      have S184 := S0.new n175 e181 h182 fr183
      exact ⟨_, [], Same.refl _, S184, h182, e181, hw⟩
    · intro i H185 _ hw
      obtain ⟨G188, acc190, eG189, S186, h187, eo196, hw⟩ := hw
      exact (SqL.of (S186.bM _ _ q_times))
    · intro i x H197 hj hw
      obtain ⟨G200, acc202, eG201, S198, h199, eo208, hw⟩ := hw
      obtain ⟨x209, hx, rfl⟩ := map_get hj
      obtain ⟨z210, hw⟩ := cW_mapA hx hw
      have hw := cW_noEr hw
      have hw : cW (F__check_times_c1  (x209)) _ (fun _ => False) := hw
      unfold F__check_times_c1 at hw
      refine ⟨rfl, ?_⟩
      refine tyes_go ?_
      refine vv_chain (ta := (tC (V.int 0))) (tb := (tVar 2)) (tc := (tC (V.int 4294967295))) (r := (rI0 fun i j => V.bl (decide (i ≤ j)))) (r' := (rI0 fun i j => V.bl (decide (i ≤ j)))) (x := V.int (0)) (y := V.int (x209)) (z := V.int (4294967295)) (a := decide (0 ≤ x209)) (b := decide (x209 ≤ 4294967295)) ?hx212 ?hy213 ?hz214 (fun Q q => ⟨_, _, rfl, rfl, q⟩) (fun Q q => ⟨_, _, rfl, rfl, q⟩) _ ?_
      case hx212 => exact val_c
      case hy213 => exact (val_var rfl)
      case hz214 => exact val_c
      refine ⟨_, h199, (app_lenM z210), ?_⟩
      generalize g215 : upd H197 D174 _ = H216
      obtain ⟨x217, h218⟩ := gen_mut g215
      have S219 := S198.mut1 x217 (.head _) h218
      have hw := cW_ok hw
      exact ⟨_, (acc202 ++ [(decide (0 ≤ x209) && decide (x209 ≤ 4294967295))]), eG201, S219, (snoc_map h218), (same_mut eo208 x217 n175), hw⟩
    intro H220 hw
    obtain ⟨G223, acc225, eG224, S221, h222, eo231, hw⟩ := hw
    have hw := hK173 _ (cW_mapA0 (by rw [List.length_map]) hw)
    have fr232 := S0.free n175
    refine ⟨_, _, rfl, (SqL.of h222), rfl, rfl, G223, _, _, rfl, S221.sG, cW_call hw (fun v233 hw => ?_) (fun e he => hE e he _ S221.b0)⟩
    refine ⟨_, rfl, _, rfl, _, rfl, _, _, rfl, (SqL.of (S221.bM _ _ q_times)), fun p234 n235 => ?_⟩
    generalize g236 : upd H220 p234 _ = H237
    obtain ⟨e238, h239⟩ := gen_new n235 g236
    have h240 : H237 p234 = some (.lst ((cutL (times') (some (1)) none : (List Int)).map V.int)) := cut_map h239
    have fr241 := S221.free n235
    have S242 := S221.new n235 e238 h240 fr241
    obtain ⟨K244, hK245, hw⟩ := cW_push hw
    refine ⟨_, _, _, _, rfl, .inl ⟨(SqL.of (S242.bM _ _ q_times)), (SqL.of h240), fun D246 n247 => lc_zipM (K := K) (a := a_times) (b := p234) (xs := (times' : List Int).map V.int) (ys := (cutL (times') (some (1)) none : (List Int)).map V.int) (min ((times' : (List Int)).length) ((cutL (times') (some (1)) none : (List Int)).length)) (zipM_n (by rw [List.length_map]) (by rw [List.length_map])) (fun i H' => ∃ (G' : Hp) (acc249 : (List Bool)), Same G223 G' ∧ Sep [] H G G' H' [D246, p234] ∧ H' p234 = some (.lst ((cutL (times') (some (1)) none : (List Int)).map V.int)) ∧ H' D246 = some (.lst ((acc249 : (List Bool)).map V.bl)) ∧ Same H237 H' ∧ cW (mapA (List.drop i (List.zip (times') (cutL (times') (some (1)) none))) acc249 (fun x => noEr (F__check_times_c2  x))) K244 EE) ?_ ?_ ?_ ?_⟩⟩
    · generalize g251 : upd H237 D246 _ = H252
      obtain ⟨e253, h254⟩ := gen_new n247 g251
      have fr255 := S242.free n247
      have S256 := S242.new n247 e253 h254 fr255
      have h257 := (e253 _ _ h240)
      exact ⟨_, [], Same.refl _, (S256.sub (all_cons (.head _) (all_cons (.tail _ (.head _)) all_nil))), h257, h254, e253, hw⟩
    · intro i H258 _ hw
      obtain ⟨G261, acc263, eG262, S259, h270, h260, eo269, hw⟩ := hw
      exact ⟨(SqL.of (S259.bM _ _ q_times)), (SqL.of h270)⟩
    · intro i x y T273 H271 hj hj2 n272 hw
      obtain ⟨G276, acc278, eG277, S274, h285, h275, eo284, hw⟩ := hw
      obtain ⟨x286, hx287, rfl⟩ := map_get hj
      obtain ⟨x288, hx289, rfl⟩ := map_get hj2
      generalize g290 : upd H271 T273 _ = H291
      obtain ⟨e292, h293⟩ := gen_new n272 g290
      have h294 : H291 T273 = some (.tup [V.int (x286), V.int (x288)]) := h293
      have fr295 := S274.free n272
      obtain ⟨G297, eG298, hg299, S296⟩ := S274.grow n272 e292 h294 fr295
      obtain ⟨z300, hw⟩ := cW_mapA (zip_get hx287 hx289) hw
      have hw := cW_noEr hw
      have hw : cW (F__check_times_c2  ((x286, x288))) _ (fun _ => False) := hw
      unfold F__check_times_c2 at hw
      refine ⟨_, _, rfl, (SqT.of (S296.sG _ _ hg299)), rfl, _, _, rfl, _, _, rfl, rfl, rfl, ?_⟩
      refine tyes_go ?_
      have h302 := (e292 _ _ h275)
      refine ⟨_, rfl, _, rfl, _, _, rfl, rfl, _, h302, (app_lenM z300), ?_⟩
      generalize g303 : upd H291 D246 _ = H304
      obtain ⟨x305, h306⟩ := gen_mut g303
      have S307 := S296.mut1 x305 (.head _) h306
      have hw := cW_ok hw
      have h308 := (x305 _ _ (e292 _ _ h285) (ne_of_none h240 n247))
      exact ⟨_, (acc278 ++ [decide (x286 < x288)]), (Same.trans eG277 eG298), S307, h308, (snoc_map h306), (same_mut (Same.trans eo284 e292) x305 n247), hw⟩
    intro H309 hw
    obtain ⟨G312, acc314, eG313, S310, h321, h311, eo320, hw⟩ := hw
    have hw := hK245 _ (cW_mapA0 zipM_len hw)
    have fr322 := S242.free n247
    refine ⟨_, _, rfl, (SqL.of h311), ?_⟩
    have hw := cW_bnd hw
    refine ⟨_, rfl, rfl, rfl, G312, _, _, rfl, S310.sG, cW_call hw (fun v324 hw => ?_) (fun e he => hE e he _ S310.b0)⟩
    have hw := cW_ok hw
    exact hK0 _ hw _ S310.b0

abbrev N__octets_of : List Str := ["number", "count", "place"]
theorem sc__octets_of : FnScope N__octets_of ["number", "count"] (defScope s__octets_of) := ⟨rfl, rfl, rfl, by decide +kernel, rfl, by decide +kernel, by decide +kernel⟩
theorem ok__octets_of (D : DefX K mg "_octets_of" s__octets_of ["number", "count"] pats__octets_of) (T : Txt K mg AD)  : CalX P w K mg base 1 "_octets_of" (sp__octets_of K AD) pats__octets_of := by
  refine D.ok sc__octets_of (fun vs H Q E h => ?_) (fun f cdv A_ outer s H vs Q E hr h => ?_)
  · obtain ⟨G, number', count', rfl, _⟩ := h
    rfl
  · obtain ⟨G, number', count', rfl, sG, hw⟩ := h
    refine ⟨_, (pss_one (ps_ret (pe_lc (own := [("place", 2)]) (g := gName 2) (by rfl) sc__octets_of.nd (pi_range3 rfl T.b_range (pa_cons (pe_op op_sub (pv 1) pe_int) (pa_cons (pe_un un_neg pe_int) (pa_cons (pe_un un_neg pe_int) pa_nil)))) (blkOk_by (own := [("place", 2)]) (N := N__octets_of) (sc := defScope s__octets_of) (by decide +kernel)) (fun _ _ _ _ _ => (pg_name (i := 2) sc__octets_of.nd rfl (Or.inl rfl))) (fun _ _ _ _ _ => pts_nil) (fun _ _ _ _ _ => (pe_op op_and (pe_op op_shr (pv 0) (pe_op op_mul pe_int (pv 2))) pe_int))))), ?_⟩
    obtain ⟨KK, EE, hK0, hE, hw⟩ := cW_gen hw
    have S0 := Sep.startG sG
    unfold F__octets_of at hw
    obtain ⟨g325, hw⟩ := cW_grd hw
    obtain ⟨K328, hK329, hw⟩ := cW_push hw
    refine ⟨_, rfl, _, _, rfl, rfl, _, rfl, _, rfl, _, _, _, _, rfl, (RgC.neg g325.1 g325.2.1 g325.2.2.1 g325.2.2.2), fun D330 n331 => lc_rangeC (lo := (count' - 1)) (c := -1) (n := Int.toNat ((count' - 1) - (-1))) (fun i H' => ∃ (G' : Hp) (acc333 : (List Int)), Same G G' ∧ Sep [] H G G' H' [D330] ∧ H' D330 = some (.lst ((acc333 : (List Int)).map V.int)) ∧ Same H H' ∧ cW (mapA (List.drop i (rngD ((count' - 1)) (Int.toNat ((count' - 1) - (-1))))) acc333 (fun x => noEr (F__octets_of_c1 (number') x))) K328 EE) ?_ ?_ ?_⟩
    · generalize g335 : upd H D330 _ = H336
      obtain ⟨e337, h338⟩ := gen_new n331 g335
      have fr339 := S0.free n331
      have S340 := S0.new n331 e337 h338 fr339
      exact ⟨_, [], Same.refl _, S340, h338, e337, hw⟩
    · intro i H341 hi hw
      obtain ⟨G344, acc346, eG345, S342, h343, eo352, hw⟩ := hw
      obtain ⟨z353, hw⟩ := cW_mapA (rngD_get hi) hw
      generalize ((count' - 1) + ((i : Nat) : Int) * (-1)) = x354 at hw ⊢
      have hw := cW_noEr hw
      have hw : cW (F__octets_of_c1 (number') (x354)) _ (fun _ => False) := hw
      unfold F__octets_of_c1 at hw
      refine ⟨rfl, ?_⟩
      refine tyes_go ?_
      obtain ⟨g356, hw⟩ := cW_grd hw
      refine ⟨_, rfl, _, rfl, _, _, rfl, rfl, (.inl ⟨by decide, by decide⟩), _, _, rfl, rfl, g356, _, _, rfl, rfl, _, h343, (app_lenM z353), ?_⟩
      generalize g357 : upd H341 D330 _ = H358
      obtain ⟨x359, h360⟩ := gen_mut g357
      have S361 := S342.mut1 x359 (.head _) h360
      have hw := cW_ok hw
      exact ⟨_, (acc346 ++ [(PySem.Builtin.bitAnd ((number' / 2 ^ Int.toNat ((8 * x354)))) (255))]), eG345, S361, (snoc_map h360), (same_mut eo352 x359 n331), hw⟩
    intro H362 hw
    obtain ⟨G365, acc367, eG366, S363, h364, eo373, hw⟩ := hw
    have hw := hK329 _ (cW_mapA0 (rngD_len _ _).symm hw)
    have fr374 := S0.free n331
    have hw := cW_ok hw
    exact hK0 _ hw _ _ fr374 S363.b0 h364

abbrev N_pack_container : List Str := ["entries", "octets", "time", "segment", "_"]
theorem sc_pack_container : FnScope N_pack_container ["entries"] (defScope s_pack_container) := ⟨rfl, rfl, rfl, by decide +kernel, rfl, by decide +kernel, by decide +kernel⟩
theorem ok_pack_container (D : DefX K mg "pack_container" s_pack_container ["entries"] pats_pack_container) (T : Txt K mg AD) (c__check_times : CalX P w K mg base 2 "_check_times" (sp__check_times K AD) pats__check_times) (c__octets_of : CalX P w K mg base 1 "_octets_of" (sp__octets_of K AD) pats__octets_of) : CalX P w K mg base 3 "pack_container" (sp_pack_container K AD) pats_pack_container := by
  refine D.ok sc_pack_container (fun vs H Q E h => ?_) (fun f cdv A_ outer s H vs Q E hr h => ?_)
  · obtain ⟨G, v_entries, entries', rfl, _⟩ := h
    rfl
  · obtain ⟨G, v_entries, entries', rfl, sG, r_entries, hw⟩ := h
    refine ⟨_, (pss_cons (ps_if (pt_cmp (pc_gt (pe_callB (call_lenLK (K := K)) (by rfl) T.b_len (by decide +kernel) (pa_cons (pv 0) pa_nil)) (C8.pe_gc rfl T.g_MOST_ENTRIES))) (pss_one (ps_raise rfl (takes_of rfl rfl rfl rfl) (pmk_own PySem.F.excBase_ValueError T.xx_BadContainer T.xg_BadContainer T.xk_BadContainer (raises_own T.xb_BadContainer T.xt_BadContainer) rfl))) pss_nil)
      (pss_cons (ps_expr (vx_callX c__check_times pat__check_times_0 (.head _) hr (by decide) (takes_of rfl rfl rfl rfl) rfl (pa_cons (pe_lc (own := [("time", 2), ("_", 4)]) (g := gTup K 2 (gCons (gName 2) (gCons (gName 4) gNil))) (by rfl) sc_pack_container.nd (pi_listK (K := K) (pv 0)) (blkOk_by (own := [("time", 2), ("_", 4)]) (N := N_pack_container) (sc := defScope s_pack_container) (by decide +kernel)) (fun _ _ _ _ _ => (pg_tupK (K := K) (n := 2) (pgs_cons (pg_name (i := 2) sc_pack_container.nd rfl (Or.inl rfl)) (pgs_cons (pg_name (i := 4) sc_pack_container.nd rfl (Or.inl rfl)) pgs_nil)))) (fun _ _ _ _ _ => pts_nil) (fun _ _ _ _ _ => (pv 2))) pa_nil) pk_nil))
      (pss_cons (ps_set (i := 1) sc_pack_container.nd rfl (Or.inl rfl) (pe_op op_cat (pe_callTy (call_listTK (K := K)) (by rfl) T.b_list (by decide +kernel) (pa_cons (C8.pe_gc (v := V.ref AD.t_MARK) rfl T.g_MARK) pa_nil)) (vx_callX c__octets_of pat__octets_of_0 (.head _) hr (by decide) (takes_of rfl rfl rfl rfl) rfl (pa_cons (pe_callB (call_lenLK (K := K)) (by rfl) T.b_len (by decide +kernel) (pa_cons (pv 0) pa_nil)) (pa_cons pe_int pa_nil)) pk_nil)))
      (pss_cons (ps_for (passes_of rfl) rfl (pi_listK (K := K) (pv 0)) (pg_tupK (K := K) (n := 2) (pgs_cons (pg_name (i := 2) sc_pack_container.nd rfl (Or.inl rfl)) (pgs_cons (pg_name (i := 3) sc_pack_container.nd rfl (Or.inl rfl)) pgs_nil))) (pss_one (ps_expr (pe_bm PySem.F.plainAttrs_list PySem.F.slot_list_extend PySem.F.type_list_extend mt_extend (pv 1) (pa_cons (pe_op op_cat (vx_callX c__octets_of pat__octets_of_0 (.head _) hr (by decide) (takes_of rfl rfl rfl rfl) rfl (pa_cons (pv 2) (pa_cons pe_int pa_nil)) pk_nil) (vx_callX c__octets_of pat__octets_of_0 (.head _) hr (by decide) (takes_of rfl rfl rfl rfl) rfl (pa_cons (pe_callB (call_lenLiK (K := K)) (by rfl) T.b_len (by decide +kernel) (pa_cons (pv 3) pa_nil)) (pa_cons pe_int pa_nil)) pk_nil)) pa_nil)))))
      (pss_cons (ps_for (passes_of rfl) rfl (pi_listK (K := K) (pv 0)) (pg_tupK (K := K) (n := 2) (pgs_cons (pg_name (i := 4) sc_pack_container.nd rfl (Or.inl rfl)) (pgs_cons (pg_name (i := 3) sc_pack_container.nd rfl (Or.inl rfl)) pgs_nil))) (pss_one (ps_expr (pe_bm PySem.F.plainAttrs_list PySem.F.slot_list_extend PySem.F.type_list_extend mt_extend (pv 1) (pa_cons (pv 3) pa_nil)))))
      (pss_one (ps_ret (pv 1)))))))), ?_⟩
    obtain ⟨KK, EE, hK0, hE, hw⟩ := cW_gen hw
    have S0 := Sep.startG sG
    unfold F_pack_container at hw
    obtain ⟨a375, vs376, rfl, h377, d378⟩ := rp_list r_entries
    refine ⟨_, rfl, _, _, _, rfl, (SqL.of (S0.bM _ _ h377)), (by rw [d378.len, List.length_map]), _, _, rfl, rfl, _, rfl, ?_⟩
    refine iteD (fun c379 => ?_) (fun c379 => ?_)
    · have hw := cW_pos c379 hw
      exact hE 2 (cW_er hw) _ S0.b0
    · have hw := cW_neg c379 hw
      obtain ⟨K381, hK382, hw⟩ := cW_push hw
      refine ⟨_, rfl, _, rfl, ⟨_, (SqL.of (S0.bM _ _ h377))⟩, fun D383 n384 => lc_list (K := K) (a := a375) (xs := vs376) (fun i H' => ∃ (G' : Hp) (acc386 : (List Int)), Same G G' ∧ Sep [] H G G' H' [D383] ∧ H' D383 = some (.lst ((acc386 : (List Int)).map V.int)) ∧ Same H H' ∧ cW (mapA (List.drop i (entries')) acc386 (fun x => noEr (F_pack_container_c1  x))) K381 EE) ?_ ?_ ?_ ?_⟩
      · generalize g388 : upd H D383 _ = H389
        obtain ⟨e390, h391⟩ := gen_new n384 g388
        have fr392 := S0.free n384
        have S393 := S0.new n384 e390 h391 fr392
        exact ⟨_, [], Same.refl _, S393, h391, e390, hw⟩
      · intro i H394 _ hw
        obtain ⟨G397, acc399, eG398, S395, h396, eo405, hw⟩ := hw
        exact (SqL.of (S395.bM _ _ h377))
      · intro i x H406 hj hw
        obtain ⟨G409, acc411, eG410, S407, h408, eo417, hw⟩ := hw
        obtain ⟨x418, hx, r419⟩ := RpAll.get d378 hj
        obtain ⟨a420, v422, v423, rfl, h421, r424, r425⟩ := rp_tup2 r419
        obtain rfl := rp_int r424
        obtain ⟨a426, rfl, h427⟩ := rp_ints r425
        obtain ⟨z428, hw⟩ := cW_mapA hx hw
        have hw := cW_noEr hw
        have hw : cW (F_pack_container_c1  (x418)) _ (fun _ => False) := hw
        unfold F_pack_container_c1 at hw
        refine ⟨_, _, rfl, (SqT.of (S407.bM _ _ h421)), rfl, _, _, rfl, _, _, rfl, rfl, rfl, ?_⟩
        refine tyes_go ?_
        refine ⟨_, rfl, _, h408, (app_lenM z428), ?_⟩
        generalize g430 : upd H406 D383 _ = H431
        obtain ⟨x432, h433⟩ := gen_mut g430
        have S434 := S407.mut1 x432 (.head _) h433
        have hw := cW_ok hw
        exact ⟨_, (acc411 ++ [x418.1]), eG410, S434, (snoc_map h433), (same_mut eo417 x432 n384), hw⟩
      intro H435 hw
      obtain ⟨G438, acc440, eG439, S436, h437, eo446, hw⟩ := hw
      have hw := hK382 _ (cW_mapA0 (by rw [d378.len, List.length_map]) hw)
      have fr447 := S0.free n384
      refine ⟨rfl, rfl, G438, _, _, rfl, S436.sG, (hide_nil h437), cW_call hw (fun v448 hw H449 e450 => ?_) (fun e he H2 e2 => hE e he H2 (Same.trans S436.b0 e2))⟩
      have S451 := S436.same e450
      refine ⟨_, _, rfl, (T.ts_MARK _), fun p452 n453 => ?_⟩
      generalize g454 : upd H449 p452 _ = H455
      obtain ⟨e456, h457⟩ := gen_new n453 g454
      have h458 : H455 p452 = some (.lst (([84, 72, 65, 85] : (List Int)).map V.int)) := h457
      have fr459 := S451.free n453
      have S460 := S451.new n453 e456 h458 fr459
      refine ⟨_, rfl, _, _, _, rfl, (SqL.of (S460.bM _ _ h377)), (by rw [d378.len, List.length_map]), rfl, rfl, G438, _, _, rfl, S460.sG, cW_call hw (fun v461 hw p464 H462 n465 e463 h466 => ?_) (fun e he H2 e2 => hE e he H2 (Same.trans S460.b0 e2))⟩
      have h467 : H462 p464 = some (.lst ((v461 : (List Int)).map V.int)) := h466
      have fr468 := S460.free n465
      have S469 := S460.new n465 e463 h467 fr468
      obtain ⟨g470, hw⟩ := cW_grd hw
      have h471 := (e463 _ _ h458)
      refine ⟨_, _, _, _, rfl, rfl, h471, h467, (cat_lenM g470), fun p472 n473 => ?_⟩
      generalize g474 : upd H462 p472 _ = H475
      obtain ⟨e476, h477⟩ := gen_new n473 g474
      have h478 : H475 p472 = some (.lst ((([84, 72, 65, 85]) ++ (v461) : (List Int)).map V.int)) := cat_map h477
      have fr479 := S469.free n473
      have S480 := S469.new n473 e476 h478 fr479
      obtain ⟨K482, hK483, hw⟩ := cW_push hw
      refine ⟨_, rfl, _, rfl, ⟨_, (SqL.of (S480.bM _ _ h377))⟩, for_list (K := K) (a := a375) (xs := vs376) (fun i σ H' => ∃ (octets_484 : (List Int)) (u485 : Option V) (u486 : Option V) (G' : Hp), σ = [some (V.ref a375), some (V.ref p472), u485, u486, none] ∧ Same G438 G' ∧ Sep [] H G G' H' [p472] ∧ H' p472 = some (.lst ((octets_484 : (List Int)).map V.int)) ∧ cW (forS (List.drop i (entries')) octets_484 (fun s x => F_pack_container_b2  s x)) K482 EE) ?_ ?_ ?_ ?_⟩
      · exact ⟨(([84, 72, 65, 85]) ++ (v461)), _, _, _, rfl, (Same.refl _), (S480.sub (all_cons (.head _) all_nil)), h478, hw⟩
      · intro i σ H487 _ hw
        obtain ⟨octets_484, u485, u486, G490, rfl, eG491, S488, h489, hw⟩ := hw
        exact (SqL.of (S488.bM _ _ h377))
      · intro i x σ H492 hj hw
        obtain ⟨octets_484, u485, u486, G495, rfl, eG496, S493, h494, hw⟩ := hw
        obtain ⟨x497, hx, r498⟩ := RpAll.get d378 hj
        obtain ⟨a499, v501, v502, rfl, h500, r503, r504⟩ := rp_tup2 r498
        obtain rfl := rp_int r503
        obtain ⟨a505, rfl, h506⟩ := rp_ints r504
        have hw := cW_forS hx hw
        have hw : cW (F_pack_container_b2  (octets_484) (x497)) _ EE := hw
        unfold F_pack_container_b2 at hw
        obtain ⟨K508, hK509, hw⟩ := cW_name hw
        refine ⟨_, _, rfl, (SqT.of (S493.bM _ _ h500)), rfl, _, _, rfl, _, _, rfl, rfl, _, rfl, (.inl ⟨rfl, _, SqL.of h494⟩), _, rfl, rfl, rfl, G495, _, _, rfl, S493.sG, cW_call hw (fun v511 hw p514 H512 n515 e513 h516 => ?_) (fun e he H2 e2 => hE e he H2 (Same.trans S493.b0 e2))⟩
        have h517 : H512 p514 = some (.lst ((v511 : (List Int)).map V.int)) := h516
        have fr518 := S493.free n515
        have S519 := S493.new n515 e513 h517 fr518
        refine ⟨_, rfl, _, _, rfl, (SqL.of (S519.bM _ _ h506)), rfl, rfl, G495, _, _, rfl, S519.sG, cW_call hw (fun v520 hw p523 H521 n524 e522 h525 => ?_) (fun e he H2 e2 => hE e he H2 (Same.trans S519.b0 e2))⟩
        have h526 : H521 p523 = some (.lst ((v520 : (List Int)).map V.int)) := h525
        have fr527 := S519.free n524
        have S528 := S519.new n524 e522 h526 fr527
        obtain ⟨g529, hw⟩ := cW_grd hw
        have h530 := (e522 _ _ h517)
        refine ⟨_, _, _, _, rfl, rfl, h530, h526, (cat_lenM g529), fun p531 n532 => ?_⟩
        generalize g533 : upd H521 p531 _ = H534
        obtain ⟨e535, h536⟩ := gen_new n532 g533
        have h537 : H534 p531 = some (.lst (((v511) ++ (v520) : (List Int)).map V.int)) := cat_map h536
        have fr538 := S528.free n532
        have S539 := S528.new n532 e535 h537 fr538
        obtain ⟨g540, hw⟩ := cW_grd hw
        have h541 := (e535 _ _ (e522 _ _ (e513 _ _ h494)))
        refine ⟨_, _, _, _, rfl, rfl, h541, h537, (cat_lenM g540), ?_⟩
        generalize g542 : upd H534 p472 _ = H543
        obtain ⟨x544, h545⟩ := gen_mut g542
        have h546 : H543 p472 = some (.lst (((octets_484) ++ ((v511) ++ (v520)) : (List Int)).map V.int)) := cat_map h545
        have S547 := S539.mut1 x544 (.tail _ (.tail _ (.tail _ (.head _)))) h546
        have hw := cW_bnd hw
        have hw := cW_ok hw
        have hw := hK509 _ hw
        exact ⟨((octets_484) ++ ((v511) ++ (v520))), _, _, _, rfl, eG496, (S547.sub (all_cons (.tail _ (.tail _ (.tail _ (.head _)))) all_nil)), h546, hw⟩
      · intro σ H549 hw
        obtain ⟨octets_484, u485, u486, G552, rfl, eG553, S550, h551, hw⟩ := hw
        have hw := hK483 _ (cW_forS0 (by rw [d378.len, List.length_map]) hw)
        have hw : cW (F_pack_container_r2 (entries') (octets_484)) _ EE := hw
        unfold F_pack_container_r2 at hw
        obtain ⟨K555, hK556, hw⟩ := cW_push hw
        refine ⟨_, rfl, _, rfl, ⟨_, (SqL.of (S550.bM _ _ h377))⟩, for_list (K := K) (a := a375) (xs := vs376) (fun i σ H' => ∃ (octets_557 : (List Int)) (u558 : Option V) (u559 : Option V) (G' : Hp), σ = [some (V.ref a375), some (V.ref p472), u485, u558, u559] ∧ Same G552 G' ∧ Sep [] H G G' H' [p472] ∧ H' p472 = some (.lst ((octets_557 : (List Int)).map V.int)) ∧ cW (forS (List.drop i (entries')) octets_557 (fun s x => F_pack_container_b3  s x)) K555 EE) ?_ ?_ ?_ ?_⟩
        · exact ⟨(octets_484), _, _, _, rfl, (Same.refl _), S550, h551, hw⟩
        · intro i σ H560 _ hw
          obtain ⟨octets_557, u558, u559, G563, rfl, eG564, S561, h562, hw⟩ := hw
          exact (SqL.of (S561.bM _ _ h377))
        · intro i x σ H565 hj hw
          obtain ⟨octets_557, u558, u559, G568, rfl, eG569, S566, h567, hw⟩ := hw
          obtain ⟨x570, hx, r571⟩ := RpAll.get d378 hj
          obtain ⟨a572, v574, v575, rfl, h573, r576, r577⟩ := rp_tup2 r571
          obtain rfl := rp_int r576
          obtain ⟨a578, rfl, h579⟩ := rp_ints r577
          have hw := cW_forS hx hw
          have hw : cW (F_pack_container_b3  (octets_557) (x570)) _ EE := hw
          unfold F_pack_container_b3 at hw
          obtain ⟨K581, hK582, hw⟩ := cW_name hw
          obtain ⟨g584, hw⟩ := cW_grd hw
          refine ⟨_, _, rfl, (SqT.of (S566.bM _ _ h573)), rfl, _, _, rfl, _, _, rfl, rfl, _, rfl, (.inl ⟨rfl, _, SqL.of h567⟩), _, rfl, _, _, _, _, rfl, rfl, h567, (S566.bM _ _ h579), (cat_lenM g584), ?_⟩
          generalize g585 : upd H565 p472 _ = H586
          obtain ⟨x587, h588⟩ := gen_mut g585
          have h589 : H586 p472 = some (.lst (((octets_557) ++ (x570.2) : (List Int)).map V.int)) := cat_map h588
          have S590 := S566.mut1 x587 (.head _) h589
          have hw := cW_bnd hw
          have hw := cW_ok hw
          have hw := hK582 _ hw
          exact ⟨((octets_557) ++ (x570.2)), _, _, _, rfl, eG569, S590, h589, hw⟩
        · intro σ H592 hw
          obtain ⟨octets_557, u558, u559, G595, rfl, eG596, S593, h594, hw⟩ := hw
          have hw := hK556 _ (cW_forS0 (by rw [d378.len, List.length_map]) hw)
          have hw : cW (F_pack_container_r3  (octets_557)) _ EE := hw
          unfold F_pack_container_r3 at hw
          refine ⟨_, rfl, ?_⟩
          have hw := cW_ok hw
          exact hK0 _ hw _ _ fr479 S593.b0 h594

abbrev N__number_of : List Str := ["octets", "number", "octet"]
theorem sc__number_of : FnScope N__number_of ["octets"] (defScope s__number_of) := ⟨rfl, rfl, rfl, by decide +kernel, rfl, by decide +kernel, by decide +kernel⟩
theorem ok__number_of (D : DefX K mg "_number_of" s__number_of ["octets"] pats__number_of) (T : Txt K mg AD)  : CalX P w K mg base 1 "_number_of" (sp__number_of K AD) pats__number_of := by
  refine D.ok sc__number_of (fun vs H Q E h => ?_) (fun f cdv A_ outer s H vs Q E hr h => ?_)
  · obtain ⟨G, a_octets, octets', rfl, _⟩ := h
    rfl
  · obtain ⟨G, a_octets, octets', rfl, sG, q_octets, hw⟩ := h
    refine ⟨_, (pss_cons (ps_set (i := 1) sc__number_of.nd rfl (Or.inl rfl) pe_int)
      (pss_cons (ps_for (passes_of rfl) rfl (pi_listK (K := K) (pv 0)) (pg_name (i := 2) sc__number_of.nd rfl (Or.inl rfl)) (pss_one (ps_set (i := 1) sc__number_of.nd rfl (Or.inl rfl) (pe_op op_or (pe_op op_shlW (pv 1) pe_int) (pv 2)))))
      (pss_one (ps_ret (pv 1))))), ?_⟩
    obtain ⟨KK, EE, hK0, hE, hw⟩ := cW_gen hw
    have S0 := Sep.startG sG
    unfold F__number_of at hw
    obtain ⟨K598, hK599, hw⟩ := cW_push hw
    refine ⟨_, rfl, _, rfl, ⟨_, (SqL.of (S0.bM _ _ q_octets))⟩, for_list (K := K) (a := a_octets) (xs := (octets' : List Int).map V.int) (fun i σ H' => ∃ (number_600 : Int) (u601 : Option V) (G' : Hp), σ = [some (V.ref a_octets), some (V.int number_600), u601] ∧ Same G G' ∧ Sep [] H G G' H' [] ∧ cW (forS (List.drop i (octets')) number_600 (fun s x => F__number_of_b1  s x)) K598 EE) ?_ ?_ ?_ ?_⟩
    · exact ⟨(0), _, _, rfl, (Same.refl _), S0, hw⟩
    · intro i σ H602 _ hw
      obtain ⟨number_600, u601, G604, rfl, eG605, S603, hw⟩ := hw
      exact (SqL.of (S603.bM _ _ q_octets))
    · intro i x σ H606 hj hw
      obtain ⟨number_600, u601, G608, rfl, eG609, S607, hw⟩ := hw
      obtain ⟨x610, hx, rfl⟩ := map_get hj
      have hw := cW_forS hx hw
      have hw : cW (F__number_of_b1  (number_600) (x610)) _ EE := hw
      unfold F__number_of_b1 at hw
      obtain ⟨K612, hK613, hw⟩ := cW_name hw
      obtain ⟨g615, hw⟩ := cW_grd hw
      refine ⟨_, rfl, _, _, rfl, rfl, (shl_side g615.1 g615.2.1 g615.2.2.1 g615.2.2.2), _, rfl, _, _, rfl, rfl, ?_⟩
      have hw := cW_bnd hw
      have hw := cW_ok hw
      have hw := hK613 _ hw
      exact ⟨((PySem.Builtin.bitOr ((number_600 * 2 ^ Int.toNat (8))) (x610))), _, _, rfl, eG609, S607, hw⟩
    · intro σ H617 hw
      obtain ⟨number_600, u601, G619, rfl, eG620, S618, hw⟩ := hw
      have hw := hK599 _ (cW_forS0 (by rw [List.length_map]) hw)
      have hw : cW (F__number_of_r1  (number_600)) _ EE := hw
      unfold F__number_of_r1 at hw
      refine ⟨_, rfl, ?_⟩
      have hw := cW_ok hw
      exact hK0 _ hw _ S618.b0

abbrev N_open_container : List Str := ["octets", "count", "end", "entries", "index", "place", "length", "time", "_"]
theorem sc_open_container : FnScope N_open_container ["octets"] (defScope s_open_container) := ⟨rfl, rfl, rfl, by decide +kernel, rfl, by decide +kernel, by decide +kernel⟩
theorem ok_open_container (D : DefX K mg "open_container" s_open_container ["octets"] pats_open_container) (T : Txt K mg AD) (c__require : CalX P w K mg base 1 "_require" (sp__require K AD) pats__require) (c__number_of : CalX P w K mg base 1 "_number_of" (sp__number_of K AD) pats__number_of) (c__check_times : CalX P w K mg base 2 "_check_times" (sp__check_times K AD) pats__check_times) : CalX P w K mg base 3 "open_container" (sp_open_container K AD) pats_open_container := by
  refine D.ok sc_open_container (fun vs H Q E h => ?_) (fun f cdv A_ outer s H vs Q E hr h => ?_)
  · obtain ⟨G, a_octets, octets', rfl, _⟩ := h
    rfl
  · obtain ⟨G, a_octets, octets', rfl, sG, q_octets, hw⟩ := h
    refine ⟨_, (C8.pss_cut (ps_expr (vx_callX c__require pat__require_0 (.head _) hr (by decide) (takes_of rfl rfl rfl rfl) rfl (pa_cons (pe_and (pe_cmp (pc_ge (pe_callB (call_lenLiK (K := K)) (by rfl) T.b_len (by decide +kernel) (pa_cons (pv 0) pa_nil)) (C8.pe_gc rfl T.g_HEAD))) (pe_one (pe_cmpR (op_eqT (encOk_L encOk_int) hr.units) (pe_slice (sl_listK (K := K)) (pv 0) po_none (po_some pe_int)) (pe_callTy (call_listTK (K := K)) (by rfl) T.b_list (by decide +kernel) (pa_cons (C8.pe_gc (v := V.ref AD.t_MARK) rfl T.g_MARK) pa_nil)) (nomark _)))) (pa_cons pe_str pa_nil)) pk_nil))
      (pss_cons (ps_set (i := 1) sc_open_container.nd rfl (Or.inl rfl) (vx_callX c__number_of pat__number_of_0 (.head _) hr (by decide) (takes_of rfl rfl rfl rfl) rfl (pa_cons (pe_slice (sl_listK (K := K)) (pv 0) (po_some pe_int) (po_some (C8.pe_gc rfl T.g_HEAD))) pa_nil) pk_nil))
      (pss_cons (ps_set (i := 2) sc_open_container.nd rfl (Or.inl rfl) (pe_op op_add (C8.pe_gc rfl T.g_HEAD) (pe_op op_mul (C8.pe_gc rfl T.g_ENTRY) (pv 1))))
      (pss_cons (ps_set (i := 3) sc_open_container.nd rfl (Or.inl rfl) (pe_lst pa_nil))
      (pss_cons (ps_for (passes_of rfl) rfl (pi_range1 rfl T.b_range (pa_cons (pv 1) pa_nil)) (pg_name (i := 4) sc_open_container.nd rfl (Or.inl rfl)) (pss_cons (ps_set (i := 5) sc_open_container.nd rfl (Or.inl rfl) (pe_op op_add (C8.pe_gc rfl T.g_HEAD) (pe_op op_mul (C8.pe_gc rfl T.g_ENTRY) (pv 4))))
      (pss_cons (ps_set (i := 6) sc_open_container.nd rfl (Or.inl rfl) (vx_callX c__number_of pat__number_of_0 (.head _) hr (by decide) (takes_of rfl rfl rfl rfl) rfl (pa_cons (pe_slice (sl_listK (K := K)) (pv 0) (po_some (pe_op op_add (pv 5) pe_int)) (po_some (pe_op op_add (pv 5) (C8.pe_gc rfl T.g_ENTRY)))) pa_nil) pk_nil))
      (pss_cons (ps_expr (pe_bm PySem.F.plainAttrs_list PySem.F.slot_list_append PySem.F.type_list_append mt_append (pv 3) (pa_cons (pe_tup (pa_cons (vx_callX c__number_of pat__number_of_0 (.head _) hr (by decide) (takes_of rfl rfl rfl rfl) rfl (pa_cons (pe_slice (sl_listK (K := K)) (pv 0) (po_some (pv 5)) (po_some (pe_op op_add (pv 5) pe_int))) pa_nil) pk_nil) (pa_cons (pe_slice (sl_listK (K := K)) (pv 0) (po_some (pv 2)) (po_some (pe_op op_add (pv 2) (pv 6)))) pa_nil))) pa_nil)))
      (pss_one (ps_aug (i := 2) sc_open_container.nd rfl (Or.inl rfl) (pv 6) (pip iop_add)))))))
      (pss_cons (ps_expr (vx_callX c__require pat__require_0 (.head _) hr (by decide) (takes_of rfl rfl rfl rfl) rfl (pa_cons (pe_cmp (pc_eqI (pe_callB (call_lenLiK (K := K)) (by rfl) T.b_len (by decide +kernel) (pa_cons (pv 0) pa_nil)) (pv 2))) (pa_cons pe_str pa_nil)) pk_nil))
      (pss_cons (ps_expr (vx_callX c__check_times pat__check_times_0 (.head _) hr (by decide) (takes_of rfl rfl rfl rfl) rfl (pa_cons (pe_lc (own := [("time", 7), ("_", 8)]) (g := gTup K 2 (gCons (gName 7) (gCons (gName 8) gNil))) (by rfl) sc_open_container.nd (pi_listK (K := K) (pv 3)) (blkOk_by (own := [("time", 7), ("_", 8)]) (N := N_open_container) (sc := defScope s_open_container) (by decide +kernel)) (fun _ _ _ _ _ => (pg_tupK (K := K) (n := 2) (pgs_cons (pg_name (i := 7) sc_open_container.nd rfl (Or.inl rfl)) (pgs_cons (pg_name (i := 8) sc_open_container.nd rfl (Or.inl rfl)) pgs_nil)))) (fun _ _ _ _ _ => pts_nil) (fun _ _ _ _ _ => (pv 7))) pa_nil) pk_nil))
      (pss_one (ps_ret (pv 3)))))))))), ?_⟩
    obtain ⟨KK, EE, hK0, hE, hw⟩ := cW_gen hw
    have S0 := Sep.startG sG
    unfold F_open_container at hw
    refine ⟨fun σ H' => ∃ (G' : Hp), σ = [some (V.ref a_octets), none, none, none, none, none, none, none, none] ∧ Same G G' ∧ Sep [] H G G' H' [] ∧ cW (F_open_container_k1 (octets') ) KK EE, ?_, ?_⟩
    · obtain ⟨K623, hK624, hw⟩ := cW_push hw
      refine ⟨_, rfl, _, _, rfl, (SqL.of (S0.bM _ _ q_octets)), _, _, rfl, rfl, _, rfl, ?_⟩
      refine iteB (fun c625 => ?_) (fun c625 => ?_)
      · have hw := cW_pos c625 hw
        refine ⟨_, rfl, _, rfl, _, _, rfl, (SqL.of (S0.bM _ _ q_octets)), fun p626 n627 => ?_⟩
        generalize g628 : upd H p626 _ = H629
        obtain ⟨e630, h631⟩ := gen_new n627 g628
        have h632 : H629 p626 = some (.lst ((cutL (octets') none (some (4)) : (List Int)).map V.int)) := cut_map h631
        have fr633 := S0.free n627
        have S634 := S0.new n627 e630 h632 fr633
        refine ⟨_, _, rfl, (T.ts_MARK _), fun p635 n636 => ?_⟩
        generalize g637 : upd H629 p635 _ = H638
        obtain ⟨e639, h640⟩ := gen_new n636 g637
        have h641 : H638 p635 = some (.lst (([84, 72, 65, 85] : (List Int)).map V.int)) := h640
        have fr642 := S634.free n636
        have S643 := S634.new n636 e639 h641 fr642
        have h644 := (e639 _ _ h632)
        refine ⟨_, _, (rp_mk_ints h644), (rp_mk_ints h641), rfl, rfl, G, _, _, rfl, S643.sG, cW_call hw (fun v645 hw => ?_) (fun e he => hE e he _ S643.b0)⟩
        have hw := cW_ok hw
        have hw := hK624 _ hw
        exact ⟨_, rfl, (Same.refl _), (S643.sub all_nil), hw⟩
      · have hw := cW_negB c625 hw
        refine ⟨rfl, rfl, G, _, _, rfl, S0.sG, cW_call hw (fun v646 hw => ?_) (fun e he => hE e he _ S0.b0)⟩
        have hw := cW_ok hw
        have hw := hK624 _ hw
        exact ⟨_, rfl, (Same.refl _), S0, hw⟩
    · intro σ H647 hw
      obtain ⟨G649, rfl, eG650, S648, hw⟩ := hw
      unfold F_open_container_k1 at hw
      refine ⟨_, rfl, _, rfl, _, rfl, _, _, rfl, (SqL.of (S648.bM _ _ q_octets)), fun p651 n652 => ?_⟩
      generalize g653 : upd H647 p651 _ = H654
      obtain ⟨e655, h656⟩ := gen_new n652 g653
      have h657 : H654 p651 = some (.lst ((cutL (octets') (some (4)) (some (6)) : (List Int)).map V.int)) := cut_map h656
      have fr658 := S648.free n652
      have S659 := S648.new n652 e655 h657 fr658
      refine ⟨rfl, rfl, G649, _, _, rfl, S659.sG, (hide_nil h657), cW_call hw (fun v660 hw H661 e662 => ?_) (fun e he H2 e2 => hE e he H2 (Same.trans S659.b0 e2))⟩
      have S663 := S659.same e662
      refine ⟨_, rfl, _, _, rfl, rfl, (.inl ⟨by decide, by decide⟩), _, _, rfl, rfl, ?_⟩
      have hw := cW_bnd hw
      refine ⟨(by show 0 ≤ sizeLine; decide), fun p665 n666 => ?_⟩
      generalize g667 : upd H661 p665 _ = H668
      obtain ⟨e669, h670⟩ := gen_new n666 g667
      have h671 : H668 p665 = some (.lst ([])) := h670
      have fr672 := S663.free n666
      have S673 := S663.new n666 e669 h671 fr672
      have d674 : RpAll G649 ([]) ((([] : (List (Int × (List Int)))) : (List (Int × (List Int)))).map (encT2 PyData.int (encL PyData.int))) := RpAll.nil
      obtain ⟨g675, hw⟩ := cW_grd hw
      obtain ⟨K678, hK679, hw⟩ := cW_push hw
      refine ⟨_, rfl, _, rfl, g675.1, g675.2, for_range (lo := 0) (n := Int.toNat (v660)) (fun i σ H' => ∃ (end_680 : Int) (entries_681 : (List (Int × (List Int)))) (vs682 : List V) (u683 : Option V) (u684 : Option V) (u685 : Option V) (G' : Hp), σ = [some (V.ref a_octets), some (V.int (v660)), some (V.int end_680), some (V.ref p665), u683, u684, u685, none, none] ∧ Same G649 G' ∧ Sep [] H G G' H' [p665] ∧ H' p665 = some (.lst (vs682)) ∧ RpAll G' (vs682) ((entries_681 : (List (Int × (List Int)))).map (encT2 PyData.int (encL PyData.int))) ∧ cW (forS (List.drop i (rng (0) (Int.toNat (v660)))) (end_680, entries_681) (fun s x => F_open_container_b2 (octets') (s.1) (s.2) x)) K678 EE) ?_ ?_ ?_⟩
      · exact ⟨((6 + (8 * v660))), (([] : (List (Int × (List Int))))), _, _, _, _, _, rfl, (Same.refl _), (S673.sub (all_cons (.head _) all_nil)), h671, d674, hw⟩
      · intro i σ H686 hi hw
        obtain ⟨end_680, entries_681, vs682, u683, u684, u685, G690, rfl, eG691, S687, h688, d689, hw⟩ := hw
        have hw := cW_forS (rng_get hi) hw
        generalize (0 + (i : Int)) = x692 at hw ⊢
        have hw : cW (F_open_container_b2 (octets') (end_680) (entries_681) (x692)) _ EE := hw
        unfold F_open_container_b2 at hw
        obtain ⟨K695, hK696, hw⟩ := cW_name hw
        refine ⟨_, rfl, _, _, rfl, rfl, (.inl ⟨by decide, by decide⟩), _, _, rfl, rfl, ?_⟩
        have hw := cW_bnd hw
        refine ⟨_, rfl, _, rfl, _, _, rfl, rfl, _, rfl, _, rfl, _, _, rfl, rfl, _, rfl, _, _, rfl, (SqL.of (S687.bM _ _ q_octets)), fun p699 n700 => ?_⟩
        generalize g701 : upd H686 p699 _ = H702
        obtain ⟨e703, h704⟩ := gen_new n700 g701
        have h705 : H702 p699 = some (.lst ((cutL (octets') (some (((6 + (8 * x692)) + 4))) (some (((6 + (8 * x692)) + 8))) : (List Int)).map V.int)) := cut_map h704
        have fr706 := S687.free n700
        have S707 := S687.new n700 e703 h705 fr706
        refine ⟨rfl, rfl, G690, _, _, rfl, S707.sG, (hide_nil h705), cW_call hw (fun v708 hw H709 e710 => ?_) (fun e he H2 e2 => hE e he H2 (Same.trans S707.b0 e2))⟩
        have S711 := S707.same e710
        have h712 := (e710 _ _ (e703 _ _ h688))
        refine ⟨_, rfl, (.inl ⟨rfl, _, SqL.of h712⟩), _, rfl, _, rfl, _, rfl, _, rfl, _, _, rfl, rfl, _, rfl, _, _, rfl, (SqL.of (S711.bM _ _ q_octets)), fun p713 n714 => ?_⟩
        generalize g715 : upd H709 p713 _ = H716
        obtain ⟨e717, h718⟩ := gen_new n714 g715
        have h719 : H716 p713 = some (.lst ((cutL (octets') (some ((6 + (8 * x692)))) (some (((6 + (8 * x692)) + 4))) : (List Int)).map V.int)) := cut_map h718
        have fr720 := S711.free n714
        have S721 := S711.new n714 e717 h719 fr720
        refine ⟨rfl, rfl, G690, _, _, rfl, S721.sG, (hide_nil h719), cW_call hw (fun v722 hw H723 e724 => ?_) (fun e he H2 e2 => hE e he H2 (Same.trans S721.b0 e2))⟩
        have S725 := S721.same e724
        refine ⟨_, rfl, _, rfl, _, rfl, _, rfl, _, rfl, _, _, rfl, rfl, _, rfl, _, _, rfl, (SqL.of (S725.bM _ _ q_octets)), fun p726 n727 => ?_⟩
        generalize g728 : upd H723 p726 _ = H729
        obtain ⟨e730, h731⟩ := gen_new n727 g728
        have h732 : H729 p726 = some (.lst ((cutL (octets') (some (end_680)) (some ((end_680 + v708))) : (List Int)).map V.int)) := cut_map h731
        have fr733 := S725.free n727
        have S734 := S725.new n727 e730 h732 fr733
        refine ⟨(by show 2 ≤ sizeLine; decide), fun p735 n736 => ?_⟩
        generalize g737 : upd H729 p735 _ = H738
        obtain ⟨e739, h740⟩ := gen_new n736 g737
        have h741 : H738 p735 = some (.tup [V.int (v722), V.ref p726]) := h740
        have fr742 := S734.free n736
        obtain ⟨G744, eG745, hg746, S743⟩ := S734.grow n736 e739 h741 fr742
        obtain ⟨g747, hw⟩ := cW_grd hw
        have h748 := (e739 _ _ (e730 _ _ (e724 _ _ (e717 _ _ h712))))
        have h749 := (e739 _ _ h732)
        obtain ⟨G750, eG751, hg752, S753⟩ := Sep.freeze (O' := [p713, p699, p665]) S743 (.head _) h749 fr733 ((all_cons ⟨(.tail _ (.head _)), (ne_of_none (e724 _ _ h719) n727)⟩ (all_cons ⟨(.tail _ (.tail _ (.head _))), (ne_of_none (e724 _ _ (e717 _ _ (e710 _ _ h705))) n727)⟩ (all_cons ⟨(.tail _ (.tail _ (.tail _ (.head _)))), (ne_of_none (e724 _ _ (e717 _ _ h712)) n727)⟩ all_nil))))
        refine ⟨_, _, _, rfl, rfl, h748, (app_len (RpAll.mono eG751 (RpAll.mono eG745 d689)) g747), ?_⟩
        generalize g754 : upd H738 p665 _ = H755
        obtain ⟨x756, h757⟩ := gen_mut g754
        have h758 : H755 p665 = some (.lst (vs682 ++ [V.ref p735])) := h757
        have S759 := S753.mut1 x756 (.tail _ (.tail _ (.head _))) h758
        have d760 : RpAll G750 (vs682 ++ [V.ref p735]) (((entries_681) ++ [(v722, cutL (octets') (some (end_680)) (some ((end_680 + v708))))] : (List (Int × (List Int)))).map (encT2 PyData.int (encL PyData.int))) := app_map (RpAll.mono eG751 (RpAll.mono eG745 d689)) (RpAll.one (rp_mk2 (eG751 _ _ hg746) (.int _) (rp_mk_ints hg752)))
        have hw := cW_bnd hw
        refine ⟨_, rfl, _, rfl, _, _, rfl, rfl, ?_⟩
        have hw := cW_bnd hw
        have hw := cW_ok hw
        have hw := hK696 _ hw
        exact ⟨((end_680 + v708)), ((entries_681) ++ [(v722, cutL (octets') (some (end_680)) (some ((end_680 + v708))))]), _, _, _, _, _, rfl, (Same.trans (Same.trans eG691 eG745) eG751), (S759.sub (all_cons (.tail _ (.tail _ (.head _))) all_nil)), h758, d760, hw⟩
      · intro σ H763 hw
        obtain ⟨end_680, entries_681, vs682, u683, u684, u685, G767, rfl, eG768, S764, h765, d766, hw⟩ := hw
        have hw := hK679 _ (cW_forS0 (rng_len _ _).symm hw)
        have hw : cW (F_open_container_r2 (octets') (end_680) (entries_681)) _ EE := hw
        unfold F_open_container_r2 at hw
        refine ⟨_, rfl, _, _, rfl, (SqL.of (S764.bM _ _ q_octets)), _, rfl, _, _, rfl, rfl, rfl, rfl, G767, _, _, rfl, S764.sG, cW_call hw (fun v771 hw => ?_) (fun e he => hE e he _ S764.b0)⟩
        obtain ⟨K773, hK774, hw⟩ := cW_push hw
        refine ⟨_, rfl, _, rfl, ⟨_, (SqL.of h765)⟩, fun D775 n776 => lc_list (K := K) (a := p665) (xs := vs682) (fun i H' => ∃ (G' : Hp) (acc778 : (List Int)), Same G767 G' ∧ Sep [] H G G' H' [D775, p665] ∧ H' p665 = some (.lst (vs682)) ∧ H' D775 = some (.lst ((acc778 : (List Int)).map V.int)) ∧ Same H763 H' ∧ cW (mapA (List.drop i (entries_681)) acc778 (fun x => noEr (F_open_container_c3  x))) K773 EE) ?_ ?_ ?_ ?_⟩
        · generalize g780 : upd H763 D775 _ = H781
          obtain ⟨e782, h783⟩ := gen_new n776 g780
          have fr784 := S764.free n776
          have S785 := S764.new n776 e782 h783 fr784
          have h786 := (e782 _ _ h765)
          exact ⟨_, [], Same.refl _, S785, h786, h783, e782, hw⟩
        · intro i H787 _ hw
          obtain ⟨G790, acc792, eG791, S788, h799, h789, eo798, hw⟩ := hw
          exact (SqL.of h799)
        · intro i x H800 hj hw
          obtain ⟨G803, acc805, eG804, S801, h812, h802, eo811, hw⟩ := hw
          obtain ⟨x813, hx, r814⟩ := RpAll.get (RpAll.mono eG804 d766) hj
          obtain ⟨a815, v817, v818, rfl, h816, r819, r820⟩ := rp_tup2 r814
          obtain rfl := rp_int r819
          obtain ⟨a821, rfl, h822⟩ := rp_ints r820
          obtain ⟨z823, hw⟩ := cW_mapA hx hw
          have hw := cW_noEr hw
          have hw : cW (F_open_container_c3  (x813)) _ (fun _ => False) := hw
          unfold F_open_container_c3 at hw
          refine ⟨_, _, rfl, (SqT.of (S801.sG _ _ h816)), rfl, _, _, rfl, _, _, rfl, rfl, rfl, ?_⟩
          refine tyes_go ?_
          refine ⟨_, rfl, _, h802, (app_lenM z823), ?_⟩
          generalize g825 : upd H800 D775 _ = H826
          obtain ⟨x827, h828⟩ := gen_mut g825
          have S829 := S801.mut1 x827 (.head _) h828
          have hw := cW_ok hw
          have h830 := (x827 _ _ h812 (ne_of_none h765 n776))
          exact ⟨_, (acc805 ++ [x813.1]), eG804, S829, h830, (snoc_map h828), (same_mut eo811 x827 n776), hw⟩
        intro H831 hw
        obtain ⟨G834, acc836, eG835, S832, h843, h833, eo842, hw⟩ := hw
        have hw := hK774 _ (cW_mapA0 (by rw [(RpAll.mono eG835 d766).len, List.length_map]) hw)
        have fr844 := S764.free n776
        refine ⟨rfl, rfl, G834, _, _, rfl, S832.sG, (hide_nil h833), cW_call hw (fun v845 hw H846 e847 => ?_) (fun e he H2 e2 => hE e he H2 (Same.trans S832.b0 e2))⟩
        have S848 := S832.same e847
        refine ⟨_, rfl, ?_⟩
        have h849 := (e847 _ _ h843)
        have hw := cW_ok hw
        exact hK0 _ hw _ _ _ _ fr672 S848.b0 S848.g0 S848.sG S848.gn (S848.ow _ (.tail _ (.head _))).1 h849 (RpAll.mono eG835 d766)

abbrev N__law_number : List Str := ["worth", "count", "k"]
theorem sc__law_number : FnScope N__law_number ["worth", "count"] (defScope s__law_number) := ⟨rfl, rfl, rfl, by decide +kernel, rfl, by decide +kernel, by decide +kernel⟩
theorem ok__law_number (D : DefX K mg "_law_number" s__law_number ["worth", "count"] pats__law_number) (T : Txt K mg AD)  : CalX P w K mg base 1 "_law_number" (sp__law_number K AD) pats__law_number := by
  refine D.ok sc__law_number (fun vs H Q E h => ?_) (fun f cdv A_ outer s H vs Q E hr h => ?_)
  · obtain ⟨G, worth', count', rfl, _⟩ := h
    rfl
  · obtain ⟨G, worth', count', rfl, sG, hw⟩ := h
    refine ⟨_, (pss_one (ps_ret (pe_lc (own := [("k", 2)]) (g := gName 2) (by rfl) sc__law_number.nd (pi_range1 rfl T.b_range (pa_cons (pv 1) pa_nil)) (blkOk_by (own := [("k", 2)]) (N := N__law_number) (sc := defScope s__law_number) (by decide +kernel)) (fun _ _ _ _ _ => (pg_name (i := 2) sc__law_number.nd rfl (Or.inl rfl))) (fun _ _ _ _ _ => pts_nil) (fun _ _ _ _ _ => (pe_op op_and (pe_op op_shr (pv 0) (pe_op op_mul pe_int (pe_op op_sub (pe_op op_sub (pv 1) pe_int) (pv 2)))) pe_int))))), ?_⟩
    obtain ⟨KK, EE, hK0, hE, hw⟩ := cW_gen hw
    have S0 := Sep.startG sG
    unfold F__law_number at hw
    obtain ⟨g850, hw⟩ := cW_grd hw
    obtain ⟨K854, hK855, hw⟩ := cW_push hw
    refine ⟨_, rfl, _, rfl, g850.1, g850.2, fun D856 n857 => lc_range (lo := 0) (n := Int.toNat (count')) (fun i H' => ∃ (G' : Hp) (acc859 : (List Int)), Same G G' ∧ Sep [] H G G' H' [D856] ∧ H' D856 = some (.lst ((acc859 : (List Int)).map V.int)) ∧ Same H H' ∧ cW (mapA (List.drop i (rng (0) (Int.toNat (count')))) acc859 (fun x => noEr (F__law_number_c1 (worth') (count') x))) K854 EE) ?_ ?_ ?_⟩
    · generalize g861 : upd H D856 _ = H862
      obtain ⟨e863, h864⟩ := gen_new n857 g861
      have fr865 := S0.free n857
      have S866 := S0.new n857 e863 h864 fr865
      exact ⟨_, [], Same.refl _, S866, h864, e863, hw⟩
    · intro i H867 hi hw
      obtain ⟨G870, acc872, eG871, S868, h869, eo878, hw⟩ := hw
      obtain ⟨z879, hw⟩ := cW_mapA (rng_get hi) hw
      generalize (0 + (i : Int)) = x880 at hw ⊢
      have hw := cW_noEr hw
      have hw : cW (F__law_number_c1 (worth') (count') (x880)) _ (fun _ => False) := hw
      unfold F__law_number_c1 at hw
      refine ⟨rfl, ?_⟩
      refine tyes_go ?_
      obtain ⟨g882, hw⟩ := cW_grd hw
      refine ⟨_, rfl, _, rfl, _, _, rfl, rfl, _, rfl, _, _, rfl, rfl, _, _, rfl, rfl, (.inl ⟨by decide, by decide⟩), _, _, rfl, rfl, g882, _, _, rfl, rfl, _, h869, (app_lenM z879), ?_⟩
      generalize g883 : upd H867 D856 _ = H884
      obtain ⟨x885, h886⟩ := gen_mut g883
      have S887 := S868.mut1 x885 (.head _) h886
      have hw := cW_ok hw
      exact ⟨_, (acc872 ++ [(PySem.Builtin.bitAnd ((worth' / 2 ^ Int.toNat ((8 * ((count' - 1) - x880))))) (255))]), eG871, S887, (snoc_map h886), (same_mut eo878 x885 n857), hw⟩
    intro H888 hw
    obtain ⟨G891, acc893, eG892, S889, h890, eo899, hw⟩ := hw
    have hw := hK855 _ (cW_mapA0 (rng_len _ _).symm hw)
    have fr900 := S0.free n857
    have hw := cW_ok hw
    exact hK0 _ hw _ _ fr900 S889.b0 h890

abbrev N__law_packed : List Str := ["entries", "octets", "entry"]
theorem sc__law_packed : FnScope N__law_packed ["entries"] (defScope s__law_packed) := ⟨rfl, rfl, rfl, by decide +kernel, rfl, by decide +kernel, by decide +kernel⟩
theorem ok__law_packed (D : DefX K mg "_law_packed" s__law_packed ["entries"] pats__law_packed) (T : Txt K mg AD) (c__law_number : CalX P w K mg base 1 "_law_number" (sp__law_number K AD) pats__law_number) : CalX P w K mg base 2 "_law_packed" (sp__law_packed K AD) pats__law_packed := by
  refine D.ok sc__law_packed (fun vs H Q E h => ?_) (fun f cdv A_ outer s H vs Q E hr h => ?_)
  · obtain ⟨G, v_entries, entries', rfl, _⟩ := h
    rfl
  · obtain ⟨G, v_entries, entries', rfl, sG, r_entries, hw⟩ := h
    refine ⟨_, (pss_cons (ps_set (i := 1) sc__law_packed.nd rfl (Or.inl rfl) (pe_op op_cat (pe_lst (pa_cons pe_int (pa_cons pe_int (pa_cons pe_int (pa_cons pe_int pa_nil))))) (vx_callX c__law_number pat__law_number_0 (.head _) hr (by decide) (takes_of rfl rfl rfl rfl) rfl (pa_cons (pe_callB (call_lenLK (K := K)) (by rfl) T.b_len (by decide +kernel) (pa_cons (pv 0) pa_nil)) (pa_cons pe_int pa_nil)) pk_nil)))
      (pss_cons (ps_for (passes_of rfl) rfl (pi_listK (K := K) (pv 0)) (pg_name (i := 2) sc__law_packed.nd rfl (Or.inl rfl)) (pss_one (ps_set (i := 1) sc__law_packed.nd rfl (Or.inl rfl) (pe_op op_cat (pe_op op_cat (pv 1) (vx_callX c__law_number pat__law_number_0 (.head _) hr (by decide) (takes_of rfl rfl rfl rfl) rfl (pa_cons (pe_ix (ix_tupK (K := K)) (pv 2) pe_int (fun _ _ => rfl)) (pa_cons pe_int pa_nil)) pk_nil)) (vx_callX c__law_number pat__law_number_0 (.head _) hr (by decide) (takes_of rfl rfl rfl rfl) rfl (pa_cons (pe_callB (call_lenLiK (K := K)) (by rfl) T.b_len (by decide +kernel) (pa_cons (pe_ix (ix_tupK (K := K)) (pv 2) pe_int (fun _ _ => rfl)) pa_nil)) (pa_cons pe_int pa_nil)) pk_nil)))))
      (pss_cons (ps_for (passes_of rfl) rfl (pi_listK (K := K) (pv 0)) (pg_name (i := 2) sc__law_packed.nd rfl (Or.inl rfl)) (pss_one (ps_set (i := 1) sc__law_packed.nd rfl (Or.inl rfl) (pe_op op_cat (pv 1) (pe_ix (ix_tupK (K := K)) (pv 2) pe_int (fun _ _ => rfl))))))
      (pss_one (ps_ret (pv 1)))))), ?_⟩
    obtain ⟨KK, EE, hK0, hE, hw⟩ := cW_gen hw
    have S0 := Sep.startG sG
    unfold F__law_packed at hw
    obtain ⟨a901, vs902, rfl, h903, d904⟩ := rp_list r_entries
    refine ⟨(by show 4 ≤ sizeLine; decide), fun p905 n906 => ?_⟩
    generalize g907 : upd H p905 _ = H908
    obtain ⟨e909, h910⟩ := gen_new n906 g907
    have h911 : H908 p905 = some (.lst (([84, 72, 65, 85] : (List Int)).map V.int)) := h910
    have fr912 := S0.free n906
    have S913 := S0.new n906 e909 h911 fr912
    refine ⟨_, rfl, _, _, _, rfl, (SqL.of (S913.bM _ _ h903)), (by rw [d904.len, List.length_map]), rfl, rfl, G, _, _, rfl, S913.sG, cW_call hw (fun v914 hw p917 H915 n918 e916 h919 => ?_) (fun e he H2 e2 => hE e he H2 (Same.trans S913.b0 e2))⟩
    have h920 : H915 p917 = some (.lst ((v914 : (List Int)).map V.int)) := h919
    have fr921 := S913.free n918
    have S922 := S913.new n918 e916 h920 fr921
    obtain ⟨g923, hw⟩ := cW_grd hw
    have h924 := (e916 _ _ h911)
    refine ⟨_, _, _, _, rfl, rfl, h924, h920, (cat_lenM g923), fun p925 n926 => ?_⟩
    generalize g927 : upd H915 p925 _ = H928
    obtain ⟨e929, h930⟩ := gen_new n926 g927
    have h931 : H928 p925 = some (.lst ((([84, 72, 65, 85]) ++ (v914) : (List Int)).map V.int)) := cat_map h930
    have fr932 := S922.free n926
    have S933 := S922.new n926 e929 h931 fr932
    obtain ⟨K935, hK936, hw⟩ := cW_push hw
    refine ⟨_, rfl, _, rfl, ⟨_, (SqL.of (S933.bM _ _ h903))⟩, for_list (K := K) (a := a901) (xs := vs902) (fun i σ H' => ∃ (p938 : Addr) (octets_937 : (List Int)) (u939 : Option V) (G' : Hp), σ = [some (V.ref a901), some (V.ref p938), u939] ∧ Same G G' ∧ Sep [] H G G' H' [p938] ∧ H' p938 = some (.lst ((octets_937 : (List Int)).map V.int)) ∧ H p938 = none ∧ cW (forS (List.drop i (entries')) octets_937 (fun s x => F__law_packed_b1  s x)) K935 EE) ?_ ?_ ?_ ?_⟩
    · exact ⟨_, (([84, 72, 65, 85]) ++ (v914)), _, _, rfl, (Same.refl _), (S933.sub (all_cons (.head _) all_nil)), h931, fr932, hw⟩
    · intro i σ H940 _ hw
      obtain ⟨p938, octets_937, u939, G944, rfl, eG945, S941, h942, fr943, hw⟩ := hw
      exact (SqL.of (S941.bM _ _ h903))
    · intro i x σ H946 hj hw
      obtain ⟨p938, octets_937, u939, G950, rfl, eG951, S947, h948, fr949, hw⟩ := hw
      obtain ⟨x952, hx, r953⟩ := RpAll.get d904 hj
      obtain ⟨a954, v956, v957, rfl, h955, r958, r959⟩ := rp_tup2 r953
      obtain rfl := rp_int r958
      obtain ⟨a960, rfl, h961⟩ := rp_ints r959
      have hw := cW_forS hx hw
      have hw : cW (F__law_packed_b1  (octets_937) (x952)) _ EE := hw
      unfold F__law_packed_b1 at hw
      obtain ⟨K963, hK964, hw⟩ := cW_name hw
      refine ⟨_, rfl, _, rfl, _, _, _, _, rfl, rfl, (SqT.of (S947.bM _ _ h955)), rfl, rfl, rfl, G950, _, _, rfl, S947.sG, cW_call hw (fun v966 hw p969 H967 n970 e968 h971 => ?_) (fun e he H2 e2 => hE e he H2 (Same.trans S947.b0 e2))⟩
      have h972 : H967 p969 = some (.lst ((v966 : (List Int)).map V.int)) := h971
      have fr973 := S947.free n970
      have S974 := S947.new n970 e968 h972 fr973
      obtain ⟨g975, hw⟩ := cW_grd hw
      have h976 := (e968 _ _ h948)
      refine ⟨_, _, _, _, rfl, rfl, h976, h972, (cat_lenM g975), fun p977 n978 => ?_⟩
      generalize g979 : upd H967 p977 _ = H980
      obtain ⟨e981, h982⟩ := gen_new n978 g979
      have h983 : H980 p977 = some (.lst (((octets_937) ++ (v966) : (List Int)).map V.int)) := cat_map h982
      have fr984 := S974.free n978
      have S985 := S974.new n978 e981 h983 fr984
      refine ⟨_, rfl, _, _, _, _, rfl, rfl, (SqT.of (S985.bM _ _ h955)), rfl, _, _, rfl, (SqL.of (S985.bM _ _ h961)), rfl, rfl, G950, _, _, rfl, S985.sG, cW_call hw (fun v986 hw p989 H987 n990 e988 h991 => ?_) (fun e he H2 e2 => hE e he H2 (Same.trans S985.b0 e2))⟩
      have h992 : H987 p989 = some (.lst ((v986 : (List Int)).map V.int)) := h991
      have fr993 := S985.free n990
      have S994 := S985.new n990 e988 h992 fr993
      obtain ⟨g995, hw⟩ := cW_grd hw
      have h996 := (e988 _ _ h983)
      refine ⟨_, _, _, _, rfl, rfl, h996, h992, (cat_lenM g995), fun p997 n998 => ?_⟩
      generalize g999 : upd H987 p997 _ = H1000
      obtain ⟨e1001, h1002⟩ := gen_new n998 g999
      have h1003 : H1000 p997 = some (.lst ((((octets_937) ++ (v966)) ++ (v986) : (List Int)).map V.int)) := cat_map h1002
      have fr1004 := S994.free n998
      have S1005 := S994.new n998 e1001 h1003 fr1004
      have hw := cW_ok hw
      have hw := hK964 _ hw
      exact ⟨_, (((octets_937) ++ (v966)) ++ (v986)), _, _, rfl, eG951, (S1005.sub (all_cons (.head _) all_nil)), h1003, fr1004, hw⟩
    · intro σ H1006 hw
      obtain ⟨p938, octets_937, u939, G1010, rfl, eG1011, S1007, h1008, fr1009, hw⟩ := hw
      have hw := hK936 _ (cW_forS0 (by rw [d904.len, List.length_map]) hw)
      have hw : cW (F__law_packed_r1 (entries') (octets_937)) _ EE := hw
      unfold F__law_packed_r1 at hw
      obtain ⟨K1013, hK1014, hw⟩ := cW_push hw
      refine ⟨_, rfl, _, rfl, ⟨_, (SqL.of (S1007.bM _ _ h903))⟩, for_list (K := K) (a := a901) (xs := vs902) (fun i σ H' => ∃ (p1016 : Addr) (octets_1015 : (List Int)) (u1017 : Option V) (G' : Hp), σ = [some (V.ref a901), some (V.ref p1016), u1017] ∧ Same G1010 G' ∧ Sep [] H G G' H' [p1016] ∧ H' p1016 = some (.lst ((octets_1015 : (List Int)).map V.int)) ∧ H p1016 = none ∧ cW (forS (List.drop i (entries')) octets_1015 (fun s x => F__law_packed_b2  s x)) K1013 EE) ?_ ?_ ?_ ?_⟩
      · exact ⟨_, (octets_937), _, _, rfl, (Same.refl _), S1007, h1008, fr1009, hw⟩
      · intro i σ H1018 _ hw
        obtain ⟨p1016, octets_1015, u1017, G1022, rfl, eG1023, S1019, h1020, fr1021, hw⟩ := hw
        exact (SqL.of (S1019.bM _ _ h903))
      · intro i x σ H1024 hj hw
        obtain ⟨p1016, octets_1015, u1017, G1028, rfl, eG1029, S1025, h1026, fr1027, hw⟩ := hw
        obtain ⟨x1030, hx, r1031⟩ := RpAll.get d904 hj
        obtain ⟨a1032, v1034, v1035, rfl, h1033, r1036, r1037⟩ := rp_tup2 r1031
        obtain rfl := rp_int r1036
        obtain ⟨a1038, rfl, h1039⟩ := rp_ints r1037
        have hw := cW_forS hx hw
        have hw : cW (F__law_packed_b2  (octets_1015) (x1030)) _ EE := hw
        unfold F__law_packed_b2 at hw
        obtain ⟨K1041, hK1042, hw⟩ := cW_name hw
        obtain ⟨g1044, hw⟩ := cW_grd hw
        refine ⟨_, rfl, _, rfl, _, _, _, _, rfl, rfl, (SqT.of (S1025.bM _ _ h1033)), rfl, _, _, _, _, rfl, rfl, h1026, (S1025.bM _ _ h1039), (cat_lenM g1044), fun p1045 n1046 => ?_⟩
        generalize g1047 : upd H1024 p1045 _ = H1048
        obtain ⟨e1049, h1050⟩ := gen_new n1046 g1047
        have h1051 : H1048 p1045 = some (.lst (((octets_1015) ++ (x1030.2) : (List Int)).map V.int)) := cat_map h1050
        have fr1052 := S1025.free n1046
        have S1053 := S1025.new n1046 e1049 h1051 fr1052
        have hw := cW_ok hw
        have hw := hK1042 _ hw
        exact ⟨_, ((octets_1015) ++ (x1030.2)), _, _, rfl, eG1029, (S1053.sub (all_cons (.head _) all_nil)), h1051, fr1052, hw⟩
      · intro σ H1054 hw
        obtain ⟨p1016, octets_1015, u1017, G1058, rfl, eG1059, S1055, h1056, fr1057, hw⟩ := hw
        have hw := hK1014 _ (cW_forS0 (by rw [d904.len, List.length_map]) hw)
        have hw : cW (F__law_packed_r2  (octets_1015)) _ EE := hw
        unfold F__law_packed_r2 at hw
        refine ⟨_, rfl, ?_⟩
        have hw := cW_ok hw
        exact hK0 _ hw _ _ fr1057 S1055.b0 h1056

abbrev N__law_refused : List Str := ["entries", "e"]
theorem sc__law_refused : FnScope N__law_refused ["entries"] (defScope s__law_refused) := ⟨rfl, rfl, rfl, by decide +kernel, rfl, by decide +kernel, by decide +kernel⟩
theorem ok__law_refused (D : DefX K mg "_law_refused" s__law_refused ["entries"] pats__law_refused) (T : Txt K mg AD) (c_pack_container : CalX P w K mg base 3 "pack_container" (sp_pack_container K AD) pats_pack_container) : CalX P w K mg base 4 "_law_refused" (sp__law_refused K AD) pats__law_refused := by
  refine D.ok sc__law_refused (fun vs H Q E h => ?_) (fun f cdv A_ outer s H vs Q E hr h => ?_)
  · obtain ⟨G, v_entries, entries', rfl, _⟩ := h
    rfl
  · obtain ⟨G, v_entries, entries', rfl, sG, r_entries, hw⟩ := h
    refine ⟨_, (pss_cons (ps_try_as (i := 1) rfl rfl sc__law_refused.nd rfl rfl ⟨rfl, by decide, .inl T.xg_BadContainer⟩ (takes_of rfl rfl rfl rfl) (fun W pn xe tk pse => (pss_one (ps_expr (vx_callX c_pack_container pat_pack_container_0 (.head _) hr (by decide) tk rfl (pa_cons (pv 0) pa_nil) pk_nil)))) (fun a oe cls d pn hz hf => (pss_one (ps_ret (pe_and (pe_callB (call_isX (K := K) hz hf) (by rfl) T.b_isinstance (by decide +kernel) (pa_cons (pv 1) (pa_cons (C8.pe_gc (v := V.ref AD.x_CodecError) rfl ⟨_, T.xg_CodecError, rfl⟩) pa_nil))) (pe_one (pe_not (pe_callB (call_isX (K := K) hz hf) (by rfl) T.b_isinstance (by decide +kernel) (pa_cons (pv 1) (pa_cons (C8.pe_gc (v := V.ref AD.x_OutOfRange) rfl ⟨_, T.xg_OutOfRange, rfl⟩) pa_nil))))))))))
      (pss_one (ps_ret pe_bl))), ?_⟩
    obtain ⟨KK, EE, hK0, hE, hw⟩ := cW_gen hw
    have S0 := Sep.startG sG
    unfold F__law_refused at hw
    obtain ⟨a1061, vs1062, rfl, h1063, d1064⟩ := rp_list r_entries
    refine ⟨_, rfl, rfl, rfl, G, _, _, rfl, S0.sG, (Rp.hide_nil (rp_mk_list (S0.bM _ _ h1063) (RpAll.mono S0.bM d1064))), cW_try hw (fun v1065 hw p1068 H1066 n1069 e1067 h1070 => ?_) ?_⟩
    · have h1071 : H1066 p1068 = some (.lst ((v1065 : (List Int)).map V.int)) := h1070
      have fr1072 := S0.free n1069
      have S1073 := S0.new n1069 e1067 h1071 fr1072
      have hw := cW_ok hw
      exact hK0 _ hw _ S1073.b0
    · intro e hm hw H1074 e1075
      have S1076 := S0.same e1075
      obtain rfl := mem_one hm
      refine ⟨true, T.xm_BadContainer_BadContainer, fun _ a1077 na1078 => ?_, fun q => nomatch q⟩
      refine ⟨_, rfl, _, _, _, rfl, rfl, T.xc_BadContainer, rfl, T.xo_BadContainer_CodecError, _, rfl, ?_⟩
      refine iteT ?_
      refine ⟨_, rfl, _, _, _, rfl, rfl, T.xc_BadContainer, rfl, T.xn_BadContainer_OutOfRange, _, rfl, ?_⟩
      have hw := cW_ok hw
      exact hK0 _ hw _ S1076.b0

abbrev N_seek_container : List Str := ["octets", "time", "entries", "first", "place", "begin", "_", "found", "segment"]
theorem sc_seek_container : FnScope N_seek_container ["octets", "time"] (defScope s_seek_container) := ⟨rfl, rfl, rfl, by decide +kernel, rfl, by decide +kernel, by decide +kernel⟩
theorem ok_seek_container (D : DefX K mg "seek_container" s_seek_container ["octets", "time"] pats_seek_container) (T : Txt K mg AD) (c_open_container : CalX P w K mg base 3 "open_container" (sp_open_container K AD) pats_open_container) : CalX P w K mg base 4 "seek_container" (sp_seek_container K AD) pats_seek_container := by
  refine D.ok sc_seek_container (fun vs H Q E h => ?_) (fun f cdv A_ outer s H vs Q E hr h => ?_)
  · obtain ⟨G, a_octets, octets', time', rfl, _⟩ := h
    rfl
  · obtain ⟨G, a_octets, octets', time', rfl, sG, q_octets, hw⟩ := h
    refine ⟨_, (pss_cons (ps_set (i := 2) sc_seek_container.nd rfl (Or.inl rfl) (vx_callX c_open_container pat_open_container_0 (.head _) hr (by decide) (takes_of rfl rfl rfl rfl) rfl (pa_cons (pv 0) pa_nil) pk_nil))
      (pss_cons (ps_set (i := 3) sc_seek_container.nd rfl (Or.inl rfl) pe_int)
      (pss_cons (ps_for (passes_of rfl) rfl (pi_enumK (K := K) rfl T.b_enumerate (pa_cons (pv 2) pa_nil)) (pg_tupK (K := K) (n := 2) (pgs_cons (pg_name (i := 4) sc_seek_container.nd rfl (Or.inl rfl)) (pgs_cons (pg_tupK (K := K) (n := 2) (pgs_cons (pg_name (i := 5) sc_seek_container.nd rfl (Or.inl rfl)) (pgs_cons (pg_name (i := 6) sc_seek_container.nd rfl (Or.inl rfl)) pgs_nil))) pgs_nil))) (pss_one (ps_if (pt_cmp (pc_le (pv 5) (pv 1))) (pss_one (ps_set (i := 3) sc_seek_container.nd rfl (Or.inl rfl) (pv 4))) pss_nil)))
      (pss_cons (ps_set (i := 7) sc_seek_container.nd rfl (Or.inl rfl) (pe_lst pa_nil))
      (pss_cons (ps_for (passes_of rfl) rfl (pi_listK (K := K) (pe_slice (sl_listK (K := K)) (pv 2) (po_some (pv 3)) po_none)) (pg_tupK (K := K) (n := 2) (pgs_cons (pg_name (i := 6) sc_seek_container.nd rfl (Or.inl rfl)) (pgs_cons (pg_name (i := 8) sc_seek_container.nd rfl (Or.inl rfl)) pgs_nil))) (pss_one (ps_expr (pe_bm PySem.F.plainAttrs_list PySem.F.slot_list_extend PySem.F.type_list_extend mt_extend (pv 7) (pa_cons (pv 8) pa_nil)))))
      (pss_one (ps_ret (pv 7)))))))), ?_⟩
    obtain ⟨KK, EE, hK0, hE, hw⟩ := cW_gen hw
    have S0 := Sep.startG sG
    unfold F_seek_container at hw
    refine ⟨_, rfl, rfl, rfl, G, _, _, rfl, S0.sG, (hide_nil (S0.bM _ _ q_octets)), cW_call hw (fun v1079 hw p1082 vs1083 H1080 G1084 n1085 e1081 eG1086 sG1087 hn1088 gp1089 h1090 d1091 => ?_) (fun e he H2 e2 => hE e he H2 (Same.trans S0.b0 e2))⟩
    have fr1093 := S0.free n1085
    have S1092 := S0.stepnew e1081 eG1086 sG1087 hn1088 n1085 h1090 gp1089 fr1093
    obtain ⟨K1096, hK1097, hw⟩ := cW_push hw
    refine ⟨_, rfl, _, _, rfl, (SqL.of h1090), for_enum (K := K) (a := p1082) (xs := vs1083) (fun i σ H' => ∃ (first_1098 : Int) (u1099 : Option V) (u1100 : Option V) (u1101 : Option V) (G' : Hp), σ = [some (V.ref a_octets), some (V.int (time')), some (V.ref p1082), some (V.int first_1098), u1099, u1100, u1101, none, none] ∧ Same G1084 G' ∧ Sep [] H G G' H' [p1082] ∧ H' p1082 = some (.lst (vs1083)) ∧ cW (forS (List.drop i (enumL (v1079))) first_1098 (fun s x => F_seek_container_b1 (time') s x)) K1096 EE) ?_ ?_ ?_ ?_⟩
    · exact ⟨(0), _, _, _, _, rfl, (Same.refl _), S1092, h1090, hw⟩
    · intro i σ H1102 hw
      obtain ⟨first_1098, u1099, u1100, u1101, G1105, rfl, eG1106, S1103, h1104, hw⟩ := hw
      exact (SqL.of h1104)
    · intro i x T1108 σ H1107 hj n1109 hw
      obtain ⟨first_1098, u1099, u1100, u1101, G1112, rfl, eG1113, S1110, h1111, hw⟩ := hw
      obtain ⟨x1114, hx1115, r1116⟩ := RpAll.get (RpAll.mono eG1113 d1091) hj
      obtain ⟨a1117, v1119, v1120, rfl, h1118, r1121, r1122⟩ := rp_tup2 r1116
      obtain rfl := rp_int r1121
      obtain ⟨a1123, rfl, h1124⟩ := rp_ints r1122
      generalize g1125 : upd H1107 T1108 _ = H1126
      obtain ⟨e1127, h1128⟩ := gen_new n1109 g1125
      have h1129 : H1126 T1108 = some (.tup [V.int (((i : Nat) : Int)), V.ref a1117]) := h1128
      have fr1130 := S1110.free n1109
      obtain ⟨G1132, eG1133, hg1134, S1131⟩ := S1110.grow n1109 e1127 h1129 fr1130
      have hw := cW_forS (enumL_get hx1115) hw
      have hw : cW (F_seek_container_b1 (time') (first_1098) ((((i : Nat) : Int), x1114))) _ EE := hw
      unfold F_seek_container_b1 at hw
      obtain ⟨K1136, hK1137, hw⟩ := cW_name hw
      refine ⟨_, _, rfl, (SqT.of (S1131.sG _ _ hg1134)), rfl, _, _, rfl, _, _, rfl, _, _, rfl, (SqT.of (S1131.sG _ _ (eG1133 _ _ h1118))), rfl, _, _, rfl, _, _, rfl, rfl, rfl, _, rfl, _, rfl, _, _, rfl, rfl, _, rfl, ?_⟩
      refine iteD (fun c1139 => ?_) (fun c1139 => ?_)
      · have hw := cW_pos c1139 hw
        refine ⟨_, rfl, ?_⟩
        have hw := cW_ok hw
        have hw := hK1137 _ hw
        have h1140 := (e1127 _ _ h1111)
        exact ⟨(((i : Nat) : Int)), _, _, _, _, rfl, (Same.trans eG1113 eG1133), S1131, h1140, hw⟩
      · have hw := cW_neg c1139 hw
        have hw := cW_ok hw
        have hw := hK1137 _ hw
        have h1141 := (e1127 _ _ h1111)
        exact ⟨(first_1098), _, _, _, _, rfl, (Same.trans eG1113 eG1133), S1131, h1141, hw⟩
    · intro σ H1142 hw
      obtain ⟨first_1098, u1099, u1100, u1101, G1145, rfl, eG1146, S1143, h1144, hw⟩ := hw
      have hw := hK1097 _ (cW_forS0 (by rw [enumL_len]; exact (by rw [(RpAll.mono eG1146 d1091).len, List.length_map])) hw)
      have hw : cW (F_seek_container_r1 (v1079) (first_1098)) _ EE := hw
      unfold F_seek_container_r1 at hw
      refine ⟨(by show 0 ≤ sizeLine; decide), fun p1148 n1149 => ?_⟩
      generalize g1150 : upd H1142 p1148 _ = H1151
      obtain ⟨e1152, h1153⟩ := gen_new n1149 g1150
      have h1154 : H1151 p1148 = some (.lst ((([] : (List Int)) : (List Int)).map V.int)) := h1153
      have fr1155 := S1143.free n1149
      have S1156 := S1143.new n1149 e1152 h1154 fr1155
      have h1157 := (e1152 _ _ h1144)
      obtain ⟨G1158, eG1159, hg1160, S1161⟩ := Sep.freeze (O' := [p1148]) S1156 (.tail _ (.head _)) h1157 fr1093 ((all_cons ⟨(.head _), (ne_of_none h1144 n1149).symm⟩ all_nil))
      refine ⟨_, rfl, _, rfl, _, rfl, _, _, rfl, (SqL.of h1157), fun p1162 n1163 => ?_⟩
      generalize g1164 : upd H1151 p1162 _ = H1165
      obtain ⟨e1166, h1167⟩ := gen_new n1163 g1164
      have h1168 : H1165 p1162 = some (.lst (cutV (vs1083) (some (first_1098)) none)) := h1167
      have fr1169 := S1161.free n1163
      have S1170 := S1161.new n1163 e1166 h1168 fr1169
      have d1171 : RpAll G1158 (cutV (vs1083) (some (first_1098)) none) ((cutL (v1079) (some (first_1098)) none : (List (Int × (List Int)))).map (encT2 PyData.int (encL PyData.int))) := cut_all (some (first_1098)) none (RpAll.mono eG1159 (RpAll.mono eG1146 d1091))
      obtain ⟨K1172, hK1173, hw⟩ := cW_push hw
      refine ⟨_, rfl, ⟨_, (SqL.of h1168)⟩, for_list (K := K) (a := p1162) (xs := cutV (vs1083) (some (first_1098)) none) (fun i σ H' => ∃ (u1174 : Option V) (found_1175 : (List Int)) (u1176 : Option V) (G' : Hp), σ = [some (V.ref a_octets), some (V.int (time')), some (V.ref p1082), some (V.int (first_1098)), u1099, u1100, u1174, some (V.ref p1148), u1176] ∧ Same G1158 G' ∧ Sep [] H G G' H' [p1148, p1162] ∧ H' p1148 = some (.lst ((found_1175 : (List Int)).map V.int)) ∧ H' p1162 = some (.lst (cutV (vs1083) (some (first_1098)) none)) ∧ cW (forS (List.drop i (cutL (v1079) (some (first_1098)) none)) found_1175 (fun s x => F_seek_container_b2  s x)) K1172 EE) ?_ ?_ ?_ ?_⟩
      · have h1177 := (e1166 _ _ h1154)
        exact ⟨_, (([] : (List Int))), _, _, rfl, (Same.refl _), (S1170.sub (all_cons (.tail _ (.head _)) (all_cons (.head _) all_nil))), h1177, h1168, hw⟩
      · intro i σ H1178 _ hw
        obtain ⟨u1174, found_1175, u1176, G1182, rfl, eG1183, S1179, h1180, h1181, hw⟩ := hw
        exact (SqL.of h1181)
      · intro i x σ H1184 hj hw
        obtain ⟨u1174, found_1175, u1176, G1188, rfl, eG1189, S1185, h1186, h1187, hw⟩ := hw
        obtain ⟨x1190, hx, r1191⟩ := RpAll.get (RpAll.mono eG1189 d1171) hj
        obtain ⟨a1192, v1194, v1195, rfl, h1193, r1196, r1197⟩ := rp_tup2 r1191
        obtain rfl := rp_int r1196
        obtain ⟨a1198, rfl, h1199⟩ := rp_ints r1197
        have hw := cW_forS hx hw
        have hw : cW (F_seek_container_b2  (found_1175) (x1190)) _ EE := hw
        unfold F_seek_container_b2 at hw
        obtain ⟨K1201, hK1202, hw⟩ := cW_name hw
        obtain ⟨g1204, hw⟩ := cW_grd hw
        refine ⟨_, _, rfl, (SqT.of (S1185.sG _ _ h1193)), rfl, _, _, rfl, _, _, rfl, rfl, _, rfl, (.inl ⟨rfl, _, SqL.of h1186⟩), _, rfl, _, _, _, _, rfl, rfl, h1186, (S1185.sG _ _ h1199), (cat_lenM g1204), ?_⟩
        generalize g1205 : upd H1184 p1148 _ = H1206
        obtain ⟨x1207, h1208⟩ := gen_mut g1205
        have h1209 : H1206 p1148 = some (.lst (((found_1175) ++ (x1190.2) : (List Int)).map V.int)) := cat_map h1208
        have S1210 := S1185.mut1 x1207 (.head _) h1209
        have hw := cW_bnd hw
        have hw := cW_ok hw
        have hw := hK1202 _ hw
        have h1212 := (x1207 _ _ h1187 (ne_of_none h1154 n1163).symm)
        exact ⟨_, ((found_1175) ++ (x1190.2)), _, _, rfl, eG1189, S1210, h1209, h1212, hw⟩
      · intro σ H1213 hw
        obtain ⟨u1174, found_1175, u1176, G1217, rfl, eG1218, S1214, h1215, h1216, hw⟩ := hw
        have hw := hK1173 _ (cW_forS0 (by rw [(RpAll.mono eG1218 d1171).len, List.length_map]) hw)
        have hw : cW (F_seek_container_r2  (found_1175)) _ EE := hw
        unfold F_seek_container_r2 at hw
        refine ⟨_, rfl, ?_⟩
        have hw := cW_ok hw
        exact hK0 _ hw _ _ fr1155 S1214.b0 h1215

abbrev N__law_seek_refused : List Str := ["octets", "time"]
theorem sc__law_seek_refused : FnScope N__law_seek_refused ["octets", "time"] (defScope s__law_seek_refused) := ⟨rfl, rfl, rfl, by decide +kernel, rfl, by decide +kernel, by decide +kernel⟩
theorem ok__law_seek_refused (D : DefX K mg "_law_seek_refused" s__law_seek_refused ["octets", "time"] pats__law_seek_refused) (T : Txt K mg AD) (c_seek_container : CalX P w K mg base 4 "seek_container" (sp_seek_container K AD) pats_seek_container) : CalX P w K mg base 5 "_law_seek_refused" (sp__law_seek_refused K AD) pats__law_seek_refused := by
  refine D.ok sc__law_seek_refused (fun vs H Q E h => ?_) (fun f cdv A_ outer s H vs Q E hr h => ?_)
  · obtain ⟨G, a_octets, octets', time', rfl, _⟩ := h
    rfl
  · obtain ⟨G, a_octets, octets', time', rfl, sG, q_octets, hw⟩ := h
    refine ⟨_, (pss_cons (ps_try_only rfl rfl ⟨rfl, by decide, .inl T.xg_BadContainer⟩ (takes_of rfl rfl rfl rfl) (fun W pn xe tk pse => (pss_one (ps_expr (vx_callX c_seek_container pat_seek_container_0 (.head _) hr (by decide) tk rfl (pa_cons (pv 0) (pa_cons (pv 1) pa_nil)) pk_nil)))) (fun a oe cls d pn _ _ => (pss_one (ps_ret pe_bl))))
      (pss_one (ps_ret pe_bl))), ?_⟩
    obtain ⟨KK, EE, hK0, hE, hw⟩ := cW_gen hw
    have S0 := Sep.startG sG
    unfold F__law_seek_refused at hw
    refine ⟨_, rfl, _, rfl, rfl, rfl, G, _, _, _, rfl, S0.sG, (hide_nil (S0.bM _ _ q_octets)), cW_try hw (fun v1220 hw p1223 H1221 n1224 e1222 h1225 => ?_) ?_⟩
    · have h1226 : H1221 p1223 = some (.lst ((v1220 : (List Int)).map V.int)) := h1225
      have fr1227 := S0.free n1224
      have S1228 := S0.new n1224 e1222 h1226 fr1227
      have hw := cW_ok hw
      exact hK0 _ hw _ S1228.b0
    · intro e hm hw H1229 e1230
      have S1231 := S0.same e1230
      obtain rfl := mem_one hm
      refine ⟨true, T.xm_BadContainer_BadContainer, fun _ _ _ => ?_, fun q => nomatch q⟩
      have hw := cW_ok hw
      exact hK0 _ hw _ S1231.b0

abbrev N__law_opened : List Str := ["octets"]
theorem sc__law_opened : FnScope N__law_opened ["octets"] (defScope s__law_opened) := ⟨rfl, rfl, rfl, by decide +kernel, rfl, by decide +kernel, by decide +kernel⟩
theorem ok__law_opened (D : DefX K mg "_law_opened" s__law_opened ["octets"] pats__law_opened) (T : Txt K mg AD) (c_open_container : CalX P w K mg base 3 "open_container" (sp_open_container K AD) pats_open_container) : CalX P w K mg base 4 "_law_opened" (sp__law_opened K AD) pats__law_opened := by
  refine D.ok sc__law_opened (fun vs H Q E h => ?_) (fun f cdv A_ outer s H vs Q E hr h => ?_)
  · obtain ⟨G, a_octets, octets', rfl, _⟩ := h
    rfl
  · obtain ⟨G, a_octets, octets', rfl, sG, q_octets, hw⟩ := h
    refine ⟨_, (pss_one (ps_try_only rfl rfl ⟨rfl, by decide, .inl T.xg_BadContainer⟩ (takes_of rfl rfl rfl rfl) (fun W pn xe tk pse => (pss_one (ps_ret (pe_lst (pa_cons (vx_callX c_open_container pat_open_container_0 (.head _) hr (by decide) tk rfl (pa_cons (pv 0) pa_nil) pk_nil) pa_nil))))) (fun a oe cls d pn _ _ => (pss_one (ps_ret (pe_lst pa_nil)))))), ?_⟩
    obtain ⟨KK, EE, hK0, hE, hw⟩ := cW_gen hw
    have S0 := Sep.startG sG
    unfold F__law_opened at hw
    refine ⟨_, rfl, rfl, rfl, G, _, _, rfl, S0.sG, (hide_nil (S0.bM _ _ q_octets)), cW_try hw (fun v1232 hw p1235 vs1236 H1233 G1237 n1238 e1234 eG1239 sG1240 hn1241 gp1242 h1243 d1244 => ?_) ?_⟩
    · have fr1246 := S0.free n1238
      have S1245 := S0.stepnew e1234 eG1239 sG1240 hn1241 n1238 h1243 gp1242 fr1246
      obtain ⟨G1247, eG1248, hg1249, S1250⟩ := Sep.freeze (O' := []) S1245 (.head _) h1243 fr1246 (all_nil)
      refine ⟨(by show 1 ≤ sizeLine; decide), fun p1251 n1252 => ?_⟩
      generalize g1253 : upd H1233 p1251 _ = H1254
      obtain ⟨e1255, h1256⟩ := gen_new n1252 g1253
      have h1257 : H1254 p1251 = some (.lst ([V.ref p1235])) := h1256
      have fr1258 := S1250.free n1252
      have S1259 := S1250.new n1252 e1255 h1257 fr1258
      have d1260 : RpAll G1247 ([V.ref p1235]) (([v1232] : (List (List (Int × (List Int))))).map (encL (encT2 PyData.int (encL PyData.int)))) := (RpAll.cons (rp_mk_list hg1249 (RpAll.mono eG1248 d1244)) RpAll.nil)
      have hw := cW_ok hw
      exact hK0 _ hw _ _ _ _ fr1258 S1259.b0 S1259.g0 S1259.sG S1259.gn (S1259.ow _ (.head _)).1 h1257 d1260
    · intro e hm hw H1261 e1262
      have S1263 := S0.same e1262
      obtain rfl := mem_one hm
      refine ⟨true, T.xm_BadContainer_BadContainer, fun _ _ _ => ?_, fun q => nomatch q⟩
      refine ⟨(by show 0 ≤ sizeLine; decide), fun p1264 n1265 => ?_⟩
      generalize g1266 : upd H1261 p1264 _ = H1267
      obtain ⟨e1268, h1269⟩ := gen_new n1265 g1266
      have h1270 : H1267 p1264 = some (.lst ([])) := h1269
      have fr1271 := S1263.free n1265
      have S1272 := S1263.new n1265 e1268 h1270 fr1271
      have d1273 : RpAll G ([]) ((([] : (List (List (Int × (List Int))))) : (List (List (Int × (List Int))))).map (encL (encT2 PyData.int (encL PyData.int)))) := RpAll.nil
      have hw := cW_ok hw
      exact hK0 _ hw _ _ _ _ fr1271 S1272.b0 S1272.g0 S1272.sG S1272.gn (S1272.ow _ (.head _)).1 h1270 d1273

abbrev N__law_bad : List Str := ["entries", "cell", "at", "same", "late", "early", "one", "turned", "octets"]
theorem sc__law_bad : FnScope N__law_bad ["entries", "cell"] (defScope s__law_bad) := ⟨rfl, rfl, rfl, by decide +kernel, rfl, by decide +kernel, by decide +kernel⟩
theorem ok__law_bad (D : DefX K mg "_law_bad" s__law_bad ["entries", "cell"] pats__law_bad) (T : Txt K mg AD) (c__law_refused : CalX P w K mg base 4 "_law_refused" (sp__law_refused K AD) pats__law_refused) (c__law_packed : CalX P w K mg base 2 "_law_packed" (sp__law_packed K AD) pats__law_packed) (c__law_seek_refused : CalX P w K mg base 5 "_law_seek_refused" (sp__law_seek_refused K AD) pats__law_seek_refused) (c__law_opened : CalX P w K mg base 4 "_law_opened" (sp__law_opened K AD) pats__law_opened) : CalX P w K mg base 6 "_law_bad" (sp__law_bad K AD) pats__law_bad := by
  refine D.ok sc__law_bad (fun vs H Q E h => ?_) (fun f cdv A_ outer s H vs Q E hr h => ?_)
  · obtain ⟨G, v_entries, entries', cell', rfl, _⟩ := h
    rfl
  · obtain ⟨G, v_entries, entries', cell', rfl, sG, r_entries, hw⟩ := h
    refine ⟨_, (pss_cons (ps_if (pt_cmp (pc_eqI (pe_callB (call_lenLK (K := K)) (by rfl) T.b_len (by decide +kernel) (pa_cons (pv 0) pa_nil)) pe_int)) (pss_one (ps_ret (pe_and (vx_callX c__law_refused pat__law_refused_0 (.head _) hr (by decide) (takes_of rfl rfl rfl rfl) rfl (pa_cons (pe_lst (pa_cons (pe_tup (pa_cons (pe_op op_add pe_int (pe_op op_mod (pv 1) pe_int)) (pa_cons (pe_lst pa_nil) pa_nil))) pa_nil)) pa_nil) pk_nil) (pe_one (vx_callX c__law_refused pat__law_refused_0 (.head _) hr (by decide) (takes_of rfl rfl rfl rfl) rfl (pa_cons (pe_lst (pa_cons (pe_tup (pa_cons (pe_op op_sub (pe_un un_neg pe_int) (pe_op op_mod (pv 1) pe_int)) (pa_cons (pe_lst pa_nil) pa_nil))) pa_nil)) pa_nil) pk_nil))))) pss_nil)
      (pss_cons (ps_set (i := 2) sc__law_bad.nd rfl (Or.inl rfl) (pe_op op_mod (pv 1) (pe_callB (call_lenLK (K := K)) (by rfl) T.b_len (by decide +kernel) (pa_cons (pv 0) pa_nil))))
      (pss_cons (ps_set (i := 3) sc__law_bad.nd rfl (Or.inl rfl) (pe_op op_cat (pe_op op_cat (pe_slice (sl_listK (K := K)) (pv 0) po_none (po_some (pe_op op_add (pv 2) pe_int))) (pe_lst (pa_cons (pe_tup (pa_cons (pe_ix (ix_tupK (K := K)) (pe_ix (ix_listK (K := K)) (pv 0) (pv 2) (fun _ _ => rfl)) pe_int (fun _ _ => rfl)) (pa_cons (pe_lst (pa_cons pe_int pa_nil)) pa_nil))) pa_nil))) (pe_slice (sl_listK (K := K)) (pv 0) (po_some (pe_op op_add (pv 2) pe_int)) po_none)))
      (pss_cons (ps_set (i := 4) sc__law_bad.nd rfl (Or.inl rfl) (pe_op op_cat (pe_op op_cat (pe_slice (sl_listK (K := K)) (pv 0) po_none (po_some (pv 2))) (pe_lst (pa_cons (pe_tup (pa_cons (pe_op op_add pe_int (pe_op op_mod (pv 1) pe_int)) (pa_cons (pe_ix (ix_tupK (K := K)) (pe_ix (ix_listK (K := K)) (pv 0) (pv 2) (fun _ _ => rfl)) pe_int (fun _ _ => rfl)) pa_nil))) pa_nil))) (pe_slice (sl_listK (K := K)) (pv 0) (po_some (pe_op op_add (pv 2) pe_int)) po_none)))
      (pss_cons (ps_set (i := 5) sc__law_bad.nd rfl (Or.inl rfl) (pe_op op_cat (pe_lst (pa_cons (pe_tup (pa_cons (pe_op op_sub (pe_un un_neg pe_int) (pe_op op_mod (pv 1) pe_int)) (pa_cons (pe_lst pa_nil) pa_nil))) pa_nil)) (pv 0)))
      (C8.pss_cut (ps_if (pt_cmp (pc_gt (pe_callB (call_lenLK (K := K)) (by rfl) T.b_len (by decide +kernel) (pa_cons (pv 0) pa_nil)) pe_int)) (pss_cons (ps_set (i := 6) sc__law_bad.nd rfl (Or.inl rfl) (pe_op op_mod (pe_op op_fdivW (pv 1) pe_int) (pe_op op_sub (pe_callB (call_lenLK (K := K)) (by rfl) T.b_len (by decide +kernel) (pa_cons (pv 0) pa_nil)) pe_int)))
      (pss_cons (ps_set (i := 7) sc__law_bad.nd rfl (Or.inl rfl) (pe_op op_cat (pe_op op_cat (pe_slice (sl_listK (K := K)) (pv 0) po_none (po_some (pv 6))) (pe_lst (pa_cons (pe_ix (ix_listK (K := K)) (pv 0) (pe_op op_add (pv 6) pe_int) (fun _ _ => rfl)) (pa_cons (pe_ix (ix_listK (K := K)) (pv 0) (pv 6) (fun _ _ => rfl)) pa_nil)))) (pe_slice (sl_listK (K := K)) (pv 0) (po_some (pe_op op_add (pv 6) pe_int)) po_none)))
      (pss_cons (ps_set (i := 8) sc__law_bad.nd rfl (Or.inl rfl) (vx_callX c__law_packed pat__law_packed_0 (.head _) hr (by decide) (takes_of rfl rfl rfl rfl) rfl (pa_cons (pv 7) pa_nil) pk_nil))
      (pss_cons (ps_if (PW.pt (pw_or (pt_not (pt_val (vx_callX c__law_refused pat__law_refused_0 (.head _) hr (by decide) (takes_of rfl rfl rfl rfl) rfl (pa_cons (pv 7) pa_nil) pk_nil))) (pw_or (pt_cmp (pc_gt (pe_callB (call_lenLK (K := K)) (by rfl) T.b_len (by decide +kernel) (pa_cons (vx_callX c__law_opened pat__law_opened_0 (.head _) hr (by decide) (takes_of rfl rfl rfl rfl) rfl (pa_cons (pv 8) pa_nil) pk_nil) pa_nil)) pe_int)) (pw_or1 (pt_not (pt_val (vx_callX c__law_seek_refused pat__law_seek_refused_0 (.head _) hr (by decide) (takes_of rfl rfl rfl rfl) rfl (pa_cons (pv 8) (pa_cons (pe_ix (ix_tupK (K := K)) (pe_ix (ix_listK (K := K)) (pv 0) (pv 6) (fun _ _ => rfl)) pe_int (fun _ _ => rfl)) pa_nil)) pk_nil))))))) (pss_one (ps_ret pe_bl)) pss_nil)
      (pss_cons (ps_set (i := 8) sc__law_bad.nd rfl (Or.inl rfl) (vx_callX c__law_packed pat__law_packed_0 (.head _) hr (by decide) (takes_of rfl rfl rfl rfl) rfl (pa_cons (pv 3) pa_nil) pk_nil))
      (pss_one (ps_if (PW.pt (pw_or (pt_cmp (pc_gt (pe_callB (call_lenLK (K := K)) (by rfl) T.b_len (by decide +kernel) (pa_cons (vx_callX c__law_opened pat__law_opened_0 (.head _) hr (by decide) (takes_of rfl rfl rfl rfl) rfl (pa_cons (pv 8) pa_nil) pk_nil) pa_nil)) pe_int)) (pw_or1 (pt_not (pt_val (vx_callX c__law_seek_refused pat__law_seek_refused_0 (.head _) hr (by decide) (takes_of rfl rfl rfl rfl) rfl (pa_cons (pv 8) (pa_cons (pe_ix (ix_tupK (K := K)) (pe_ix (ix_listK (K := K)) (pv 0) (pv 2) (fun _ _ => rfl)) pe_int (fun _ _ => rfl)) pa_nil)) pk_nil)))))) (pss_one (ps_ret pe_bl)) pss_nil))))))) pss_nil)
      (pss_one (ps_ret (pe_and (vx_callX c__law_refused pat__law_refused_0 (.head _) hr (by decide) (takes_of rfl rfl rfl rfl) rfl (pa_cons (pv 3) pa_nil) pk_nil) (pe_and (vx_callX c__law_refused pat__law_refused_0 (.head _) hr (by decide) (takes_of rfl rfl rfl rfl) rfl (pa_cons (pv 4) pa_nil) pk_nil) (pe_one (vx_callX c__law_refused pat__law_refused_0 (.head _) hr (by decide) (takes_of rfl rfl rfl rfl) rfl (pa_cons (pv 5) pa_nil) pk_nil)))))))))))), ?_⟩
    obtain ⟨KK, EE, hK0, hE, hw⟩ := cW_gen hw
    have S0 := Sep.startG sG
    unfold F__law_bad at hw
    obtain ⟨a1274, vs1275, rfl, h1276, d1277⟩ := rp_list r_entries
    refine ⟨_, rfl, _, _, _, rfl, (SqL.of (S0.sG _ _ h1276)), (by rw [d1277.len, List.length_map]), _, _, rfl, rfl, _, rfl, ?_⟩
    refine iteD (fun c1278 => ?_) (fun c1278 => ?_)
    · have hw := cW_pos c1278 hw
      refine ⟨_, rfl, _, _, rfl, rfl, (show (0 : Int) < 9 by decide), _, _, rfl, rfl, (by show 0 ≤ sizeLine; decide), fun p1279 n1280 => ?_⟩
      generalize g1281 : upd H p1279 _ = H1282
      obtain ⟨e1283, h1284⟩ := gen_new n1280 g1281
      have h1285 : H1282 p1279 = some (.lst ((([] : (List Int)) : (List Int)).map V.int)) := h1284
      have fr1286 := S0.free n1280
      have S1287 := S0.new n1280 e1283 h1285 fr1286
      refine ⟨(by show 2 ≤ sizeLine; decide), fun p1288 n1289 => ?_⟩
      generalize g1290 : upd H1282 p1288 _ = H1291
      obtain ⟨e1292, h1293⟩ := gen_new n1289 g1290
      have h1294 : H1291 p1288 = some (.tup [V.int ((4294967296 + (cell' % 9))), V.ref p1279]) := h1293
      have fr1295 := S1287.free n1289
      obtain ⟨G1297, eG1298, hg1299, S1296⟩ := S1287.grow n1289 e1292 h1294 fr1295
      have h1300 := (e1292 _ _ h1285)
      obtain ⟨G1301, eG1302, hg1303, S1304⟩ := Sep.freeze (O' := []) S1296 (.head _) h1300 fr1286 (all_nil)
      refine ⟨(by show 1 ≤ sizeLine; decide), fun p1305 n1306 => ?_⟩
      generalize g1307 : upd H1291 p1305 _ = H1308
      obtain ⟨e1309, h1310⟩ := gen_new n1306 g1307
      have h1311 : H1308 p1305 = some (.lst ([V.ref p1288])) := h1310
      have fr1312 := S1304.free n1306
      have S1313 := S1304.new n1306 e1309 h1311 fr1312
      have d1314 : RpAll G1301 ([V.ref p1288]) (([((4294967296 + (cell' % 9)), ([] : (List Int)))] : (List (Int × (List Int)))).map (encT2 PyData.int (encL PyData.int))) := (RpAll.cons (rp_mk2 (eG1302 _ _ hg1299) (.int _) (rp_mk_ints hg1303)) RpAll.nil)
      refine ⟨rfl, rfl, G1301, _, _, rfl, S1313.sG, (Rp.hide_nil (rp_mk_list h1311 (RpAll.mono S1313.sG d1314))), cW_call hw (fun v1315 hw H1316 e1317 => ?_) (fun e he H2 e2 => hE e he H2 (Same.trans S1313.b0 e2))⟩
      have S1318 := S1313.same e1317
      refine ⟨_, rfl, ?_⟩
      refine iteB (fun c1319 => ?_) (fun c1319 => ?_)
      · have hw := cW_pos c1319 hw
        refine ⟨_, rfl, _, rfl, _, _, rfl, rfl, (show (0 : Int) < 9 by decide), _, _, rfl, rfl, (by show 0 ≤ sizeLine; decide), fun p1320 n1321 => ?_⟩
        generalize g1322 : upd H1316 p1320 _ = H1323
        obtain ⟨e1324, h1325⟩ := gen_new n1321 g1322
        have h1326 : H1323 p1320 = some (.lst ((([] : (List Int)) : (List Int)).map V.int)) := h1325
        have fr1327 := S1318.free n1321
        have S1328 := S1318.new n1321 e1324 h1326 fr1327
        refine ⟨(by show 2 ≤ sizeLine; decide), fun p1329 n1330 => ?_⟩
        generalize g1331 : upd H1323 p1329 _ = H1332
        obtain ⟨e1333, h1334⟩ := gen_new n1330 g1331
        have h1335 : H1332 p1329 = some (.tup [V.int (((-1) - (cell' % 9))), V.ref p1320]) := h1334
        have fr1336 := S1328.free n1330
        obtain ⟨G1338, eG1339, hg1340, S1337⟩ := S1328.grow n1330 e1333 h1335 fr1336
        have h1341 := (e1333 _ _ h1326)
        obtain ⟨G1342, eG1343, hg1344, S1345⟩ := Sep.freeze (O' := [p1305]) S1337 (.head _) h1341 fr1327 ((all_cons ⟨(.tail _ (.head _)), (ne_of_none (e1317 _ _ h1311) n1321)⟩ all_nil))
        refine ⟨(by show 1 ≤ sizeLine; decide), fun p1346 n1347 => ?_⟩
        generalize g1348 : upd H1332 p1346 _ = H1349
        obtain ⟨e1350, h1351⟩ := gen_new n1347 g1348
        have h1352 : H1349 p1346 = some (.lst ([V.ref p1329])) := h1351
        have fr1353 := S1345.free n1347
        have S1354 := S1345.new n1347 e1350 h1352 fr1353
        have d1355 : RpAll G1342 ([V.ref p1329]) (([(((-1) - (cell' % 9)), ([] : (List Int)))] : (List (Int × (List Int)))).map (encT2 PyData.int (encL PyData.int))) := (RpAll.cons (rp_mk2 (eG1343 _ _ hg1340) (.int _) (rp_mk_ints hg1344)) RpAll.nil)
        refine ⟨rfl, rfl, G1342, _, _, rfl, S1354.sG, (Rp.hide_nil (rp_mk_list h1352 (RpAll.mono S1354.sG d1355))), cW_call hw (fun v1356 hw H1357 e1358 => ?_) (fun e he H2 e2 => hE e he H2 (Same.trans S1354.b0 e2))⟩
        have S1359 := S1354.same e1358
        have hw := cW_ok hw
        exact hK0 _ hw _ S1359.b0
      · have hw := cW_negB c1319 hw
        have hw := cW_ok hw
        exact hK0 _ hw _ S1318.b0
    · have hw := cW_neg c1278 hw
      obtain ⟨g1360, hw⟩ := cW_grd hw
      refine ⟨_, rfl, _, rfl, _, _, _, rfl, (SqL.of (S0.sG _ _ h1276)), (by rw [d1277.len, List.length_map]), _, _, rfl, rfl, g1360, ?_⟩
      have hw := cW_bnd hw
      refine ⟨_, rfl, _, rfl, _, _, rfl, rfl, _, rfl, _, _, rfl, (SqL.of (S0.sG _ _ h1276)), fun p1362 n1363 => ?_⟩
      generalize g1364 : upd H p1362 _ = H1365
      obtain ⟨e1366, h1367⟩ := gen_new n1363 g1364
      have h1368 : H1365 p1362 = some (.lst (cutV (vs1275) none (some (((cell' % (((entries') : (List (Int × (List Int)))).length : Int)) + 1))))) := h1367
      have fr1369 := S0.free n1363
      have S1370 := S0.new n1363 e1366 h1368 fr1369
      have d1371 : RpAll G (cutV (vs1275) none (some (((cell' % (((entries') : (List (Int × (List Int)))).length : Int)) + 1)))) ((cutL (entries') none (some (((cell' % (((entries') : (List (Int × (List Int)))).length : Int)) + 1))) : (List (Int × (List Int)))).map (encT2 PyData.int (encL PyData.int))) := cut_all none (some (((cell' % (((entries') : (List (Int × (List Int)))).length : Int)) + 1))) d1277
      obtain ⟨g1372, hw⟩ := cW_grd hw
      obtain ⟨v1373, a1374, r1375⟩ := RpAll.ixD (k := (cell' % (((entries') : (List (Int × (List Int)))).length : Int))) d1277 g1372
      obtain ⟨a1376, v1378, v1379, rfl, h1377, r1380, r1381⟩ := rp_tup2 r1375
      obtain rfl := rp_int r1380
      obtain ⟨a1382, rfl, h1383⟩ := rp_ints r1381
      refine ⟨_, rfl, _, rfl, _, _, _, _, rfl, rfl, (SqL.of (S1370.sG _ _ h1276)), a1374, _, _, _, _, rfl, rfl, (SqT.of (S1370.sG _ _ h1377)), rfl, (by show 1 ≤ sizeLine; decide), fun p1384 n1385 => ?_⟩
      generalize g1386 : upd H1365 p1384 _ = H1387
      obtain ⟨e1388, h1389⟩ := gen_new n1385 g1386
      have h1390 : H1387 p1384 = some (.lst (([7] : (List Int)).map V.int)) := h1389
      have fr1391 := S1370.free n1385
      have S1392 := S1370.new n1385 e1388 h1390 fr1391
      refine ⟨(by show 2 ≤ sizeLine; decide), fun p1393 n1394 => ?_⟩
      generalize g1395 : upd H1387 p1393 _ = H1396
      obtain ⟨e1397, h1398⟩ := gen_new n1394 g1395
      have h1399 : H1396 p1393 = some (.tup [V.int ((itD (entries') ((cell' % (((entries') : (List (Int × (List Int)))).length : Int)))).1), V.ref p1384]) := h1398
      have fr1400 := S1392.free n1394
      obtain ⟨G1402, eG1403, hg1404, S1401⟩ := S1392.grow n1394 e1397 h1399 fr1400
      have h1405 := (e1397 _ _ h1390)
      obtain ⟨G1406, eG1407, hg1408, S1409⟩ := Sep.freeze (O' := [p1362]) S1401 (.head _) h1405 fr1391 ((all_cons ⟨(.tail _ (.head _)), (ne_of_none h1368 n1385)⟩ all_nil))
      refine ⟨(by show 1 ≤ sizeLine; decide), fun p1410 n1411 => ?_⟩
      generalize g1412 : upd H1396 p1410 _ = H1413
      obtain ⟨e1414, h1415⟩ := gen_new n1411 g1412
      have h1416 : H1413 p1410 = some (.lst ([V.ref p1393])) := h1415
      have fr1417 := S1409.free n1411
      have S1418 := S1409.new n1411 e1414 h1416 fr1417
      have d1419 : RpAll G1406 ([V.ref p1393]) (([((itD (entries') ((cell' % (((entries') : (List (Int × (List Int)))).length : Int)))).1, [7])] : (List (Int × (List Int)))).map (encT2 PyData.int (encL PyData.int))) := (RpAll.cons (rp_mk2 (eG1407 _ _ hg1404) (.int _) (rp_mk_ints hg1408)) RpAll.nil)
      obtain ⟨g1420, hw⟩ := cW_grd hw
      have h1421 := (e1414 _ _ (e1397 _ _ (e1388 _ _ h1368)))
      obtain ⟨G1422, eG1423, hg1424, S1425⟩ := Sep.freeze (O' := [p1410]) S1418 (.tail _ (.head _)) h1421 fr1369 ((all_cons ⟨(.head _), (ne_of_none (e1397 _ _ (e1388 _ _ h1368)) n1411).symm⟩ all_nil))
      obtain ⟨G1426, eG1427, hg1428, S1429⟩ := Sep.freeze (O' := []) S1425 (.head _) h1416 fr1417 (all_nil)
      refine ⟨_, _, _, _, rfl, rfl, h1421, h1416, (cat_len (RpAll.mono eG1407 (RpAll.mono eG1403 d1371)) d1419 g1420), fun p1430 n1431 => ?_⟩
      generalize g1432 : upd H1413 p1430 _ = H1433
      obtain ⟨e1434, h1435⟩ := gen_new n1431 g1432
      have h1436 : H1433 p1430 = some (.lst (cutV (vs1275) none (some (((cell' % (((entries') : (List (Int × (List Int)))).length : Int)) + 1))) ++ [V.ref p1393])) := h1435
      have fr1437 := S1429.free n1431
      have S1438 := S1429.new n1431 e1434 h1436 fr1437
      have d1439 : RpAll G1426 (cutV (vs1275) none (some (((cell' % (((entries') : (List (Int × (List Int)))).length : Int)) + 1))) ++ [V.ref p1393]) (((cutL (entries') none (some (((cell' % (((entries') : (List (Int × (List Int)))).length : Int)) + 1)))) ++ ([((itD (entries') ((cell' % (((entries') : (List (Int × (List Int)))).length : Int)))).1, [7])]) : (List (Int × (List Int)))).map (encT2 PyData.int (encL PyData.int))) := app_map (RpAll.mono eG1427 (RpAll.mono eG1423 (RpAll.mono eG1407 (RpAll.mono eG1403 d1371)))) (RpAll.mono eG1427 (RpAll.mono eG1423 d1419))
      refine ⟨_, rfl, _, rfl, _, _, rfl, rfl, _, rfl, _, _, rfl, (SqL.of (S1438.sG _ _ (eG1427 _ _ (eG1423 _ _ (eG1407 _ _ (eG1403 _ _ h1276)))))), fun p1440 n1441 => ?_⟩
      generalize g1442 : upd H1433 p1440 _ = H1443
      obtain ⟨e1444, h1445⟩ := gen_new n1441 g1442
      have h1446 : H1443 p1440 = some (.lst (cutV (vs1275) (some (((cell' % (((entries') : (List (Int × (List Int)))).length : Int)) + 1))) none)) := h1445
      have fr1447 := S1438.free n1441
      have S1448 := S1438.new n1441 e1444 h1446 fr1447
      have d1449 : RpAll G1426 (cutV (vs1275) (some (((cell' % (((entries') : (List (Int × (List Int)))).length : Int)) + 1))) none) ((cutL (entries') (some (((cell' % (((entries') : (List (Int × (List Int)))).length : Int)) + 1))) none : (List (Int × (List Int)))).map (encT2 PyData.int (encL PyData.int))) := cut_all (some (((cell' % (((entries') : (List (Int × (List Int)))).length : Int)) + 1))) none (RpAll.mono eG1427 (RpAll.mono eG1423 (RpAll.mono eG1407 (RpAll.mono eG1403 d1277))))
      obtain ⟨g1450, hw⟩ := cW_grd hw
      have h1451 := (e1444 _ _ h1436)
      obtain ⟨G1452, eG1453, hg1454, S1455⟩ := Sep.freeze (O' := [p1440]) S1448 (.tail _ (.head _)) h1451 fr1437 ((all_cons ⟨(.head _), (ne_of_none h1436 n1441).symm⟩ all_nil))
      obtain ⟨G1456, eG1457, hg1458, S1459⟩ := Sep.freeze (O' := []) S1455 (.head _) h1446 fr1447 (all_nil)
      refine ⟨_, _, _, _, rfl, rfl, h1451, h1446, (cat_len d1439 d1449 g1450), fun p1460 n1461 => ?_⟩
      generalize g1462 : upd H1443 p1460 _ = H1463
      obtain ⟨e1464, h1465⟩ := gen_new n1461 g1462
      have h1466 : H1463 p1460 = some (.lst (cutV (vs1275) none (some (((cell' % (((entries') : (List (Int × (List Int)))).length : Int)) + 1))) ++ [V.ref p1393] ++ cutV (vs1275) (some (((cell' % (((entries') : (List (Int × (List Int)))).length : Int)) + 1))) none)) := h1465
      have fr1467 := S1459.free n1461
      have S1468 := S1459.new n1461 e1464 h1466 fr1467
      have d1469 : RpAll G1456 (cutV (vs1275) none (some (((cell' % (((entries') : (List (Int × (List Int)))).length : Int)) + 1))) ++ [V.ref p1393] ++ cutV (vs1275) (some (((cell' % (((entries') : (List (Int × (List Int)))).length : Int)) + 1))) none) ((((cutL (entries') none (some (((cell' % (((entries') : (List (Int × (List Int)))).length : Int)) + 1)))) ++ ([((itD (entries') ((cell' % (((entries') : (List (Int × (List Int)))).length : Int)))).1, [7])])) ++ (cutL (entries') (some (((cell' % (((entries') : (List (Int × (List Int)))).length : Int)) + 1))) none) : (List (Int × (List Int)))).map (encT2 PyData.int (encL PyData.int))) := app_map (RpAll.mono eG1457 (RpAll.mono eG1453 d1439)) (RpAll.mono eG1457 (RpAll.mono eG1453 d1449))
      refine ⟨_, rfl, _, rfl, _, rfl, _, _, rfl, (SqL.of (S1468.sG _ _ (eG1457 _ _ (eG1453 _ _ (eG1427 _ _ (eG1423 _ _ (eG1407 _ _ (eG1403 _ _ h1276)))))))), fun p1470 n1471 => ?_⟩
      generalize g1472 : upd H1463 p1470 _ = H1473
      obtain ⟨e1474, h1475⟩ := gen_new n1471 g1472
      have h1476 : H1473 p1470 = some (.lst (cutV (vs1275) none (some ((cell' % (((entries') : (List (Int × (List Int)))).length : Int)))))) := h1475
      have fr1477 := S1468.free n1471
      have S1478 := S1468.new n1471 e1474 h1476 fr1477
      have d1479 : RpAll G1456 (cutV (vs1275) none (some ((cell' % (((entries') : (List (Int × (List Int)))).length : Int))))) ((cutL (entries') none (some ((cell' % (((entries') : (List (Int × (List Int)))).length : Int)))) : (List (Int × (List Int)))).map (encT2 PyData.int (encL PyData.int))) := cut_all none (some ((cell' % (((entries') : (List (Int × (List Int)))).length : Int)))) (RpAll.mono eG1457 (RpAll.mono eG1453 (RpAll.mono eG1427 (RpAll.mono eG1423 (RpAll.mono eG1407 (RpAll.mono eG1403 d1277))))))
      obtain ⟨g1480, hw⟩ := cW_grd hw
      obtain ⟨v1481, a1482, r1483⟩ := RpAll.ixD (k := (cell' % (((entries') : (List (Int × (List Int)))).length : Int))) (RpAll.mono eG1457 (RpAll.mono eG1453 (RpAll.mono eG1427 (RpAll.mono eG1423 (RpAll.mono eG1407 (RpAll.mono eG1403 d1277)))))) g1480
      obtain ⟨a1484, v1486, v1487, rfl, h1485, r1488, r1489⟩ := rp_tup2 r1483
      obtain rfl := rp_int r1488
      obtain ⟨a1490, rfl, h1491⟩ := rp_ints r1489
      refine ⟨_, rfl, _, _, rfl, rfl, (show (0 : Int) < 5 by decide), _, _, rfl, rfl, _, rfl, _, rfl, _, _, _, _, rfl, rfl, (SqL.of (S1478.sG _ _ (eG1457 _ _ (eG1453 _ _ (eG1427 _ _ (eG1423 _ _ (eG1407 _ _ (eG1403 _ _ h1276)))))))), a1482, _, _, _, _, rfl, rfl, (SqT.of (S1478.sG _ _ h1485)), rfl, (by show 2 ≤ sizeLine; decide), fun p1492 n1493 => ?_⟩
      generalize g1494 : upd H1473 p1492 _ = H1495
      obtain ⟨e1496, h1497⟩ := gen_new n1493 g1494
      have h1498 : H1495 p1492 = some (.tup [V.int ((4294967296 + (cell' % 5))), V.ref a1490]) := h1497
      have fr1499 := S1478.free n1493
      obtain ⟨G1501, eG1502, hg1503, S1500⟩ := S1478.grow n1493 e1496 h1498 fr1499
      refine ⟨(by show 1 ≤ sizeLine; decide), fun p1504 n1505 => ?_⟩
      generalize g1506 : upd H1495 p1504 _ = H1507
      obtain ⟨e1508, h1509⟩ := gen_new n1505 g1506
      have h1510 : H1507 p1504 = some (.lst ([V.ref p1492])) := h1509
      have fr1511 := S1500.free n1505
      have S1512 := S1500.new n1505 e1508 h1510 fr1511
      have d1513 : RpAll G1501 ([V.ref p1492]) (([((4294967296 + (cell' % 5)), (itD (entries') ((cell' % (((entries') : (List (Int × (List Int)))).length : Int)))).2)] : (List (Int × (List Int)))).map (encT2 PyData.int (encL PyData.int))) := (RpAll.cons (rp_mk2 hg1503 (.int _) (rp_mk_ints (eG1502 _ _ h1491))) RpAll.nil)
      obtain ⟨g1514, hw⟩ := cW_grd hw
      have h1515 := (e1508 _ _ (e1496 _ _ h1476))
      obtain ⟨G1516, eG1517, hg1518, S1519⟩ := Sep.freeze (O' := [p1504, p1460]) S1512 (.tail _ (.head _)) h1515 fr1477 ((all_cons ⟨(.head _), (ne_of_none (e1496 _ _ h1476) n1505).symm⟩ (all_cons ⟨(.tail _ (.tail _ (.head _))), (ne_of_none h1466 n1471)⟩ all_nil)))
      obtain ⟨G1520, eG1521, hg1522, S1523⟩ := Sep.freeze (O' := [p1460]) S1519 (.head _) h1510 fr1511 ((all_cons ⟨(.tail _ (.head _)), (ne_of_none (e1496 _ _ (e1474 _ _ h1466)) n1505)⟩ all_nil))
      refine ⟨_, _, _, _, rfl, rfl, h1515, h1510, (cat_len (RpAll.mono eG1502 d1479) d1513 g1514), fun p1524 n1525 => ?_⟩
      generalize g1526 : upd H1507 p1524 _ = H1527
      obtain ⟨e1528, h1529⟩ := gen_new n1525 g1526
      have h1530 : H1527 p1524 = some (.lst (cutV (vs1275) none (some ((cell' % (((entries') : (List (Int × (List Int)))).length : Int)))) ++ [V.ref p1492])) := h1529
      have fr1531 := S1523.free n1525
      have S1532 := S1523.new n1525 e1528 h1530 fr1531
      have d1533 : RpAll G1520 (cutV (vs1275) none (some ((cell' % (((entries') : (List (Int × (List Int)))).length : Int)))) ++ [V.ref p1492]) (((cutL (entries') none (some ((cell' % (((entries') : (List (Int × (List Int)))).length : Int))))) ++ ([((4294967296 + (cell' % 5)), (itD (entries') ((cell' % (((entries') : (List (Int × (List Int)))).length : Int)))).2)]) : (List (Int × (List Int)))).map (encT2 PyData.int (encL PyData.int))) := app_map (RpAll.mono eG1521 (RpAll.mono eG1517 (RpAll.mono eG1502 d1479))) (RpAll.mono eG1521 (RpAll.mono eG1517 d1513))
      refine ⟨_, rfl, _, rfl, _, _, rfl, rfl, _, rfl, _, _, rfl, (SqL.of (S1532.sG _ _ (eG1521 _ _ (eG1517 _ _ (eG1502 _ _ (eG1457 _ _ (eG1453 _ _ (eG1427 _ _ (eG1423 _ _ (eG1407 _ _ (eG1403 _ _ h1276))))))))))), fun p1534 n1535 => ?_⟩
      generalize g1536 : upd H1527 p1534 _ = H1537
      obtain ⟨e1538, h1539⟩ := gen_new n1535 g1536
      have h1540 : H1537 p1534 = some (.lst (cutV (vs1275) (some (((cell' % (((entries') : (List (Int × (List Int)))).length : Int)) + 1))) none)) := h1539
      have fr1541 := S1532.free n1535
      have S1542 := S1532.new n1535 e1538 h1540 fr1541
      have d1543 : RpAll G1520 (cutV (vs1275) (some (((cell' % (((entries') : (List (Int × (List Int)))).length : Int)) + 1))) none) ((cutL (entries') (some (((cell' % (((entries') : (List (Int × (List Int)))).length : Int)) + 1))) none : (List (Int × (List Int)))).map (encT2 PyData.int (encL PyData.int))) := cut_all (some (((cell' % (((entries') : (List (Int × (List Int)))).length : Int)) + 1))) none (RpAll.mono eG1521 (RpAll.mono eG1517 (RpAll.mono eG1502 (RpAll.mono eG1457 (RpAll.mono eG1453 (RpAll.mono eG1427 (RpAll.mono eG1423 (RpAll.mono eG1407 (RpAll.mono eG1403 d1277)))))))))
      obtain ⟨g1544, hw⟩ := cW_grd hw
      have h1545 := (e1538 _ _ h1530)
      obtain ⟨G1546, eG1547, hg1548, S1549⟩ := Sep.freeze (O' := [p1534, p1460]) S1542 (.tail _ (.head _)) h1545 fr1531 ((all_cons ⟨(.head _), (ne_of_none h1530 n1535).symm⟩ (all_cons ⟨(.tail _ (.tail _ (.head _))), (ne_of_none (e1508 _ _ (e1496 _ _ (e1474 _ _ h1466))) n1525)⟩ all_nil)))
      obtain ⟨G1550, eG1551, hg1552, S1553⟩ := Sep.freeze (O' := [p1460]) S1549 (.head _) h1540 fr1541 ((all_cons ⟨(.tail _ (.head _)), (ne_of_none (e1528 _ _ (e1508 _ _ (e1496 _ _ (e1474 _ _ h1466)))) n1535)⟩ all_nil))
      refine ⟨_, _, _, _, rfl, rfl, h1545, h1540, (cat_len d1533 d1543 g1544), fun p1554 n1555 => ?_⟩
      generalize g1556 : upd H1537 p1554 _ = H1557
      obtain ⟨e1558, h1559⟩ := gen_new n1555 g1556
      have h1560 : H1557 p1554 = some (.lst (cutV (vs1275) none (some ((cell' % (((entries') : (List (Int × (List Int)))).length : Int)))) ++ [V.ref p1492] ++ cutV (vs1275) (some (((cell' % (((entries') : (List (Int × (List Int)))).length : Int)) + 1))) none)) := h1559
      have fr1561 := S1553.free n1555
      have S1562 := S1553.new n1555 e1558 h1560 fr1561
      have d1563 : RpAll G1550 (cutV (vs1275) none (some ((cell' % (((entries') : (List (Int × (List Int)))).length : Int)))) ++ [V.ref p1492] ++ cutV (vs1275) (some (((cell' % (((entries') : (List (Int × (List Int)))).length : Int)) + 1))) none) ((((cutL (entries') none (some ((cell' % (((entries') : (List (Int × (List Int)))).length : Int))))) ++ ([((4294967296 + (cell' % 5)), (itD (entries') ((cell' % (((entries') : (List (Int × (List Int)))).length : Int)))).2)])) ++ (cutL (entries') (some (((cell' % (((entries') : (List (Int × (List Int)))).length : Int)) + 1))) none) : (List (Int × (List Int)))).map (encT2 PyData.int (encL PyData.int))) := app_map (RpAll.mono eG1551 (RpAll.mono eG1547 d1533)) (RpAll.mono eG1551 (RpAll.mono eG1547 d1543))
      refine ⟨_, rfl, _, rfl, _, _, rfl, rfl, (show (0 : Int) < 5 by decide), _, _, rfl, rfl, (by show 0 ≤ sizeLine; decide), fun p1564 n1565 => ?_⟩
      generalize g1566 : upd H1557 p1564 _ = H1567
      obtain ⟨e1568, h1569⟩ := gen_new n1565 g1566
      have h1570 : H1567 p1564 = some (.lst ((([] : (List Int)) : (List Int)).map V.int)) := h1569
      have fr1571 := S1562.free n1565
      have S1572 := S1562.new n1565 e1568 h1570 fr1571
      refine ⟨(by show 2 ≤ sizeLine; decide), fun p1573 n1574 => ?_⟩
      generalize g1575 : upd H1567 p1573 _ = H1576
      obtain ⟨e1577, h1578⟩ := gen_new n1574 g1575
      have h1579 : H1576 p1573 = some (.tup [V.int (((-1) - (cell' % 5))), V.ref p1564]) := h1578
      have fr1580 := S1572.free n1574
      obtain ⟨G1582, eG1583, hg1584, S1581⟩ := S1572.grow n1574 e1577 h1579 fr1580
      have h1585 := (e1577 _ _ h1570)
      obtain ⟨G1586, eG1587, hg1588, S1589⟩ := Sep.freeze (O' := [p1554, p1460]) S1581 (.head _) h1585 fr1571 ((all_cons ⟨(.tail _ (.head _)), (ne_of_none h1560 n1565)⟩ (all_cons ⟨(.tail _ (.tail _ (.head _))), (ne_of_none (e1558 _ _ (e1538 _ _ (e1528 _ _ (e1508 _ _ (e1496 _ _ (e1474 _ _ h1466)))))) n1565)⟩ all_nil)))
      refine ⟨(by show 1 ≤ sizeLine; decide), fun p1590 n1591 => ?_⟩
      generalize g1592 : upd H1576 p1590 _ = H1593
      obtain ⟨e1594, h1595⟩ := gen_new n1591 g1592
      have h1596 : H1593 p1590 = some (.lst ([V.ref p1573])) := h1595
      have fr1597 := S1589.free n1591
      have S1598 := S1589.new n1591 e1594 h1596 fr1597
      have d1599 : RpAll G1586 ([V.ref p1573]) (([(((-1) - (cell' % 5)), ([] : (List Int)))] : (List (Int × (List Int)))).map (encT2 PyData.int (encL PyData.int))) := (RpAll.cons (rp_mk2 (eG1587 _ _ hg1584) (.int _) (rp_mk_ints hg1588)) RpAll.nil)
      obtain ⟨g1600, hw⟩ := cW_grd hw
      obtain ⟨G1601, eG1602, hg1603, S1604⟩ := Sep.freeze (O' := [p1554, p1460]) S1598 (.head _) h1596 fr1597 ((all_cons ⟨(.tail _ (.head _)), (ne_of_none (e1577 _ _ (e1568 _ _ h1560)) n1591)⟩ (all_cons ⟨(.tail _ (.tail _ (.head _))), (ne_of_none (e1577 _ _ (e1568 _ _ (e1558 _ _ (e1538 _ _ (e1528 _ _ (e1508 _ _ (e1496 _ _ (e1474 _ _ h1466)))))))) n1591)⟩ all_nil)))
      refine ⟨_, rfl, _, _, _, _, rfl, rfl, h1596, (S1598.sG _ _ (eG1587 _ _ (eG1583 _ _ (eG1551 _ _ (eG1547 _ _ (eG1521 _ _ (eG1517 _ _ (eG1502 _ _ (eG1457 _ _ (eG1453 _ _ (eG1427 _ _ (eG1423 _ _ (eG1407 _ _ (eG1403 _ _ h1276)))))))))))))), (cat_len d1599 (RpAll.mono eG1587 (RpAll.mono eG1583 (RpAll.mono eG1551 (RpAll.mono eG1547 (RpAll.mono eG1521 (RpAll.mono eG1517 (RpAll.mono eG1502 (RpAll.mono eG1457 (RpAll.mono eG1453 (RpAll.mono eG1427 (RpAll.mono eG1423 (RpAll.mono eG1407 (RpAll.mono eG1403 d1277))))))))))))) g1600), fun p1605 n1606 => ?_⟩
      generalize g1607 : upd H1593 p1605 _ = H1608
      obtain ⟨e1609, h1610⟩ := gen_new n1606 g1607
      have h1611 : H1608 p1605 = some (.lst ([V.ref p1573] ++ vs1275)) := h1610
      have fr1612 := S1604.free n1606
      have S1613 := S1604.new n1606 e1609 h1611 fr1612
      have d1614 : RpAll G1601 ([V.ref p1573] ++ vs1275) ((([(((-1) - (cell' % 5)), ([] : (List Int)))]) ++ (entries') : (List (Int × (List Int)))).map (encT2 PyData.int (encL PyData.int))) := app_map (RpAll.mono eG1602 d1599) (RpAll.mono eG1602 (RpAll.mono eG1587 (RpAll.mono eG1583 (RpAll.mono eG1551 (RpAll.mono eG1547 (RpAll.mono eG1521 (RpAll.mono eG1517 (RpAll.mono eG1502 (RpAll.mono eG1457 (RpAll.mono eG1453 (RpAll.mono eG1427 (RpAll.mono eG1423 (RpAll.mono eG1407 (RpAll.mono eG1403 d1277))))))))))))))
      refine ⟨fun σ H' => ∃ (u1618 : Option V) (u1619 : Option V) (u1620 : Option V) (G' : Hp), σ = [some (V.ref a1274), some (V.int (cell')), some (V.int ((cell' % (((entries') : (List (Int × (List Int)))).length : Int)))), some (V.ref p1460), some (V.ref p1554), some (V.ref p1605), u1618, u1619, u1620] ∧ Same G1601 G' ∧ Sep [] H G G' H' [p1460, p1554, p1605] ∧ H' p1460 = some (.lst (cutV (vs1275) none (some (((cell' % (((entries') : (List (Int × (List Int)))).length : Int)) + 1))) ++ [V.ref p1393] ++ cutV (vs1275) (some (((cell' % (((entries') : (List (Int × (List Int)))).length : Int)) + 1))) none)) ∧ H' p1554 = some (.lst (cutV (vs1275) none (some ((cell' % (((entries') : (List (Int × (List Int)))).length : Int)))) ++ [V.ref p1492] ++ cutV (vs1275) (some (((cell' % (((entries') : (List (Int × (List Int)))).length : Int)) + 1))) none)) ∧ H' p1605 = some (.lst ([V.ref p1573] ++ vs1275)) ∧ cW (F__law_bad_k1 (((cutL (entries') none (some (((cell' % (((entries') : (List (Int × (List Int)))).length : Int)) + 1)))) ++ ([((itD (entries') ((cell' % (((entries') : (List (Int × (List Int)))).length : Int)))).1, [7])])) ++ (cutL (entries') (some (((cell' % (((entries') : (List (Int × (List Int)))).length : Int)) + 1))) none)) (((cutL (entries') none (some ((cell' % (((entries') : (List (Int × (List Int)))).length : Int))))) ++ ([((4294967296 + (cell' % 5)), (itD (entries') ((cell' % (((entries') : (List (Int × (List Int)))).length : Int)))).2)])) ++ (cutL (entries') (some (((cell' % (((entries') : (List (Int × (List Int)))).length : Int)) + 1))) none)) (([(((-1) - (cell' % 5)), ([] : (List Int)))]) ++ (entries')) ) KK EE, ?_, ?_⟩
      · obtain ⟨K1621, hK1622, hw⟩ := cW_push hw
        refine ⟨_, rfl, _, _, _, rfl, (SqL.of (S1613.sG _ _ (eG1602 _ _ (eG1587 _ _ (eG1583 _ _ (eG1551 _ _ (eG1547 _ _ (eG1521 _ _ (eG1517 _ _ (eG1502 _ _ (eG1457 _ _ (eG1453 _ _ (eG1427 _ _ (eG1423 _ _ (eG1407 _ _ (eG1403 _ _ h1276)))))))))))))))), (by rw [(RpAll.mono eG1602 (RpAll.mono eG1587 (RpAll.mono eG1583 (RpAll.mono eG1551 (RpAll.mono eG1547 (RpAll.mono eG1521 (RpAll.mono eG1517 (RpAll.mono eG1502 (RpAll.mono eG1457 (RpAll.mono eG1453 (RpAll.mono eG1427 (RpAll.mono eG1423 (RpAll.mono eG1407 (RpAll.mono eG1403 d1277)))))))))))))).len, List.length_map]), _, _, rfl, rfl, _, rfl, ?_⟩
        refine iteD (fun c1623 => ?_) (fun c1623 => ?_)
        · have hw := cW_pos c1623 hw
          obtain ⟨g1624, hw⟩ := cW_grd hw
          refine ⟨_, rfl, _, _, rfl, rfl, (divW_lit (by decide) (by decide)), _, rfl, _, _, _, rfl, (SqL.of (S1613.sG _ _ (eG1602 _ _ (eG1587 _ _ (eG1583 _ _ (eG1551 _ _ (eG1547 _ _ (eG1521 _ _ (eG1517 _ _ (eG1502 _ _ (eG1457 _ _ (eG1453 _ _ (eG1427 _ _ (eG1423 _ _ (eG1407 _ _ (eG1403 _ _ h1276)))))))))))))))), (by rw [(RpAll.mono eG1602 (RpAll.mono eG1587 (RpAll.mono eG1583 (RpAll.mono eG1551 (RpAll.mono eG1547 (RpAll.mono eG1521 (RpAll.mono eG1517 (RpAll.mono eG1502 (RpAll.mono eG1457 (RpAll.mono eG1453 (RpAll.mono eG1427 (RpAll.mono eG1423 (RpAll.mono eG1407 (RpAll.mono eG1403 d1277)))))))))))))).len, List.length_map]), _, _, rfl, rfl, _, _, rfl, rfl, g1624, ?_⟩
          have hw := cW_bnd hw
          refine ⟨_, rfl, _, rfl, _, rfl, _, _, rfl, (SqL.of (S1613.sG _ _ (eG1602 _ _ (eG1587 _ _ (eG1583 _ _ (eG1551 _ _ (eG1547 _ _ (eG1521 _ _ (eG1517 _ _ (eG1502 _ _ (eG1457 _ _ (eG1453 _ _ (eG1427 _ _ (eG1423 _ _ (eG1407 _ _ (eG1403 _ _ h1276)))))))))))))))), fun p1626 n1627 => ?_⟩
          generalize g1628 : upd H1608 p1626 _ = H1629
          obtain ⟨e1630, h1631⟩ := gen_new n1627 g1628
          have h1632 : H1629 p1626 = some (.lst (cutV (vs1275) none (some (((cell' / 3) % ((((entries') : (List (Int × (List Int)))).length : Int) - 1)))))) := h1631
          have fr1633 := S1613.free n1627
          have S1634 := S1613.new n1627 e1630 h1632 fr1633
          have d1635 : RpAll G1601 (cutV (vs1275) none (some (((cell' / 3) % ((((entries') : (List (Int × (List Int)))).length : Int) - 1))))) ((cutL (entries') none (some (((cell' / 3) % ((((entries') : (List (Int × (List Int)))).length : Int) - 1)))) : (List (Int × (List Int)))).map (encT2 PyData.int (encL PyData.int))) := cut_all none (some (((cell' / 3) % ((((entries') : (List (Int × (List Int)))).length : Int) - 1)))) (RpAll.mono eG1602 (RpAll.mono eG1587 (RpAll.mono eG1583 (RpAll.mono eG1551 (RpAll.mono eG1547 (RpAll.mono eG1521 (RpAll.mono eG1517 (RpAll.mono eG1502 (RpAll.mono eG1457 (RpAll.mono eG1453 (RpAll.mono eG1427 (RpAll.mono eG1423 (RpAll.mono eG1407 (RpAll.mono eG1403 d1277))))))))))))))
          obtain ⟨g1636, hw⟩ := cW_grd hw
          obtain ⟨v1637, a1638, r1639⟩ := RpAll.ixD (k := (((cell' / 3) % ((((entries') : (List (Int × (List Int)))).length : Int) - 1)) + 1)) (RpAll.mono eG1602 (RpAll.mono eG1587 (RpAll.mono eG1583 (RpAll.mono eG1551 (RpAll.mono eG1547 (RpAll.mono eG1521 (RpAll.mono eG1517 (RpAll.mono eG1502 (RpAll.mono eG1457 (RpAll.mono eG1453 (RpAll.mono eG1427 (RpAll.mono eG1423 (RpAll.mono eG1407 (RpAll.mono eG1403 d1277)))))))))))))) g1636
          obtain ⟨a1640, v1642, v1643, rfl, h1641, r1644, r1645⟩ := rp_tup2 r1639
          obtain rfl := rp_int r1644
          obtain ⟨a1646, rfl, h1647⟩ := rp_ints r1645
          obtain ⟨g1648, hw⟩ := cW_grd hw
          obtain ⟨v1649, a1650, r1651⟩ := RpAll.ixD (k := ((cell' / 3) % ((((entries') : (List (Int × (List Int)))).length : Int) - 1))) (RpAll.mono eG1602 (RpAll.mono eG1587 (RpAll.mono eG1583 (RpAll.mono eG1551 (RpAll.mono eG1547 (RpAll.mono eG1521 (RpAll.mono eG1517 (RpAll.mono eG1502 (RpAll.mono eG1457 (RpAll.mono eG1453 (RpAll.mono eG1427 (RpAll.mono eG1423 (RpAll.mono eG1407 (RpAll.mono eG1403 d1277)))))))))))))) g1648
          obtain ⟨a1652, v1654, v1655, rfl, h1653, r1656, r1657⟩ := rp_tup2 r1651
          obtain rfl := rp_int r1656
          obtain ⟨a1658, rfl, h1659⟩ := rp_ints r1657
          refine ⟨_, rfl, _, rfl, _, _, rfl, rfl, _, _, _, _, rfl, rfl, (SqL.of (S1634.sG _ _ (eG1602 _ _ (eG1587 _ _ (eG1583 _ _ (eG1551 _ _ (eG1547 _ _ (eG1521 _ _ (eG1517 _ _ (eG1502 _ _ (eG1457 _ _ (eG1453 _ _ (eG1427 _ _ (eG1423 _ _ (eG1407 _ _ (eG1403 _ _ h1276)))))))))))))))), a1638, _, rfl, _, rfl, _, _, _, _, rfl, rfl, (SqL.of (S1634.sG _ _ (eG1602 _ _ (eG1587 _ _ (eG1583 _ _ (eG1551 _ _ (eG1547 _ _ (eG1521 _ _ (eG1517 _ _ (eG1502 _ _ (eG1457 _ _ (eG1453 _ _ (eG1427 _ _ (eG1423 _ _ (eG1407 _ _ (eG1403 _ _ h1276)))))))))))))))), a1650, (by show 2 ≤ sizeLine; decide), fun p1660 n1661 => ?_⟩
          generalize g1662 : upd H1629 p1660 _ = H1663
          obtain ⟨e1664, h1665⟩ := gen_new n1661 g1662
          have h1666 : H1663 p1660 = some (.lst ([V.ref a1640, V.ref a1652])) := h1665
          have fr1667 := S1634.free n1661
          have S1668 := S1634.new n1661 e1664 h1666 fr1667
          have d1669 : RpAll G1601 ([V.ref a1640, V.ref a1652]) (([(itD (entries') ((((cell' / 3) % ((((entries') : (List (Int × (List Int)))).length : Int) - 1)) + 1))), (itD (entries') (((cell' / 3) % ((((entries') : (List (Int × (List Int)))).length : Int) - 1))))] : (List (Int × (List Int)))).map (encT2 PyData.int (encL PyData.int))) := (RpAll.cons (rp_mk2 h1641 (.int _) (rp_mk_ints h1647)) (RpAll.cons (rp_mk2 h1653 (.int _) (rp_mk_ints h1659)) RpAll.nil))
          obtain ⟨g1670, hw⟩ := cW_grd hw
          have h1671 := (e1664 _ _ h1632)
          obtain ⟨G1672, eG1673, hg1674, S1675⟩ := Sep.freeze (O' := [p1660, p1605, p1554, p1460]) S1668 (.tail _ (.head _)) h1671 fr1633 ((all_cons ⟨(.head _), (ne_of_none h1632 n1661).symm⟩ (all_cons ⟨(.tail _ (.tail _ (.head _))), (ne_of_none h1611 n1627)⟩ (all_cons ⟨(.tail _ (.tail _ (.tail _ (.head _)))), (ne_of_none (e1609 _ _ (e1594 _ _ (e1577 _ _ (e1568 _ _ h1560)))) n1627)⟩ (all_cons ⟨(.tail _ (.tail _ (.tail _ (.tail _ (.head _))))), (ne_of_none (e1609 _ _ (e1594 _ _ (e1577 _ _ (e1568 _ _ (e1558 _ _ (e1538 _ _ (e1528 _ _ (e1508 _ _ (e1496 _ _ (e1474 _ _ h1466)))))))))) n1627)⟩ all_nil)))))
          obtain ⟨G1676, eG1677, hg1678, S1679⟩ := Sep.freeze (O' := [p1605, p1554, p1460]) S1675 (.head _) h1666 fr1667 ((all_cons ⟨(.tail _ (.head _)), (ne_of_none (e1630 _ _ h1611) n1661)⟩ (all_cons ⟨(.tail _ (.tail _ (.head _))), (ne_of_none (e1630 _ _ (e1609 _ _ (e1594 _ _ (e1577 _ _ (e1568 _ _ h1560))))) n1661)⟩ (all_cons ⟨(.tail _ (.tail _ (.tail _ (.head _)))), (ne_of_none (e1630 _ _ (e1609 _ _ (e1594 _ _ (e1577 _ _ (e1568 _ _ (e1558 _ _ (e1538 _ _ (e1528 _ _ (e1508 _ _ (e1496 _ _ (e1474 _ _ h1466))))))))))) n1661)⟩ all_nil))))
          refine ⟨_, _, _, _, rfl, rfl, h1671, h1666, (cat_len d1635 d1669 g1670), fun p1680 n1681 => ?_⟩
          generalize g1682 : upd H1663 p1680 _ = H1683
          obtain ⟨e1684, h1685⟩ := gen_new n1681 g1682
          have h1686 : H1683 p1680 = some (.lst (cutV (vs1275) none (some (((cell' / 3) % ((((entries') : (List (Int × (List Int)))).length : Int) - 1)))) ++ [V.ref a1640, V.ref a1652])) := h1685
          have fr1687 := S1679.free n1681
          have S1688 := S1679.new n1681 e1684 h1686 fr1687
          have d1689 : RpAll G1676 (cutV (vs1275) none (some (((cell' / 3) % ((((entries') : (List (Int × (List Int)))).length : Int) - 1)))) ++ [V.ref a1640, V.ref a1652]) (((cutL (entries') none (some (((cell' / 3) % ((((entries') : (List (Int × (List Int)))).length : Int) - 1))))) ++ ([(itD (entries') ((((cell' / 3) % ((((entries') : (List (Int × (List Int)))).length : Int) - 1)) + 1))), (itD (entries') (((cell' / 3) % ((((entries') : (List (Int × (List Int)))).length : Int) - 1))))]) : (List (Int × (List Int)))).map (encT2 PyData.int (encL PyData.int))) := app_map (RpAll.mono eG1677 (RpAll.mono eG1673 d1635)) (RpAll.mono eG1677 (RpAll.mono eG1673 d1669))
          refine ⟨_, rfl, _, rfl, _, _, rfl, rfl, _, rfl, _, _, rfl, (SqL.of (S1688.sG _ _ (eG1677 _ _ (eG1673 _ _ (eG1602 _ _ (eG1587 _ _ (eG1583 _ _ (eG1551 _ _ (eG1547 _ _ (eG1521 _ _ (eG1517 _ _ (eG1502 _ _ (eG1457 _ _ (eG1453 _ _ (eG1427 _ _ (eG1423 _ _ (eG1407 _ _ (eG1403 _ _ h1276)))))))))))))))))), fun p1690 n1691 => ?_⟩
          generalize g1692 : upd H1683 p1690 _ = H1693
          obtain ⟨e1694, h1695⟩ := gen_new n1691 g1692
          have h1696 : H1693 p1690 = some (.lst (cutV (vs1275) (some ((((cell' / 3) % ((((entries') : (List (Int × (List Int)))).length : Int) - 1)) + 2))) none)) := h1695
          have fr1697 := S1688.free n1691
          have S1698 := S1688.new n1691 e1694 h1696 fr1697
          have d1699 : RpAll G1676 (cutV (vs1275) (some ((((cell' / 3) % ((((entries') : (List (Int × (List Int)))).length : Int) - 1)) + 2))) none) ((cutL (entries') (some ((((cell' / 3) % ((((entries') : (List (Int × (List Int)))).length : Int) - 1)) + 2))) none : (List (Int × (List Int)))).map (encT2 PyData.int (encL PyData.int))) := cut_all (some ((((cell' / 3) % ((((entries') : (List (Int × (List Int)))).length : Int) - 1)) + 2))) none (RpAll.mono eG1677 (RpAll.mono eG1673 (RpAll.mono eG1602 (RpAll.mono eG1587 (RpAll.mono eG1583 (RpAll.mono eG1551 (RpAll.mono eG1547 (RpAll.mono eG1521 (RpAll.mono eG1517 (RpAll.mono eG1502 (RpAll.mono eG1457 (RpAll.mono eG1453 (RpAll.mono eG1427 (RpAll.mono eG1423 (RpAll.mono eG1407 (RpAll.mono eG1403 d1277))))))))))))))))
          obtain ⟨g1700, hw⟩ := cW_grd hw
          have h1701 := (e1694 _ _ h1686)
          obtain ⟨G1702, eG1703, hg1704, S1705⟩ := Sep.freeze (O' := [p1690, p1605, p1554, p1460]) S1698 (.tail _ (.head _)) h1701 fr1687 ((all_cons ⟨(.head _), (ne_of_none h1686 n1691).symm⟩ (all_cons ⟨(.tail _ (.tail _ (.head _))), (ne_of_none (e1664 _ _ (e1630 _ _ h1611)) n1681)⟩ (all_cons ⟨(.tail _ (.tail _ (.tail _ (.head _)))), (ne_of_none (e1664 _ _ (e1630 _ _ (e1609 _ _ (e1594 _ _ (e1577 _ _ (e1568 _ _ h1560)))))) n1681)⟩ (all_cons ⟨(.tail _ (.tail _ (.tail _ (.tail _ (.head _))))), (ne_of_none (e1664 _ _ (e1630 _ _ (e1609 _ _ (e1594 _ _ (e1577 _ _ (e1568 _ _ (e1558 _ _ (e1538 _ _ (e1528 _ _ (e1508 _ _ (e1496 _ _ (e1474 _ _ h1466)))))))))))) n1681)⟩ all_nil)))))
          obtain ⟨G1706, eG1707, hg1708, S1709⟩ := Sep.freeze (O' := [p1605, p1554, p1460]) S1705 (.head _) h1696 fr1697 ((all_cons ⟨(.tail _ (.head _)), (ne_of_none (e1684 _ _ (e1664 _ _ (e1630 _ _ h1611))) n1691)⟩ (all_cons ⟨(.tail _ (.tail _ (.head _))), (ne_of_none (e1684 _ _ (e1664 _ _ (e1630 _ _ (e1609 _ _ (e1594 _ _ (e1577 _ _ (e1568 _ _ h1560))))))) n1691)⟩ (all_cons ⟨(.tail _ (.tail _ (.tail _ (.head _)))), (ne_of_none (e1684 _ _ (e1664 _ _ (e1630 _ _ (e1609 _ _ (e1594 _ _ (e1577 _ _ (e1568 _ _ (e1558 _ _ (e1538 _ _ (e1528 _ _ (e1508 _ _ (e1496 _ _ (e1474 _ _ h1466))))))))))))) n1691)⟩ all_nil))))
          refine ⟨_, _, _, _, rfl, rfl, h1701, h1696, (cat_len d1689 d1699 g1700), fun p1710 n1711 => ?_⟩
          generalize g1712 : upd H1693 p1710 _ = H1713
          obtain ⟨e1714, h1715⟩ := gen_new n1711 g1712
          have h1716 : H1713 p1710 = some (.lst (cutV (vs1275) none (some (((cell' / 3) % ((((entries') : (List (Int × (List Int)))).length : Int) - 1)))) ++ [V.ref a1640, V.ref a1652] ++ cutV (vs1275) (some ((((cell' / 3) % ((((entries') : (List (Int × (List Int)))).length : Int) - 1)) + 2))) none)) := h1715
          have fr1717 := S1709.free n1711
          have S1718 := S1709.new n1711 e1714 h1716 fr1717
          have d1719 : RpAll G1706 (cutV (vs1275) none (some (((cell' / 3) % ((((entries') : (List (Int × (List Int)))).length : Int) - 1)))) ++ [V.ref a1640, V.ref a1652] ++ cutV (vs1275) (some ((((cell' / 3) % ((((entries') : (List (Int × (List Int)))).length : Int) - 1)) + 2))) none) ((((cutL (entries') none (some (((cell' / 3) % ((((entries') : (List (Int × (List Int)))).length : Int) - 1))))) ++ ([(itD (entries') ((((cell' / 3) % ((((entries') : (List (Int × (List Int)))).length : Int) - 1)) + 1))), (itD (entries') (((cell' / 3) % ((((entries') : (List (Int × (List Int)))).length : Int) - 1))))])) ++ (cutL (entries') (some ((((cell' / 3) % ((((entries') : (List (Int × (List Int)))).length : Int) - 1)) + 2))) none) : (List (Int × (List Int)))).map (encT2 PyData.int (encL PyData.int))) := app_map (RpAll.mono eG1707 (RpAll.mono eG1703 d1689)) (RpAll.mono eG1707 (RpAll.mono eG1703 d1699))
          refine ⟨_, rfl, rfl, rfl, G1706, _, _, rfl, S1718.sG, (Rp.hide_nil (rp_mk_list h1716 (RpAll.mono S1718.sG d1719))), cW_call hw (fun v1720 hw p1723 H1721 n1724 e1722 h1725 => ?_) (fun e he H2 e2 => hE e he H2 (Same.trans S1718.b0 e2))⟩
          have h1726 : H1721 p1723 = some (.lst ((v1720 : (List Int)).map V.int)) := h1725
          have fr1727 := S1718.free n1724
          have S1728 := S1718.new n1724 e1722 h1726 fr1727
          have h1729 := (e1722 _ _ h1716)
          refine ⟨_, rfl, rfl, rfl, G1706, _, _, rfl, S1728.sG, (Rp.hide_nil (rp_mk_list h1729 (RpAll.mono S1728.sG d1719))), cW_call hw (fun v1730 hw H1731 e1732 => ?_) (fun e he H2 e2 => hE e he H2 (Same.trans S1728.b0 e2))⟩
          have S1733 := S1728.same e1732
          refine ⟨_, rfl, ?_⟩
          refine iteBN (fun c1734 => ?_) (fun c1734 => ?_)
          · have hw := cW_negB c1734 hw
            refine iteT ?_
            have hw := cW_ok hw
            have hw := hK1622 (.rt _) hw
            have hw := cW_ok hw
            exact hK0 _ hw _ S1733.b0
          · have hw := cW_pos c1734 hw
            have h1735 := (e1732 _ _ h1726)
            refine ⟨_, rfl, rfl, rfl, G1706, _, _, rfl, S1733.sG, (hide_nil h1735), cW_call hw (fun v1736 hw p1739 vs1740 H1737 G1741 n1742 e1738 eG1743 sG1744 hn1745 gp1746 h1747 d1748 => ?_) (fun e he H2 e2 => hE e he H2 (Same.trans S1733.b0 e2))⟩
            have fr1750 := S1733.free n1742
            have S1749 := S1733.stepnew e1738 eG1743 sG1744 hn1745 n1742 h1747 gp1746 fr1750
            refine ⟨_, _, _, rfl, (SqL.of h1747), (by rw [d1748.len, List.length_map]), _, _, rfl, rfl, _, rfl, ?_⟩
            refine iteD (fun c1751 => ?_) (fun c1751 => ?_)
            · have hw := cW_pos c1751 hw
              refine iteT ?_
              have hw := cW_ok hw
              have hw := hK1622 (.rt _) hw
              have hw := cW_ok hw
              exact hK0 _ hw _ S1749.b0
            · have hw := cW_neg c1751 hw
              obtain ⟨g1752, hw⟩ := cW_grd hw
              obtain ⟨v1753, a1754, r1755⟩ := RpAll.ixD (k := ((cell' / 3) % ((((entries') : (List (Int × (List Int)))).length : Int) - 1))) (RpAll.mono eG1743 (RpAll.mono eG1707 (RpAll.mono eG1703 (RpAll.mono eG1677 (RpAll.mono eG1673 (RpAll.mono eG1602 (RpAll.mono eG1587 (RpAll.mono eG1583 (RpAll.mono eG1551 (RpAll.mono eG1547 (RpAll.mono eG1521 (RpAll.mono eG1517 (RpAll.mono eG1502 (RpAll.mono eG1457 (RpAll.mono eG1453 (RpAll.mono eG1427 (RpAll.mono eG1423 (RpAll.mono eG1407 (RpAll.mono eG1403 d1277))))))))))))))))))) g1752
              obtain ⟨a1756, v1758, v1759, rfl, h1757, r1760, r1761⟩ := rp_tup2 r1755
              obtain rfl := rp_int r1760
              obtain ⟨a1762, rfl, h1763⟩ := rp_ints r1761
              have h1764 := (e1738 _ _ h1735)
              refine ⟨_, rfl, _, rfl, _, rfl, _, _, _, _, rfl, rfl, (SqL.of (S1749.sG _ _ (eG1743 _ _ (eG1707 _ _ (eG1703 _ _ (eG1677 _ _ (eG1673 _ _ (eG1602 _ _ (eG1587 _ _ (eG1583 _ _ (eG1551 _ _ (eG1547 _ _ (eG1521 _ _ (eG1517 _ _ (eG1502 _ _ (eG1457 _ _ (eG1453 _ _ (eG1427 _ _ (eG1423 _ _ (eG1407 _ _ (eG1403 _ _ h1276))))))))))))))))))))), a1754, _, _, _, _, rfl, rfl, (SqT.of (S1749.sG _ _ h1757)), rfl, rfl, rfl, G1741, _, _, _, rfl, S1749.sG, (hide_nil h1764), cW_call hw (fun v1765 hw H1766 e1767 => ?_) (fun e he H2 e2 => hE e he H2 (Same.trans S1749.b0 e2))⟩
              have S1768 := S1749.same e1767
              refine ⟨_, rfl, ?_⟩
              refine iteBN (fun c1769 => ?_) (fun c1769 => ?_)
              · have hw := cW_negB c1769 hw
                have hw := cW_ok hw
                have hw := hK1622 (.rt _) hw
                have hw := cW_ok hw
                exact hK0 _ hw _ S1768.b0
              · have hw := cW_pos c1769 hw
                have h1770 := (e1767 _ _ (e1738 _ _ (e1732 _ _ (e1722 _ _ (e1714 _ _ (e1694 _ _ (e1684 _ _ (e1664 _ _ (e1630 _ _ (e1609 _ _ (e1594 _ _ (e1577 _ _ (e1568 _ _ (e1558 _ _ (e1538 _ _ (e1528 _ _ (e1508 _ _ (e1496 _ _ (e1474 _ _ h1466)))))))))))))))))))
                refine ⟨_, rfl, rfl, rfl, G1741, _, _, rfl, S1768.sG, (Rp.hide_nil (rp_mk_list h1770 (RpAll.mono S1768.sG (RpAll.mono eG1743 (RpAll.mono eG1707 (RpAll.mono eG1703 (RpAll.mono eG1677 (RpAll.mono eG1673 (RpAll.mono eG1602 (RpAll.mono eG1587 (RpAll.mono eG1583 (RpAll.mono eG1551 (RpAll.mono eG1547 (RpAll.mono eG1521 (RpAll.mono eG1517 (RpAll.mono eG1502 d1469)))))))))))))))), cW_call hw (fun v1771 hw p1774 H1772 n1775 e1773 h1776 => ?_) (fun e he H2 e2 => hE e he H2 (Same.trans S1768.b0 e2))⟩
                have h1777 : H1772 p1774 = some (.lst ((v1771 : (List Int)).map V.int)) := h1776
                have fr1778 := S1768.free n1775
                have S1779 := S1768.new n1775 e1773 h1777 fr1778
                refine ⟨_, rfl, rfl, rfl, G1741, _, _, rfl, S1779.sG, (hide_nil h1777), cW_call hw (fun v1780 hw p1783 vs1784 H1781 G1785 n1786 e1782 eG1787 sG1788 hn1789 gp1790 h1791 d1792 => ?_) (fun e he H2 e2 => hE e he H2 (Same.trans S1779.b0 e2))⟩
                have fr1794 := S1779.free n1786
                have S1793 := S1779.stepnew e1782 eG1787 sG1788 hn1789 n1786 h1791 gp1790 fr1794
                refine ⟨_, _, _, rfl, (SqL.of h1791), (by rw [d1792.len, List.length_map]), _, _, rfl, rfl, _, rfl, ?_⟩
                refine iteD (fun c1795 => ?_) (fun c1795 => ?_)
                · have hw := cW_pos c1795 hw
                  refine iteT ?_
                  have hw := cW_ok hw
                  have hw := hK1622 (.rt _) hw
                  have hw := cW_ok hw
                  exact hK0 _ hw _ S1793.b0
                · have hw := cW_neg c1795 hw
                  obtain ⟨g1796, hw⟩ := cW_grd hw
                  obtain ⟨v1797, a1798, r1799⟩ := RpAll.ixD (k := (cell' % (((entries') : (List (Int × (List Int)))).length : Int))) (RpAll.mono eG1787 (RpAll.mono eG1743 (RpAll.mono eG1707 (RpAll.mono eG1703 (RpAll.mono eG1677 (RpAll.mono eG1673 (RpAll.mono eG1602 (RpAll.mono eG1587 (RpAll.mono eG1583 (RpAll.mono eG1551 (RpAll.mono eG1547 (RpAll.mono eG1521 (RpAll.mono eG1517 (RpAll.mono eG1502 (RpAll.mono eG1457 (RpAll.mono eG1453 (RpAll.mono eG1427 (RpAll.mono eG1423 (RpAll.mono eG1407 (RpAll.mono eG1403 d1277)))))))))))))))))))) g1796
                  obtain ⟨a1800, v1802, v1803, rfl, h1801, r1804, r1805⟩ := rp_tup2 r1799
                  obtain rfl := rp_int r1804
                  obtain ⟨a1806, rfl, h1807⟩ := rp_ints r1805
                  have h1808 := (e1782 _ _ h1777)
                  refine ⟨_, rfl, _, rfl, _, rfl, _, _, _, _, rfl, rfl, (SqL.of (S1793.sG _ _ (eG1787 _ _ (eG1743 _ _ (eG1707 _ _ (eG1703 _ _ (eG1677 _ _ (eG1673 _ _ (eG1602 _ _ (eG1587 _ _ (eG1583 _ _ (eG1551 _ _ (eG1547 _ _ (eG1521 _ _ (eG1517 _ _ (eG1502 _ _ (eG1457 _ _ (eG1453 _ _ (eG1427 _ _ (eG1423 _ _ (eG1407 _ _ (eG1403 _ _ h1276)))))))))))))))))))))), a1798, _, _, _, _, rfl, rfl, (SqT.of (S1793.sG _ _ h1801)), rfl, rfl, rfl, G1785, _, _, _, rfl, S1793.sG, (hide_nil h1808), cW_call hw (fun v1809 hw H1810 e1811 => ?_) (fun e he H2 e2 => hE e he H2 (Same.trans S1793.b0 e2))⟩
                  have S1812 := S1793.same e1811
                  refine ⟨_, rfl, ?_⟩
                  refine iteBN (fun c1813 => ?_) (fun c1813 => ?_)
                  · have hw := cW_negB c1813 hw
                    have hw := cW_ok hw
                    have hw := hK1622 (.rt _) hw
                    have hw := cW_ok hw
                    exact hK0 _ hw _ S1812.b0
                  · have hw := cW_pos c1813 hw
                    have hw := cW_ok hw
                    have hw := cW_aftgo (hK1622 (.go _) hw)
                    have h1814 := (e1811 _ _ (e1782 _ _ (e1773 _ _ h1770)))
                    have h1815 := (e1811 _ _ (e1782 _ _ (e1773 _ _ (e1767 _ _ (e1738 _ _ (e1732 _ _ (e1722 _ _ (e1714 _ _ (e1694 _ _ (e1684 _ _ (e1664 _ _ (e1630 _ _ (e1609 _ _ (e1594 _ _ (e1577 _ _ (e1568 _ _ h1560))))))))))))))))
                    have h1816 := (e1811 _ _ (e1782 _ _ (e1773 _ _ (e1767 _ _ (e1738 _ _ (e1732 _ _ (e1722 _ _ (e1714 _ _ (e1694 _ _ (e1684 _ _ (e1664 _ _ (e1630 _ _ h1611))))))))))))
                    exact ⟨_, _, _, _, rfl, (Same.trans (Same.trans (Same.trans (Same.trans (Same.trans eG1673 eG1677) eG1703) eG1707) eG1743) eG1787), (S1812.sub (all_cons (.tail _ (.tail _ (.tail _ (.tail _ (.tail _ (.tail _ (.tail _ (.head _)))))))) (all_cons (.tail _ (.tail _ (.tail _ (.tail _ (.tail _ (.tail _ (.head _))))))) (all_cons (.tail _ (.tail _ (.tail _ (.tail _ (.tail _ (.head _)))))) all_nil)))), h1814, h1815, h1816, hw⟩
        · have hw := cW_neg c1623 hw
          have hw := cW_ok hw
          have hw := cW_aftgo (hK1622 (.go _) hw)
          have h1817 := (e1609 _ _ (e1594 _ _ (e1577 _ _ (e1568 _ _ (e1558 _ _ (e1538 _ _ (e1528 _ _ (e1508 _ _ (e1496 _ _ (e1474 _ _ h1466))))))))))
          have h1818 := (e1609 _ _ (e1594 _ _ (e1577 _ _ (e1568 _ _ h1560))))
          exact ⟨_, _, _, _, rfl, (Same.refl _), (S1613.sub (all_cons (.tail _ (.tail _ (.head _))) (all_cons (.tail _ (.head _)) (all_cons (.head _) all_nil)))), h1817, h1818, h1611, hw⟩
      · intro σ H1819 hw
        obtain ⟨u1618, u1619, u1620, G1824, rfl, eG1825, S1820, h1821, h1822, h1823, hw⟩ := hw
        unfold F__law_bad_k1 at hw
        refine ⟨_, rfl, rfl, rfl, G1824, _, _, rfl, S1820.sG, (Rp.hide_nil (rp_mk_list h1821 (RpAll.mono S1820.sG (RpAll.mono eG1825 (RpAll.mono eG1602 (RpAll.mono eG1587 (RpAll.mono eG1583 (RpAll.mono eG1551 (RpAll.mono eG1547 (RpAll.mono eG1521 (RpAll.mono eG1517 (RpAll.mono eG1502 d1469)))))))))))), cW_call hw (fun v1826 hw H1827 e1828 => ?_) (fun e he H2 e2 => hE e he H2 (Same.trans S1820.b0 e2))⟩
        have S1829 := S1820.same e1828
        refine ⟨_, rfl, ?_⟩
        refine iteB (fun c1830 => ?_) (fun c1830 => ?_)
        · have hw := cW_pos c1830 hw
          have h1831 := (e1828 _ _ h1822)
          refine ⟨_, rfl, rfl, rfl, G1824, _, _, rfl, S1829.sG, (Rp.hide_nil (rp_mk_list h1831 (RpAll.mono S1829.sG (RpAll.mono eG1825 (RpAll.mono eG1602 (RpAll.mono eG1587 (RpAll.mono eG1583 d1563))))))), cW_call hw (fun v1832 hw H1833 e1834 => ?_) (fun e he H2 e2 => hE e he H2 (Same.trans S1829.b0 e2))⟩
          have S1835 := S1829.same e1834
          refine ⟨_, rfl, ?_⟩
          refine iteB (fun c1836 => ?_) (fun c1836 => ?_)
          · have hw := cW_pos c1836 hw
            have h1837 := (e1834 _ _ (e1828 _ _ h1823))
            refine ⟨_, rfl, rfl, rfl, G1824, _, _, rfl, S1835.sG, (Rp.hide_nil (rp_mk_list h1837 (RpAll.mono S1835.sG (RpAll.mono eG1825 d1614)))), cW_call hw (fun v1838 hw H1839 e1840 => ?_) (fun e he H2 e2 => hE e he H2 (Same.trans S1835.b0 e2))⟩
            have S1841 := S1835.same e1840
            have hw := cW_ok hw
            exact hK0 _ hw _ S1841.b0
          · have hw := cW_negB c1836 hw
            have hw := cW_ok hw
            exact hK0 _ hw _ S1835.b0
        · have hw := cW_negB c1830 hw
          have hw := cW_ok hw
          exact hK0 _ hw _ S1829.b0

abbrev N__law_seek : List Str := ["entries", "octets", "time", "first", "k", "due", "entry"]
theorem sc__law_seek : FnScope N__law_seek ["entries", "octets", "time"] (defScope s__law_seek) := ⟨rfl, rfl, rfl, by decide +kernel, rfl, by decide +kernel, by decide +kernel⟩
theorem ok__law_seek (D : DefX K mg "_law_seek" s__law_seek ["entries", "octets", "time"] pats__law_seek) (T : Txt K mg AD) (c_seek_container : CalX P w K mg base 4 "seek_container" (sp_seek_container K AD) pats_seek_container) : CalX P w K mg base 5 "_law_seek" (sp__law_seek K AD) pats__law_seek := by
  refine D.ok sc__law_seek (fun vs H Q E h => ?_) (fun f cdv A_ outer s H vs Q E hr h => ?_)
  · obtain ⟨G, v_entries, entries', a_octets, octets', time', rfl, _⟩ := h
    rfl
  · obtain ⟨G, v_entries, entries', a_octets, octets', time', rfl, sG, r_entries, q_octets, hw⟩ := h
    refine ⟨_, (pss_cons (ps_set (i := 3) sc__law_seek.nd rfl (Or.inl rfl) pe_int)
      (pss_cons (ps_for (passes_of rfl) rfl (pi_range1 rfl T.b_range (pa_cons (pe_callB (call_lenLK (K := K)) (by rfl) T.b_len (by decide +kernel) (pa_cons (pv 0) pa_nil)) pa_nil)) (pg_name (i := 4) sc__law_seek.nd rfl (Or.inl rfl)) (pss_one (ps_if (pt_cmp (pc_le (pe_ix (ix_tupK (K := K)) (pe_ix (ix_listK (K := K)) (pv 0) (pv 4) (fun _ _ => rfl)) pe_int (fun _ _ => rfl)) (pv 2))) (pss_one (ps_set (i := 3) sc__law_seek.nd rfl (Or.inl rfl) (pv 4))) pss_nil)))
      (pss_cons (ps_set (i := 5) sc__law_seek.nd rfl (Or.inl rfl) (pe_lst pa_nil))
      (pss_cons (ps_for (passes_of rfl) rfl (pi_listK (K := K) (pe_slice (sl_listK (K := K)) (pv 0) (po_some (pv 3)) po_none)) (pg_name (i := 6) sc__law_seek.nd rfl (Or.inl rfl)) (pss_one (ps_set (i := 5) sc__law_seek.nd rfl (Or.inl rfl) (pe_op op_cat (pv 5) (pe_ix (ix_tupK (K := K)) (pv 6) pe_int (fun _ _ => rfl))))))
      (pss_one (ps_ret (pe_cmpR (op_eqT (encOk_L encOk_int) hr.units) (vx_callX c_seek_container pat_seek_container_0 (.head _) hr (by decide) (takes_of rfl rfl rfl rfl) rfl (pa_cons (pv 1) (pa_cons (pv 2) pa_nil)) pk_nil) (pv 5) (nomark _)))))))), ?_⟩
    obtain ⟨KK, EE, hK0, hE, hw⟩ := cW_gen hw
    have S0 := Sep.startG sG
    unfold F__law_seek at hw
    obtain ⟨a1842, vs1843, rfl, h1844, d1845⟩ := rp_list r_entries
    obtain ⟨g1846, hw⟩ := cW_grd hw
    obtain ⟨K1852, hK1853, hw⟩ := cW_push hw
    refine ⟨_, rfl, _, _, _, rfl, (SqL.of (S0.sG _ _ h1844)), (by rw [d1845.len, List.length_map]), _, rfl, g1846.1, g1846.2, for_range (lo := 0) (n := Int.toNat ((((entries') : (List (Int × (List Int)))).length : Int))) (fun i σ H' => ∃ (first_1854 : Int) (u1855 : Option V) (G' : Hp), σ = [some (V.ref a1842), some (V.ref a_octets), some (V.int (time')), some (V.int first_1854), u1855, none, none] ∧ Same G G' ∧ Sep [] H G G' H' [] ∧ cW (forS (List.drop i (rng (0) (Int.toNat ((((entries') : (List (Int × (List Int)))).length : Int))))) first_1854 (fun s x => F__law_seek_b1 (entries') (time') s x)) K1852 EE) ?_ ?_ ?_⟩
    · exact ⟨(0), _, _, rfl, (Same.refl _), S0, hw⟩
    · intro i σ H1856 hi hw
      obtain ⟨first_1854, u1855, G1858, rfl, eG1859, S1857, hw⟩ := hw
      have hw := cW_forS (rng_get hi) hw
      generalize (0 + (i : Int)) = x1860 at hw ⊢
      have hw : cW (F__law_seek_b1 (entries') (time') (first_1854) (x1860)) _ EE := hw
      unfold F__law_seek_b1 at hw
      obtain ⟨K1862, hK1863, hw⟩ := cW_name hw
      obtain ⟨g1865, hw⟩ := cW_grd hw
      obtain ⟨v1866, a1867, r1868⟩ := RpAll.ixD (k := x1860) (RpAll.mono eG1859 d1845) g1865
      obtain ⟨a1869, v1871, v1872, rfl, h1870, r1873, r1874⟩ := rp_tup2 r1868
      obtain rfl := rp_int r1873
      obtain ⟨a1875, rfl, h1876⟩ := rp_ints r1874
      refine ⟨_, rfl, _, rfl, _, _, _, _, rfl, rfl, (SqL.of (S1857.sG _ _ (eG1859 _ _ h1844))), a1867, _, _, _, _, rfl, rfl, (SqT.of (S1857.sG _ _ h1870)), rfl, _, rfl, _, _, rfl, rfl, _, rfl, ?_⟩
      refine iteD (fun c1877 => ?_) (fun c1877 => ?_)
      · have hw := cW_pos c1877 hw
        refine ⟨_, rfl, ?_⟩
        have hw := cW_ok hw
        have hw := hK1863 _ hw
        exact ⟨(x1860), _, _, rfl, eG1859, S1857, hw⟩
      · have hw := cW_neg c1877 hw
        have hw := cW_ok hw
        have hw := hK1863 _ hw
        exact ⟨(first_1854), _, _, rfl, eG1859, S1857, hw⟩
    · intro σ H1878 hw
      obtain ⟨first_1854, u1855, G1880, rfl, eG1881, S1879, hw⟩ := hw
      have hw := hK1853 _ (cW_forS0 (rng_len _ _).symm hw)
      have hw : cW (F__law_seek_r1 (entries') (octets') (time') (first_1854)) _ EE := hw
      unfold F__law_seek_r1 at hw
      refine ⟨(by show 0 ≤ sizeLine; decide), fun p1883 n1884 => ?_⟩
      generalize g1885 : upd H1878 p1883 _ = H1886
      obtain ⟨e1887, h1888⟩ := gen_new n1884 g1885
      have h1889 : H1886 p1883 = some (.lst ((([] : (List Int)) : (List Int)).map V.int)) := h1888
      have fr1890 := S1879.free n1884
      have S1891 := S1879.new n1884 e1887 h1889 fr1890
      refine ⟨_, rfl, _, rfl, _, rfl, _, _, rfl, (SqL.of (S1891.sG _ _ (eG1881 _ _ h1844))), fun p1892 n1893 => ?_⟩
      generalize g1894 : upd H1886 p1892 _ = H1895
      obtain ⟨e1896, h1897⟩ := gen_new n1893 g1894
      have h1898 : H1895 p1892 = some (.lst (cutV (vs1843) (some (first_1854)) none)) := h1897
      have fr1899 := S1891.free n1893
      have S1900 := S1891.new n1893 e1896 h1898 fr1899
      have d1901 : RpAll G1880 (cutV (vs1843) (some (first_1854)) none) ((cutL (entries') (some (first_1854)) none : (List (Int × (List Int)))).map (encT2 PyData.int (encL PyData.int))) := cut_all (some (first_1854)) none (RpAll.mono eG1881 d1845)
      obtain ⟨K1904, hK1905, hw⟩ := cW_push hw
      refine ⟨_, rfl, ⟨_, (SqL.of h1898)⟩, for_list (K := K) (a := p1892) (xs := cutV (vs1843) (some (first_1854)) none) (fun i σ H' => ∃ (p1907 : Addr) (due_1906 : (List Int)) (u1908 : Option V) (G' : Hp), σ = [some (V.ref a1842), some (V.ref a_octets), some (V.int (time')), some (V.int (first_1854)), u1855, some (V.ref p1907), u1908] ∧ Same G1880 G' ∧ Sep [] H G G' H' [p1907, p1892] ∧ H' p1907 = some (.lst ((due_1906 : (List Int)).map V.int)) ∧ H' p1892 = some (.lst (cutV (vs1843) (some (first_1854)) none)) ∧ H p1907 = none ∧ p1907 ≠ p1892 ∧ cW (forS (List.drop i (cutL (entries') (some (first_1854)) none)) due_1906 (fun s x => F__law_seek_b2  s x)) K1904 EE) ?_ ?_ ?_ ?_⟩
      · have h1909 := (e1896 _ _ h1889)
        exact ⟨_, (([] : (List Int))), _, _, rfl, (Same.refl _), (S1900.sub (all_cons (.tail _ (.head _)) (all_cons (.head _) all_nil))), h1909, h1898, fr1890, (ne_of_none h1889 n1893), hw⟩
      · intro i σ H1910 _ hw
        obtain ⟨p1907, due_1906, u1908, G1916, rfl, eG1917, S1911, h1912, h1913, fr1914, ne1915, hw⟩ := hw
        exact (SqL.of h1913)
      · intro i x σ H1918 hj hw
        obtain ⟨p1907, due_1906, u1908, G1924, rfl, eG1925, S1919, h1920, h1921, fr1922, ne1923, hw⟩ := hw
        obtain ⟨x1926, hx, r1927⟩ := RpAll.get (RpAll.mono eG1925 d1901) hj
        obtain ⟨a1928, v1930, v1931, rfl, h1929, r1932, r1933⟩ := rp_tup2 r1927
        obtain rfl := rp_int r1932
        obtain ⟨a1934, rfl, h1935⟩ := rp_ints r1933
        have hw := cW_forS hx hw
        have hw : cW (F__law_seek_b2  (due_1906) (x1926)) _ EE := hw
        unfold F__law_seek_b2 at hw
        obtain ⟨K1937, hK1938, hw⟩ := cW_name hw
        obtain ⟨g1940, hw⟩ := cW_grd hw
        refine ⟨_, rfl, _, rfl, _, _, _, _, rfl, rfl, (SqT.of (S1919.sG _ _ h1929)), rfl, _, _, _, _, rfl, rfl, h1920, (S1919.sG _ _ h1935), (cat_lenM g1940), fun p1941 n1942 => ?_⟩
        generalize g1943 : upd H1918 p1941 _ = H1944
        obtain ⟨e1945, h1946⟩ := gen_new n1942 g1943
        have h1947 : H1944 p1941 = some (.lst (((due_1906) ++ (x1926.2) : (List Int)).map V.int)) := cat_map h1946
        have fr1948 := S1919.free n1942
        have S1949 := S1919.new n1942 e1945 h1947 fr1948
        have hw := cW_ok hw
        have hw := hK1938 _ hw
        have h1950 := (e1945 _ _ h1921)
        exact ⟨_, ((due_1906) ++ (x1926.2)), _, _, rfl, eG1925, (S1949.sub (all_cons (.head _) (all_cons (.tail _ (.tail _ (.head _))) all_nil))), h1947, h1950, fr1948, (ne_of_none h1921 n1942).symm, hw⟩
      · intro σ H1951 hw
        obtain ⟨p1907, due_1906, u1908, G1957, rfl, eG1958, S1952, h1953, h1954, fr1955, ne1956, hw⟩ := hw
        have hw := hK1905 _ (cW_forS0 (by rw [(RpAll.mono eG1958 d1901).len, List.length_map]) hw)
        have hw : cW (F__law_seek_r2 (octets') (time') (due_1906)) _ EE := hw
        unfold F__law_seek_r2 at hw
        refine ⟨_, rfl, _, rfl, rfl, rfl, G1957, _, _, _, rfl, S1952.sG, (hide_nil (S1952.bM _ _ q_octets)), cW_call hw (fun v1960 hw p1963 H1961 n1964 e1962 h1965 => ?_) (fun e he H2 e2 => hE e he H2 (Same.trans S1952.b0 e2))⟩
        have h1966 : H1961 p1963 = some (.lst ((v1960 : (List Int)).map V.int)) := h1965
        have fr1967 := S1952.free n1964
        have S1968 := S1952.new n1964 e1962 h1966 fr1967
        have h1969 := (e1962 _ _ h1953)
        refine ⟨_, rfl, _, _, (rp_mk_ints h1966), (rp_mk_ints h1969), ?_⟩
        have hw := cW_ok hw
        exact hK0 _ hw _ S1968.b0

abbrev N_law : List Str := ["script", "first", "entries", "kept", "octets", "told", "back", "k", "cell", "time", "at", "other", "opened"]
theorem sc_law : FnScope N_law ["script"] (defScope s_law) := ⟨rfl, rfl, rfl, by decide +kernel, rfl, by decide +kernel, by decide +kernel⟩
theorem ok_law {f : Addr} {fd : FuncData} (F : FunD K "law" "law" (defArgs s_law) (defBody s_law) (defScope s_law) [] [] f fd) (T : Txt K mg AD) (c__law_cell : CalX P w K mg base 1 "_law_cell" (sp__law_cell K AD) pats__law_cell) (c__law_entries : CalX P w K mg base 2 "_law_entries" (sp__law_entries K AD) pats__law_entries) (c_pack_container : CalX P w K mg base 3 "pack_container" (sp_pack_container K AD) pats_pack_container) (c__law_packed : CalX P w K mg base 2 "_law_packed" (sp__law_packed K AD) pats__law_packed) (c_open_container : CalX P w K mg base 3 "open_container" (sp_open_container K AD) pats_open_container) (c__law_seek : CalX P w K mg base 5 "_law_seek" (sp__law_seek K AD) pats__law_seek) (c__law_opened : CalX P w K mg base 4 "_law_opened" (sp__law_opened K AD) pats__law_opened) (c__law_seek_refused : CalX P w K mg base 5 "_law_seek_refused" (sp__law_seek_refused K AD) pats__law_seek_refused) (c__law_bad : CalX P w K mg base 6 "_law_bad" (sp__law_bad K AD) pats__law_bad) : FnG P w K mg base CX0 7 f fd ["script"] (sp_law K AD) := by
  refine FnG.bodyN F sc_law (fun vs H Q E h => ?_) (fun cdv A_ outer s H vs Q E hr h => ?_)
  · obtain ⟨a_script, script, rfl, _⟩ := h
    rfl
  · obtain ⟨a_script, script', rfl, q_script, hw, k⟩ := h
    refine ⟨_, (pss_cons (ps_set (i := 1) sc_law.nd rfl (Or.inl rfl) (vx_callX c__law_cell pat__law_cell_0 (.head _) hr (by decide) takes0 rfl (pa_cons (pv 0) (pa_cons pe_int pa_nil)) pk_nil))
      (pss_cons (ps_set (i := 2) sc_law.nd rfl (Or.inl rfl) (vx_callX c__law_entries pat__law_entries_0 (.head _) hr (by decide) takes0 rfl (pa_cons (pv 1) pa_nil) pk_nil))
      (pss_cons (ps_set (i := 3) sc_law.nd rfl (Or.inl rfl) (pe_callB (call_reprD hr.gd hr.units) (by rfl) T.b_repr (by decide +kernel) (pa_cons (pv 2) pa_nil)))
      (pss_cons (ps_set (i := 4) sc_law.nd rfl (Or.inl rfl) (vx_callX c_pack_container pat_pack_container_0 (.head _) hr (by decide) takes0 rfl (pa_cons (pv 2) pa_nil) pk_nil))
      (pss_cons (ps_if (PW.pt (pw_or (pt_not (pt_val (pe_callB call_isi (by rfl) T.b_isinstance (by decide +kernel) (pa_cons (pv 4) (pa_cons (pe_bltn (v := V.ty "list") (u := Value.type "list") (by rfl) T.b_list (by decide +kernel) rfl) pa_nil))))) (pw_or (pt_cmpR (op_neT (encOk_L encOk_int) hr.units) (pv 4) (vx_callX c__law_packed pat__law_packed_0 (.head _) hr (by decide) takes0 rfl (pa_cons (pv 2) pa_nil) pk_nil) (nomark _)) (pw_or1 (pt_cmpR op_ne (pe_callB (call_reprD hr.gd hr.units) (by rfl) T.b_repr (by decide +kernel) (pa_cons (pv 2) pa_nil)) (pv 3) (nomark _)))))) (pss_one (ps_ret pe_bl)) pss_nil)
      (pss_cons (ps_set (i := 5) sc_law.nd rfl (Or.inl rfl) (pe_callTy (call_listLK (K := K)) (by rfl) T.b_list (by decide +kernel) (pa_cons (pv 4) pa_nil)))
      (pss_cons (ps_set (i := 6) sc_law.nd rfl (Or.inl rfl) (vx_callX c_open_container pat_open_container_0 (.head _) hr (by decide) takes0 rfl (pa_cons (pv 4) pa_nil) pk_nil))
      (pss_cons (ps_if (PW.pt (pw_or (pt_not (pt_val (pe_callB call_isi (by rfl) T.b_isinstance (by decide +kernel) (pa_cons (pv 6) (pa_cons (pe_bltn (v := V.ty "list") (u := Value.type "list") (by rfl) T.b_list (by decide +kernel) rfl) pa_nil))))) (pw_or (pt_cmpR op_ne (pe_callB (call_reprD hr.gd hr.units) (by rfl) T.b_repr (by decide +kernel) (pa_cons (pv 6) pa_nil)) (pv 3) (nomark _)) (pw_or1 (pt_cmpR (op_neT (encOk_L encOk_int) hr.units) (pv 4) (pv 5) (nomark _)))))) (pss_one (ps_ret pe_bl)) pss_nil)
      (pss_cons (ps_for PassesOwn.never rfl (pi_range1 rfl T.b_range (pa_cons (pe_callB (call_min2 rfl) (by rfl) T.b_min (by decide +kernel) (pa_cons (pe_op op_add pe_int (pe_callB (call_lenLiK (K := K)) (by rfl) T.b_len (by decide +kernel) (pa_cons (pv 0) pa_nil))) (pa_cons pe_int pa_nil))) pa_nil)) (pg_name (i := 7) sc_law.nd rfl (Or.inl rfl)) (pss_cons (ps_set (i := 8) sc_law.nd rfl (Or.inl rfl) (pe_op op_add (vx_callX c__law_cell pat__law_cell_0 (.head _) hr (by decide) takes0 rfl (pa_cons (pv 0) (pa_cons (pe_op op_add (pv 7) pe_int) pa_nil)) pk_nil) (pv 7)))
      (pss_cons (ps_set (i := 9) sc_law.nd rfl (Or.inl rfl) (pe_op op_mod (pv 8) pe_int))
      (C8.pss_cut (ps_if (PW.pt (pw_and (pt_cmp (pc_gt (pe_callB (call_lenLK (K := K)) (by rfl) T.b_len (by decide +kernel) (pa_cons (pv 2) pa_nil)) pe_int)) (pw_and1 (pt_cmp (pc_gt (pe_op op_mod (pv 8) pe_int) pe_int))))) (pss_one (ps_set (i := 9) sc_law.nd rfl (Or.inl rfl) (pe_op op_sub (pe_op op_add (pe_ix (ix_tupK (K := K)) (pe_ix (ix_listK (K := K)) (pv 2) (pe_op op_mod (pe_op op_fdivW (pv 8) pe_int) (pe_callB (call_lenLK (K := K)) (by rfl) T.b_len (by decide +kernel) (pa_cons (pv 2) pa_nil))) (fun _ _ => rfl)) pe_int (fun _ _ => rfl)) (pe_op op_mod (pe_op op_fdivW (pv 8) pe_int) pe_int)) pe_int))) pss_nil)
      (C8.pss_cut (ps_if (pt_cmp (pc_eqI (pe_op op_mod (pv 8) pe_int) pe_int)) (pss_one (ps_set (i := 9) sc_law.nd rfl (Or.inl rfl) (pe_ix (ix_listK (K := K)) (pe_lst (pa_cons (pe_op op_sub (pe_un un_neg pe_int) (pe_op op_mod (pv 8) pe_int)) (pa_cons (pe_op op_add pe_int (pe_op op_mod (pv 8) pe_int)) pa_nil))) (pe_op op_mod (pe_op op_fdivW (pv 8) pe_int) pe_int) (fun _ _ => rfl)))) pss_nil)
      (pss_cons (ps_if (pt_not (pt_val (vx_callX c__law_seek pat__law_seek_0 (.head _) hr (by decide) takes0 rfl (pa_cons (pv 2) (pa_cons (pv 4) (pa_cons (pv 9) pa_nil))) pk_nil))) (pss_one (ps_ret pe_bl)) pss_nil)
      (pss_cons (ps_set (i := 10) sc_law.nd rfl (Or.inl rfl) (pe_op op_mod (pe_op op_fdivW (pv 8) pe_int) (pe_callB (call_lenLiK (K := K)) (by rfl) T.b_len (by decide +kernel) (pa_cons (pv 4) pa_nil))))
      (pss_cons (ps_set (i := 11) sc_law.nd rfl (Or.inl rfl) (pe_op op_cat (pe_op op_cat (pe_slice (sl_listK (K := K)) (pv 4) po_none (po_some (pv 10))) (pe_lst (pa_cons (pe_op op_mod (pe_op op_add (pe_op op_add (pe_ix (ix_listK (K := K)) (pv 4) (pv 10) (fun _ _ => rfl)) pe_int) (pe_op op_mod (pe_op op_fdivW (pv 8) pe_int) pe_int)) pe_int) pa_nil))) (pe_slice (sl_listK (K := K)) (pv 4) (po_some (pe_op op_add (pv 10) pe_int)) po_none)))
      (C8.pss_cut (ps_if (pt_cmp (pc_eqI (pe_op op_mod (pe_op op_fdivW (pv 8) pe_int) pe_int) pe_int)) (pss_one (ps_set (i := 11) sc_law.nd rfl (Or.inl rfl) (pe_op op_cat (pe_slice (sl_listK (K := K)) (pv 4) po_none (po_some (pv 10))) (pe_slice (sl_listK (K := K)) (pv 4) (po_some (pe_op op_add (pv 10) pe_int)) po_none)))) (pss_one (ps_if (pt_cmp (pc_eqI (pe_op op_mod (pe_op op_fdivW (pv 8) pe_int) pe_int) pe_int)) (pss_one (ps_set (i := 11) sc_law.nd rfl (Or.inl rfl) (pe_op op_cat (pe_op op_cat (pe_slice (sl_listK (K := K)) (pv 4) po_none (po_some (pv 10))) (pe_lst (pa_cons (pe_op op_mod (pe_op op_fdivW (pv 8) pe_int) pe_int) pa_nil))) (pe_slice (sl_listK (K := K)) (pv 4) (po_some (pv 10)) po_none)))) (pss_one (ps_if (pt_cmp (pc_eqI (pe_op op_mod (pe_op op_fdivW (pv 8) pe_int) pe_int) pe_int)) (pss_one (ps_set (i := 11) sc_law.nd rfl (Or.inl rfl) (pe_slice (sl_listK (K := K)) (pv 4) po_none (po_some (pv 10))))) pss_nil)))))
      (pss_cons (ps_set (i := 12) sc_law.nd rfl (Or.inl rfl) (vx_callX c__law_opened pat__law_opened_0 (.head _) hr (by decide) takes0 rfl (pa_cons (pv 11) pa_nil) pk_nil))
      (pss_cons (ps_if (PW.pt (pw_and (pt_cmp (pc_eqI (pe_callB (call_lenLK (K := K)) (by rfl) T.b_len (by decide +kernel) (pa_cons (pv 12) pa_nil)) pe_int)) (pw_and1 (pt_not (pt_val (vx_callX c__law_seek_refused pat__law_seek_refused_0 (.head _) hr (by decide) takes0 rfl (pa_cons (pv 11) (pa_cons (pv 9) pa_nil)) pk_nil)))))) (pss_one (ps_ret pe_bl)) pss_nil)
      (pss_cons (ps_if (PW.pt (pw_and (pt_cmp (pc_eqI (pe_callB (call_lenLK (K := K)) (by rfl) T.b_len (by decide +kernel) (pa_cons (pv 12) pa_nil)) pe_int)) (pw_and1 (pt_cmpR (op_neT (encOk_L encOk_int) hr.units) (vx_callX c_pack_container pat_pack_container_0 (.head _) hr (by decide) takes0 rfl (pa_cons (pe_ix (ix_listK (K := K)) (pv 12) pe_int (fun _ _ => rfl)) pa_nil) pk_nil) (pv 11) (nomark _))))) (pss_one (ps_ret pe_bl)) pss_nil)
      (pss_cons (ps_if (PW.pt (pw_and (pt_cmp (pc_eqI (pe_callB (call_lenLK (K := K)) (by rfl) T.b_len (by decide +kernel) (pa_cons (pv 12) pa_nil)) pe_int)) (pw_and (pt_cmp (pc_eqI (pe_callB (call_lenLiK (K := K)) (by rfl) T.b_len (by decide +kernel) (pa_cons (pv 11) pa_nil)) (pe_callB (call_lenLiK (K := K)) (by rfl) T.b_len (by decide +kernel) (pa_cons (pv 4) pa_nil)))) (pw_and1 (pt_cmp (pc_ge (pv 10) (pe_op op_add pe_int (pe_op op_mul pe_int (pe_callB (call_lenLK (K := K)) (by rfl) T.b_len (by decide +kernel) (pa_cons (pv 2) pa_nil)))))))))) (pss_one (ps_ret pe_bl)) pss_nil)
      (pss_one (ps_if (PW.pt (pw_and (pt_cmp (pc_eqI (pe_callB (call_lenLK (K := K)) (by rfl) T.b_len (by decide +kernel) (pa_cons (pv 12) pa_nil)) pe_int)) (pw_and (pt_cmp (pc_lt (pv 10) pe_int)) (pw_and1 (pt_cmp (pc_eqI (pe_callB (call_lenLiK (K := K)) (by rfl) T.b_len (by decide +kernel) (pa_cons (pv 11) pa_nil)) (pe_callB (call_lenLiK (K := K)) (by rfl) T.b_len (by decide +kernel) (pa_cons (pv 4) pa_nil)))))))) (pss_one (ps_ret pe_bl)) pss_nil)))))))))))))))
      (pss_one (ps_ret (vx_callX c__law_bad pat__law_bad_0 (.head _) hr (by decide) takes0 rfl (pa_cons (pv 2) (pa_cons (pe_op op_fdivW (pv 1) pe_int) pa_nil)) pk_nil)))))))))))), ?_⟩
    obtain ⟨KK, EE, hK0, hE, hw⟩ := cW_gen hw
    have S0 := Sep.start0 H
    unfold F_law at hw
    refine ⟨_, rfl, rfl, rfl, H, _, _, _, rfl, S0.sG, (S0.b0.seq q_script), cW_call hw (fun v1970 hw => ?_) (fun e he => (hE e he).elim)⟩
    refine ⟨_, rfl, rfl, rfl, H, _, rfl, S0.sG, cW_call hw (fun v1971 hw p1974 vs1975 H1972 G1976 n1977 e1973 eG1978 sG1979 hn1980 gp1981 h1982 d1983 => ?_) (fun e he => (hE e he).elim)⟩
    have fr1985 := S0.free n1977
    have S1984 := S0.stepnew e1973 eG1978 sG1979 hn1980 n1977 h1982 gp1981 fr1985
    obtain ⟨g1986, hw⟩ := cW_grd hw
    refine ⟨_, rfl, _, ((encL (encT2 PyData.int (encL PyData.int))) (v1971)), rfl, (rp_mk_list h1982 (RpAll.mono S1984.sG d1983)), g1986, _, rfl, rfl, rfl, G1976, _, _, rfl, S1984.sG, (Rp.hide_nil (rp_mk_list h1982 (RpAll.mono S1984.sG d1983))), cW_call hw (fun v1987 hw p1990 H1988 n1991 e1989 h1992 => ?_) (fun e he => (hE e he).elim)⟩
    have h1993 : H1988 p1990 = some (.lst ((v1987 : (List Int)).map V.int)) := h1992
    have fr1994 := S1984.free n1991
    have S1995 := S1984.new n1991 e1989 h1993 fr1994
    refine ⟨_, rfl, _, _, _, _, _, rfl, (.ty _), (.base (.lst h1993)), rfl, _, rfl, ?_⟩
    refine iteF ?_
    have h1996 := (e1989 _ _ h1982)
    refine ⟨_, rfl, _, rfl, rfl, rfl, G1976, _, _, rfl, S1995.sG, (Rp.hide_nil (rp_mk_list h1996 (RpAll.mono S1995.sG d1983))), cW_call hw (fun v1997 hw p2000 H1998 n2001 e1999 h2002 => ?_) (fun e he => (hE e he).elim)⟩
    have h2003 : H1998 p2000 = some (.lst ((v1997 : (List Int)).map V.int)) := h2002
    have fr2004 := S1995.free n2001
    have S2005 := S1995.new n2001 e1999 h2003 fr2004
    have h2006 := (e1999 _ _ h1993)
    refine ⟨_, _, (rp_mk_ints h2006), (rp_mk_ints h2003), _, rfl, ?_⟩
    refine iteN (fun c2007 => ?_) (fun c2007 => ?_)
    · have hw := cW_neg c2007 hw
      refine iteT ?_
      have hw := cW_ok hw
      exact eq_bl (k _) (hK0 _ hw).symm
    · have hw := cW_pos c2007 hw
      obtain ⟨g2008, hw⟩ := cW_grd hw
      have h2009 := (e1999 _ _ h1996)
      refine ⟨_, rfl, _, ((encL (encT2 PyData.int (encL PyData.int))) (v1971)), rfl, (rp_mk_list h2009 (RpAll.mono S2005.sG d1983)), g2008, _, rfl, rfl, _, rfl, ?_⟩
      refine iteN (fun c2010 => ?_) (fun c2010 => ?_)
      · have hw := cW_neg c2010 hw
        have hw := cW_ok hw
        exact eq_bl (k _) (hK0 _ hw).symm
      · have hw := cW_pos c2010 hw
        refine ⟨_, rfl, _, _, rfl, (SqL.of h2006), fun p2011 n2012 => ?_⟩
        generalize g2013 : upd H1998 p2011 _ = H2014
        obtain ⟨e2015, h2016⟩ := gen_new n2012 g2013
        have h2017 : H2014 p2011 = some (.lst ((v1987 : (List Int)).map V.int)) := h2016
        have fr2018 := S2005.free n2012
        have S2019 := S2005.new n2012 e2015 h2017 fr2018
        have h2020 := (e2015 _ _ h2006)
        refine ⟨_, rfl, rfl, rfl, G1976, _, _, rfl, S2019.sG, (hide_nil h2020), cW_call hw (fun v2021 hw p2024 vs2025 H2022 G2026 n2027 e2023 eG2028 sG2029 hn2030 gp2031 h2032 d2033 => ?_) (fun e he => (hE e he).elim)⟩
        have fr2035 := S2019.free n2027
        have S2034 := S2019.stepnew e2023 eG2028 sG2029 hn2030 n2027 h2032 gp2031 fr2035
        refine ⟨_, rfl, _, _, _, _, _, rfl, (.ty _), (.base (.lst h2032)), rfl, _, rfl, ?_⟩
        refine iteF ?_
        obtain ⟨g2036, hw⟩ := cW_grd hw
        refine ⟨_, rfl, _, ((encL (encT2 PyData.int (encL PyData.int))) (v2021)), rfl, (rp_mk_list h2032 (RpAll.mono S2034.sG d2033)), g2036, _, rfl, rfl, _, rfl, ?_⟩
        refine iteN (fun c2037 => ?_) (fun c2037 => ?_)
        · have hw := cW_neg c2037 hw
          refine iteT ?_
          have hw := cW_ok hw
          exact eq_bl (k _) (hK0 _ hw).symm
        · have hw := cW_pos c2037 hw
          have h2038 := (e2023 _ _ h2020)
          have h2039 := (e2023 _ _ h2017)
          refine ⟨_, rfl, _, rfl, _, _, (rp_mk_ints h2038), (rp_mk_ints h2039), _, rfl, ?_⟩
          refine iteN (fun c2040 => ?_) (fun c2040 => ?_)
          · have hw := cW_neg c2040 hw
            have hw := cW_ok hw
            exact eq_bl (k _) (hK0 _ hw).symm
          · have hw := cW_pos c2040 hw
            have h2041 := (e2023 _ _ (e2015 _ _ h2009))
            obtain ⟨G2042, eG2043, hg2044, S2045⟩ := Sep.freeze (O' := [p2024, p2011, p2000, p1990]) S2034 (.tail _ (.tail _ (.tail _ (.tail _ (.head _))))) h2041 fr1985 ((all_cons ⟨(.head _), (ne_of_none (e2015 _ _ h2009) n2027).symm⟩ (all_cons ⟨(.tail _ (.head _)), (ne_of_none h2009 n2012).symm⟩ (all_cons ⟨(.tail _ (.tail _ (.head _))), (ne_of_none h1996 n2001).symm⟩ (all_cons ⟨(.tail _ (.tail _ (.tail _ (.head _)))), (ne_of_none h1982 n1991).symm⟩ all_nil)))))
            obtain ⟨g2046, hw⟩ := cW_grd hw
            obtain ⟨K2052, hK2053, hw⟩ := cW_push hw
            refine ⟨_, rfl, _, _, rfl, (S2045.b0.seq q_script), _, _, rfl, rfl, _, _, rfl, _, rfl, g2046.1, g2046.2, for_range (lo := 0) (n := Int.toNat ((if 6 < (1 + (((script') : (List Int)).length : Int)) then 6 else (1 + (((script') : (List Int)).length : Int))))) (fun i σ H' => ∃ (u2054 : Option V) (u2055 : Option V) (u2056 : Option V) (u2057 : Option V) (u2058 : Option V) (u2059 : Option V) (G' : Hp), σ = [some (V.ref a_script), some (V.int (v1970)), some (V.ref p1974), some (V.str ((PyData.shown ((encL (encT2 PyData.int (encL PyData.int))) (v1971))))), some (V.ref p1990), some (V.ref p2011), some (V.ref p2024), u2054, u2055, u2056, u2057, u2058, u2059] ∧ Same G2042 G' ∧ Sep [] H H G' H' [p1990, p2011, p2024] ∧ H' p1990 = some (.lst ((v1987 : (List Int)).map V.int)) ∧ H' p2011 = some (.lst ((v1987 : (List Int)).map V.int)) ∧ H' p2024 = some (.lst (vs2025)) ∧ cW (forR (List.drop i (rng (0) (Int.toNat ((if 6 < (1 + (((script') : (List Int)).length : Int)) then 6 else (1 + (((script') : (List Int)).length : Int))))))) () (fun s x => F_law_b1 (script') (v1971) (v1987)  x)) K2052 EE) ?_ ?_ ?_⟩
            · exact ⟨_, _, _, _, _, _, _, rfl, (Same.refl _), (S2045.sub (all_cons (.tail _ (.tail _ (.tail _ (.head _)))) (all_cons (.tail _ (.head _)) (all_cons (.head _) all_nil)))), h2038, h2039, h2032, hw⟩
            · intro i σ H2060 hi hw
              obtain ⟨u2054, u2055, u2056, u2057, u2058, u2059, G2065, rfl, eG2066, S2061, h2062, h2063, h2064, hw⟩ := hw
              have hw := cW_forR (rng_get hi) hw
              generalize (0 + (i : Int)) = x2067 at hw ⊢
              have hw : cW (F_law_b1 (script') (v1971) (v1987)  (x2067)) _ EE := hw
              unfold F_law_b1 at hw
              obtain ⟨K2068, hK2069, hw⟩ := cW_name hw
              refine ⟨_, rfl, _, rfl, _, _, rfl, rfl, rfl, rfl, G2065, _, _, _, rfl, S2061.sG, (S2061.b0.seq q_script), cW_call hw (fun v2071 hw => ?_) (fun e he => (hE e he).elim)⟩
              refine ⟨_, rfl, _, _, rfl, rfl, ?_⟩
              have hw := cW_bnd hw
              refine ⟨_, rfl, _, _, rfl, rfl, (show (0 : Int) < 40 by decide), ?_⟩
              have hw := cW_bnd hw
              refine ⟨fun σ H' => ∃ (time_2078 : Int) (G' : Hp), σ = [some (V.ref a_script), some (V.int (v1970)), some (V.ref p1974), some (V.str ((PyData.shown ((encL (encT2 PyData.int (encL PyData.int))) (v1971))))), some (V.ref p1990), some (V.ref p2011), some (V.ref p2024), some (V.int (x2067)), some (V.int ((v2071 + x2067))), some (V.int time_2078), u2057, u2058, u2059] ∧ Same G2065 G' ∧ Sep [] H H G' H' [p1990, p2011, p2024] ∧ H' p1990 = some (.lst ((v1987 : (List Int)).map V.int)) ∧ H' p2011 = some (.lst ((v1987 : (List Int)).map V.int)) ∧ H' p2024 = some (.lst (vs2025)) ∧ cW (F_law_k2 (v1971) (v1987) ((v2071 + x2067)) time_2078) K2068 EE, ?_, ?_⟩
              · obtain ⟨K2079, hK2080, hw⟩ := cW_push hw
                refine ⟨_, rfl, _, _, _, rfl, (SqL.of (S2061.sG _ _ (eG2066 _ _ hg2044))), (by rw [(RpAll.mono eG2066 (RpAll.mono eG2043 (RpAll.mono eG2028 d1983))).len, List.length_map]), _, _, rfl, rfl, _, rfl, ?_⟩
                refine iteD (fun c2081 => ?_) (fun c2081 => ?_)
                · have hw := cW_pos c2081 hw
                  refine ⟨_, rfl, _, _, rfl, rfl, (show (0 : Int) < 3 by decide), _, _, rfl, rfl, _, rfl, ?_⟩
                  refine iteD (fun c2082 => ?_) (fun c2082 => ?_)
                  · have hw := cW_pos c2082 hw
                    obtain ⟨g2083, hw⟩ := cW_grd hw
                    obtain ⟨g2084, hw⟩ := cW_grd hw
                    obtain ⟨v2085, a2086, r2087⟩ := RpAll.ixD (k := (((v2071 + x2067) / 3) % (((v1971) : (List (Int × (List Int)))).length : Int))) (RpAll.mono eG2066 (RpAll.mono eG2043 (RpAll.mono eG2028 d1983))) g2084
                    obtain ⟨a2088, v2090, v2091, rfl, h2089, r2092, r2093⟩ := rp_tup2 r2087
                    obtain rfl := rp_int r2092
                    obtain ⟨a2094, rfl, h2095⟩ := rp_ints r2093
                    refine ⟨_, rfl, _, rfl, _, _, rfl, rfl, (divW_lit (by decide) (by decide)), _, rfl, _, _, _, rfl, (SqL.of (S2061.sG _ _ (eG2066 _ _ hg2044))), (by rw [(RpAll.mono eG2066 (RpAll.mono eG2043 (RpAll.mono eG2028 d1983))).len, List.length_map]), _, _, rfl, rfl, g2083, _, _, _, _, rfl, rfl, (SqL.of (S2061.sG _ _ (eG2066 _ _ hg2044))), a2086, _, _, _, _, rfl, rfl, (SqT.of (S2061.sG _ _ h2089)), rfl, _, rfl, _, _, rfl, rfl, (divW_lit (by decide) (by decide)), _, _, rfl, rfl, (show (0 : Int) < 3 by decide), _, _, rfl, rfl, _, _, rfl, rfl, ?_⟩
                    have hw := cW_bnd hw
                    have hw := cW_ok hw
                    have hw := hK2080 _ hw
                    exact ⟨((((itD (v1971) ((((v2071 + x2067) / 3) % (((v1971) : (List (Int × (List Int)))).length : Int)))).1 + (((v2071 + x2067) / 27) % 3)) - 1)), _, rfl, (Same.refl _), S2061, h2062, h2063, h2064, hw⟩
                  · have hw := cW_neg c2082 hw
                    have hw := cW_ok hw
                    have hw := hK2080 _ hw
                    exact ⟨(((v2071 + x2067) % 40)), _, rfl, (Same.refl _), S2061, h2062, h2063, h2064, hw⟩
                · have hw := cW_neg c2081 hw
                  refine iteF ?_
                  have hw := cW_ok hw
                  have hw := hK2080 _ hw
                  exact ⟨(((v2071 + x2067) % 40)), _, rfl, (Same.refl _), S2061, h2062, h2063, h2064, hw⟩
              · intro σ H2097 hw
                obtain ⟨time_2078, G2102, rfl, eG2103, S2098, h2099, h2100, h2101, hw⟩ := hw
                unfold F_law_k2 at hw
                refine ⟨fun σ H' => ∃ (time_2108 : Int) (G' : Hp), σ = [some (V.ref a_script), some (V.int (v1970)), some (V.ref p1974), some (V.str ((PyData.shown ((encL (encT2 PyData.int (encL PyData.int))) (v1971))))), some (V.ref p1990), some (V.ref p2011), some (V.ref p2024), some (V.int (x2067)), some (V.int ((v2071 + x2067))), some (V.int time_2108), u2057, u2058, u2059] ∧ Same G2102 G' ∧ Sep [] H H G' H' [p1990, p2011, p2024] ∧ H' p1990 = some (.lst ((v1987 : (List Int)).map V.int)) ∧ H' p2011 = some (.lst ((v1987 : (List Int)).map V.int)) ∧ H' p2024 = some (.lst (vs2025)) ∧ cW (F_law_k3 (v1971) (v1987) ((v2071 + x2067)) time_2108) K2068 EE, ?_, ?_⟩
                · obtain ⟨K2109, hK2110, hw⟩ := cW_push hw
                  refine ⟨_, rfl, _, _, rfl, rfl, (show (0 : Int) < 7 by decide), _, _, rfl, rfl, _, rfl, ?_⟩
                  refine iteD (fun c2111 => ?_) (fun c2111 => ?_)
                  · have hw := cW_pos c2111 hw
                    refine ⟨_, rfl, _, rfl, _, _, rfl, rfl, (show (0 : Int) < 9 by decide), _, _, rfl, rfl, _, rfl, _, _, rfl, rfl, (show (0 : Int) < 9 by decide), _, _, rfl, rfl, (by show 2 ≤ sizeLine; decide), fun p2112 n2113 => ?_⟩
                    generalize g2114 : upd H2097 p2112 _ = H2115
                    obtain ⟨e2116, h2117⟩ := gen_new n2113 g2114
                    have h2118 : H2115 p2112 = some (.lst (([((-1) - ((v2071 + x2067) % 9)), (4294967296 + ((v2071 + x2067) % 9))] : (List Int)).map V.int)) := h2117
                    have fr2119 := S2098.free n2113
                    have S2120 := S2098.new n2113 e2116 h2118 fr2119
                    obtain ⟨g2121, hw⟩ := cW_grd hw
                    refine ⟨_, rfl, _, _, rfl, rfl, (divW_lit (by decide) (by decide)), _, _, rfl, rfl, (show (0 : Int) < 2 by decide), _, _, _, _, rfl, rfl, (SqL.of h2118), (atI_map g2121), ?_⟩
                    have hw := cW_bnd hw
                    have hw := cW_ok hw
                    have hw := hK2110 _ hw
                    have h2123 := (e2116 _ _ h2099)
                    have h2124 := (e2116 _ _ h2100)
                    have h2125 := (e2116 _ _ h2101)
                    exact ⟨((itD ([((-1) - ((v2071 + x2067) % 9)), (4294967296 + ((v2071 + x2067) % 9))]) ((((v2071 + x2067) / 7) % 2)))), _, rfl, (Same.refl _), (S2120.sub (all_cons (.tail _ (.head _)) (all_cons (.tail _ (.tail _ (.head _))) (all_cons (.tail _ (.tail _ (.tail _ (.head _)))) all_nil)))), h2123, h2124, h2125, hw⟩
                  · have hw := cW_neg c2111 hw
                    have hw := cW_ok hw
                    have hw := hK2110 _ hw
                    exact ⟨(time_2078), _, rfl, (Same.refl _), S2098, h2099, h2100, h2101, hw⟩
                · intro σ H2126 hw
                  obtain ⟨time_2108, G2131, rfl, eG2132, S2127, h2128, h2129, h2130, hw⟩ := hw
                  unfold F_law_k3 at hw
                  refine ⟨_, rfl, _, rfl, _, rfl, rfl, rfl, G2131, _, _, _, _, _, rfl, S2127.sG, (rp_mk_list (eG2132 _ _ (eG2103 _ _ (eG2066 _ _ hg2044))) (RpAll.mono eG2132 (RpAll.mono eG2103 (RpAll.mono eG2066 (RpAll.mono eG2043 (RpAll.mono eG2028 d1983)))))), (hide_nil h2128), cW_call hw (fun v2133 hw H2134 e2135 => ?_) (fun e he => (hE e he).elim)⟩
                  have S2136 := S2127.same e2135
                  refine ⟨_, rfl, ?_⟩
                  refine iteBN (fun c2137 => ?_) (fun c2137 => ?_)
                  · have hw := cW_negB c2137 hw
                    have hw := cW_ok hw
                    have hw := hK2069 (.rt _) hw
                    have hw := hK2053 (.rt _) hw
                    have hw := cW_ok hw
                    exact eq_bl (k _) (hK0 _ hw).symm
                  · have hw := cW_pos c2137 hw
                    have h2138 := (e2135 _ _ h2128)
                    obtain ⟨g2139, hw⟩ := cW_grd hw
                    refine ⟨_, rfl, _, _, rfl, rfl, (divW_lit (by decide) (by decide)), _, rfl, _, _, rfl, (SqL.of h2138), _, _, rfl, rfl, g2139, ?_⟩
                    have hw := cW_bnd hw
                    refine ⟨_, rfl, _, rfl, _, rfl, _, _, rfl, (SqL.of h2138), fun p2141 n2142 => ?_⟩
                    generalize g2143 : upd H2134 p2141 _ = H2144
                    obtain ⟨e2145, h2146⟩ := gen_new n2142 g2143
                    have h2147 : H2144 p2141 = some (.lst ((cutL (v1987) none (some ((((v2071 + x2067) / 5) % (((v1987) : (List Int)).length : Int)))) : (List Int)).map V.int)) := cut_map h2146
                    have fr2148 := S2136.free n2142
                    have S2149 := S2136.new n2142 e2145 h2147 fr2148
                    obtain ⟨g2150, hw⟩ := cW_grd hw
                    have h2151 := (e2145 _ _ h2138)
                    refine ⟨_, rfl, _, rfl, _, _, _, _, rfl, rfl, (SqL.of h2151), (atI_map g2150), _, _, rfl, rfl, _, rfl, _, _, rfl, rfl, (divW_lit (by decide) (by decide)), _, _, rfl, rfl, (show (0 : Int) < 255 by decide), _, _, rfl, rfl, _, _, rfl, rfl, (show (0 : Int) < 256 by decide), (by show 1 ≤ sizeLine; decide), fun p2152 n2153 => ?_⟩
                    generalize g2154 : upd H2144 p2152 _ = H2155
                    obtain ⟨e2156, h2157⟩ := gen_new n2153 g2154
                    have h2158 : H2155 p2152 = some (.lst (([((((itD (v1987) ((((v2071 + x2067) / 5) % (((v1987) : (List Int)).length : Int)))) + 1) + (((v2071 + x2067) / 7) % 255)) % 256)] : (List Int)).map V.int)) := h2157
                    have fr2159 := S2149.free n2153
                    have S2160 := S2149.new n2153 e2156 h2158 fr2159
                    obtain ⟨g2161, hw⟩ := cW_grd hw
                    have h2162 := (e2156 _ _ h2147)
                    refine ⟨_, _, _, _, rfl, rfl, h2162, h2158, (cat_lenM g2161), fun p2163 n2164 => ?_⟩
                    generalize g2165 : upd H2155 p2163 _ = H2166
                    obtain ⟨e2167, h2168⟩ := gen_new n2164 g2165
                    have h2169 : H2166 p2163 = some (.lst (((cutL (v1987) none (some ((((v2071 + x2067) / 5) % (((v1987) : (List Int)).length : Int))))) ++ ([((((itD (v1987) ((((v2071 + x2067) / 5) % (((v1987) : (List Int)).length : Int)))) + 1) + (((v2071 + x2067) / 7) % 255)) % 256)]) : (List Int)).map V.int)) := cat_map h2168
                    have fr2170 := S2160.free n2164
                    have S2171 := S2160.new n2164 e2167 h2169 fr2170
                    have h2172 := (e2167 _ _ (e2156 _ _ h2151))
                    refine ⟨_, rfl, _, rfl, _, _, rfl, rfl, _, rfl, _, _, rfl, (SqL.of h2172), fun p2173 n2174 => ?_⟩
                    generalize g2175 : upd H2166 p2173 _ = H2176
                    obtain ⟨e2177, h2178⟩ := gen_new n2174 g2175
                    have h2179 : H2176 p2173 = some (.lst ((cutL (v1987) (some (((((v2071 + x2067) / 5) % (((v1987) : (List Int)).length : Int)) + 1))) none : (List Int)).map V.int)) := cut_map h2178
                    have fr2180 := S2171.free n2174
                    have S2181 := S2171.new n2174 e2177 h2179 fr2180
                    obtain ⟨g2182, hw⟩ := cW_grd hw
                    have h2183 := (e2177 _ _ h2169)
                    refine ⟨_, _, _, _, rfl, rfl, h2183, h2179, (cat_lenM g2182), fun p2184 n2185 => ?_⟩
                    generalize g2186 : upd H2176 p2184 _ = H2187
                    obtain ⟨e2188, h2189⟩ := gen_new n2185 g2186
                    have h2190 : H2187 p2184 = some (.lst ((((cutL (v1987) none (some ((((v2071 + x2067) / 5) % (((v1987) : (List Int)).length : Int))))) ++ ([((((itD (v1987) ((((v2071 + x2067) / 5) % (((v1987) : (List Int)).length : Int)))) + 1) + (((v2071 + x2067) / 7) % 255)) % 256)])) ++ (cutL (v1987) (some (((((v2071 + x2067) / 5) % (((v1987) : (List Int)).length : Int)) + 1))) none) : (List Int)).map V.int)) := cat_map h2189
                    have fr2191 := S2181.free n2185
                    have S2192 := S2181.new n2185 e2188 h2190 fr2191
                    refine ⟨fun σ H' => ∃ (p2199 : Addr) (other_2198 : (List Int)) (G' : Hp), σ = [some (V.ref a_script), some (V.int (v1970)), some (V.ref p1974), some (V.str ((PyData.shown ((encL (encT2 PyData.int (encL PyData.int))) (v1971))))), some (V.ref p1990), some (V.ref p2011), some (V.ref p2024), some (V.int (x2067)), some (V.int ((v2071 + x2067))), some (V.int (time_2108)), some (V.int ((((v2071 + x2067) / 5) % (((v1987) : (List Int)).length : Int)))), some (V.ref p2199), u2059] ∧ Same G2131 G' ∧ Sep [] H H G' H' [p1990, p2011, p2024, p2199] ∧ H' p1990 = some (.lst ((v1987 : (List Int)).map V.int)) ∧ H' p2011 = some (.lst ((v1987 : (List Int)).map V.int)) ∧ H' p2024 = some (.lst (vs2025)) ∧ H' p2199 = some (.lst ((other_2198 : (List Int)).map V.int)) ∧ H p2199 = none ∧ p2199 ≠ p1990 ∧ p2199 ≠ p2011 ∧ p2199 ≠ p2024 ∧ cW (F_law_k4 (v1971) (v1987) (time_2108) ((((v2071 + x2067) / 5) % (((v1987) : (List Int)).length : Int))) other_2198) K2068 EE, ?_, ?_⟩
                    · obtain ⟨K2200, hK2201, hw⟩ := cW_push hw
                      refine ⟨_, rfl, _, _, rfl, rfl, (divW_lit (by decide) (by decide)), _, _, rfl, rfl, (show (0 : Int) < 4 by decide), _, _, rfl, rfl, _, rfl, ?_⟩
                      refine iteD (fun c2202 => ?_) (fun c2202 => ?_)
                      · have hw := cW_pos c2202 hw
                        have h2203 := (e2188 _ _ (e2177 _ _ h2172))
                        refine ⟨_, rfl, _, rfl, _, rfl, _, _, rfl, (SqL.of h2203), fun p2204 n2205 => ?_⟩
                        generalize g2206 : upd H2187 p2204 _ = H2207
                        obtain ⟨e2208, h2209⟩ := gen_new n2205 g2206
                        have h2210 : H2207 p2204 = some (.lst ((cutL (v1987) none (some ((((v2071 + x2067) / 5) % (((v1987) : (List Int)).length : Int)))) : (List Int)).map V.int)) := cut_map h2209
                        have fr2211 := S2192.free n2205
                        have S2212 := S2192.new n2205 e2208 h2210 fr2211
                        have h2213 := (e2208 _ _ h2203)
                        refine ⟨_, rfl, _, rfl, _, _, rfl, rfl, _, rfl, _, _, rfl, (SqL.of h2213), fun p2214 n2215 => ?_⟩
                        generalize g2216 : upd H2207 p2214 _ = H2217
                        obtain ⟨e2218, h2219⟩ := gen_new n2215 g2216
                        have h2220 : H2217 p2214 = some (.lst ((cutL (v1987) (some (((((v2071 + x2067) / 5) % (((v1987) : (List Int)).length : Int)) + 1))) none : (List Int)).map V.int)) := cut_map h2219
                        have fr2221 := S2212.free n2215
                        have S2222 := S2212.new n2215 e2218 h2220 fr2221
                        obtain ⟨g2223, hw⟩ := cW_grd hw
                        have h2224 := (e2218 _ _ h2210)
                        refine ⟨_, _, _, _, rfl, rfl, h2224, h2220, (cat_lenM g2223), fun p2225 n2226 => ?_⟩
                        generalize g2227 : upd H2217 p2225 _ = H2228
                        obtain ⟨e2229, h2230⟩ := gen_new n2226 g2227
                        have h2231 : H2228 p2225 = some (.lst (((cutL (v1987) none (some ((((v2071 + x2067) / 5) % (((v1987) : (List Int)).length : Int))))) ++ (cutL (v1987) (some (((((v2071 + x2067) / 5) % (((v1987) : (List Int)).length : Int)) + 1))) none) : (List Int)).map V.int)) := cat_map h2230
                        have fr2232 := S2222.free n2226
                        have S2233 := S2222.new n2226 e2229 h2231 fr2232
                        have hw := cW_ok hw
                        have hw := hK2201 _ hw
                        have h2234 := (e2229 _ _ (e2218 _ _ h2213))
                        have h2235 := (e2229 _ _ (e2218 _ _ (e2208 _ _ (e2188 _ _ (e2177 _ _ (e2167 _ _ (e2156 _ _ (e2145 _ _ (e2135 _ _ h2129)))))))))
                        have h2236 := (e2229 _ _ (e2218 _ _ (e2208 _ _ (e2188 _ _ (e2177 _ _ (e2167 _ _ (e2156 _ _ (e2145 _ _ (e2135 _ _ h2130)))))))))
                        exact ⟨_, ((cutL (v1987) none (some ((((v2071 + x2067) / 5) % (((v1987) : (List Int)).length : Int))))) ++ (cutL (v1987) (some (((((v2071 + x2067) / 5) % (((v1987) : (List Int)).length : Int)) + 1))) none)), _, rfl, (Same.refl _), (S2233.sub (all_cons (.tail _ (.tail _ (.tail _ (.tail _ (.tail _ (.tail _ (.tail _ (.tail _ (.head _))))))))) (all_cons (.tail _ (.tail _ (.tail _ (.tail _ (.tail _ (.tail _ (.tail _ (.tail _ (.tail _ (.head _)))))))))) (all_cons (.tail _ (.tail _ (.tail _ (.tail _ (.tail _ (.tail _ (.tail _ (.tail _ (.tail _ (.tail _ (.head _))))))))))) (all_cons (.head _) all_nil))))), h2234, h2235, h2236, h2231, fr2232, (ne_of_none (e2218 _ _ h2213) n2226).symm, (ne_of_none (e2218 _ _ (e2208 _ _ (e2188 _ _ (e2177 _ _ (e2167 _ _ (e2156 _ _ (e2145 _ _ (e2135 _ _ h2129)))))))) n2226).symm, (ne_of_none (e2218 _ _ (e2208 _ _ (e2188 _ _ (e2177 _ _ (e2167 _ _ (e2156 _ _ (e2145 _ _ (e2135 _ _ h2130)))))))) n2226).symm, hw⟩
                      · have hw := cW_neg c2202 hw
                        refine ⟨_, rfl, _, _, rfl, rfl, (divW_lit (by decide) (by decide)), _, _, rfl, rfl, (show (0 : Int) < 4 by decide), _, _, rfl, rfl, _, rfl, ?_⟩
                        refine iteD (fun c2237 => ?_) (fun c2237 => ?_)
                        · have hw := cW_pos c2237 hw
                          have h2238 := (e2188 _ _ (e2177 _ _ h2172))
                          refine ⟨_, rfl, _, rfl, _, rfl, _, _, rfl, (SqL.of h2238), fun p2239 n2240 => ?_⟩
                          generalize g2241 : upd H2187 p2239 _ = H2242
                          obtain ⟨e2243, h2244⟩ := gen_new n2240 g2241
                          have h2245 : H2242 p2239 = some (.lst ((cutL (v1987) none (some ((((v2071 + x2067) / 5) % (((v1987) : (List Int)).length : Int)))) : (List Int)).map V.int)) := cut_map h2244
                          have fr2246 := S2192.free n2240
                          have S2247 := S2192.new n2240 e2243 h2245 fr2246
                          refine ⟨_, rfl, _, _, rfl, rfl, (divW_lit (by decide) (by decide)), _, _, rfl, rfl, (show (0 : Int) < 256 by decide), (by show 1 ≤ sizeLine; decide), fun p2248 n2249 => ?_⟩
                          generalize g2250 : upd H2242 p2248 _ = H2251
                          obtain ⟨e2252, h2253⟩ := gen_new n2249 g2250
                          have h2254 : H2251 p2248 = some (.lst (([(((v2071 + x2067) / 7) % 256)] : (List Int)).map V.int)) := h2253
                          have fr2255 := S2247.free n2249
                          have S2256 := S2247.new n2249 e2252 h2254 fr2255
                          obtain ⟨g2257, hw⟩ := cW_grd hw
                          have h2258 := (e2252 _ _ h2245)
                          refine ⟨_, _, _, _, rfl, rfl, h2258, h2254, (cat_lenM g2257), fun p2259 n2260 => ?_⟩
                          generalize g2261 : upd H2251 p2259 _ = H2262
                          obtain ⟨e2263, h2264⟩ := gen_new n2260 g2261
                          have h2265 : H2262 p2259 = some (.lst (((cutL (v1987) none (some ((((v2071 + x2067) / 5) % (((v1987) : (List Int)).length : Int))))) ++ ([(((v2071 + x2067) / 7) % 256)]) : (List Int)).map V.int)) := cat_map h2264
                          have fr2266 := S2256.free n2260
                          have S2267 := S2256.new n2260 e2263 h2265 fr2266
                          have h2268 := (e2263 _ _ (e2252 _ _ (e2243 _ _ h2238)))
                          refine ⟨_, rfl, _, rfl, _, rfl, _, _, rfl, (SqL.of h2268), fun p2269 n2270 => ?_⟩
                          generalize g2271 : upd H2262 p2269 _ = H2272
                          obtain ⟨e2273, h2274⟩ := gen_new n2270 g2271
                          have h2275 : H2272 p2269 = some (.lst ((cutL (v1987) (some ((((v2071 + x2067) / 5) % (((v1987) : (List Int)).length : Int)))) none : (List Int)).map V.int)) := cut_map h2274
                          have fr2276 := S2267.free n2270
                          have S2277 := S2267.new n2270 e2273 h2275 fr2276
                          obtain ⟨g2278, hw⟩ := cW_grd hw
                          have h2279 := (e2273 _ _ h2265)
                          refine ⟨_, _, _, _, rfl, rfl, h2279, h2275, (cat_lenM g2278), fun p2280 n2281 => ?_⟩
                          generalize g2282 : upd H2272 p2280 _ = H2283
                          obtain ⟨e2284, h2285⟩ := gen_new n2281 g2282
                          have h2286 : H2283 p2280 = some (.lst ((((cutL (v1987) none (some ((((v2071 + x2067) / 5) % (((v1987) : (List Int)).length : Int))))) ++ ([(((v2071 + x2067) / 7) % 256)])) ++ (cutL (v1987) (some ((((v2071 + x2067) / 5) % (((v1987) : (List Int)).length : Int)))) none) : (List Int)).map V.int)) := cat_map h2285
                          have fr2287 := S2277.free n2281
                          have S2288 := S2277.new n2281 e2284 h2286 fr2287
                          have hw := cW_ok hw
                          have hw := hK2201 _ hw
                          have h2289 := (e2284 _ _ (e2273 _ _ h2268))
                          have h2290 := (e2284 _ _ (e2273 _ _ (e2263 _ _ (e2252 _ _ (e2243 _ _ (e2188 _ _ (e2177 _ _ (e2167 _ _ (e2156 _ _ (e2145 _ _ (e2135 _ _ h2129)))))))))))
                          have h2291 := (e2284 _ _ (e2273 _ _ (e2263 _ _ (e2252 _ _ (e2243 _ _ (e2188 _ _ (e2177 _ _ (e2167 _ _ (e2156 _ _ (e2145 _ _ (e2135 _ _ h2130)))))))))))
                          exact ⟨_, (((cutL (v1987) none (some ((((v2071 + x2067) / 5) % (((v1987) : (List Int)).length : Int))))) ++ ([(((v2071 + x2067) / 7) % 256)])) ++ (cutL (v1987) (some ((((v2071 + x2067) / 5) % (((v1987) : (List Int)).length : Int)))) none)), _, rfl, (Same.refl _), (S2288.sub (all_cons (.tail _ (.tail _ (.tail _ (.tail _ (.tail _ (.tail _ (.tail _ (.tail _ (.tail _ (.tail _ (.head _))))))))))) (all_cons (.tail _ (.tail _ (.tail _ (.tail _ (.tail _ (.tail _ (.tail _ (.tail _ (.tail _ (.tail _ (.tail _ (.head _)))))))))))) (all_cons (.tail _ (.tail _ (.tail _ (.tail _ (.tail _ (.tail _ (.tail _ (.tail _ (.tail _ (.tail _ (.tail _ (.tail _ (.head _))))))))))))) (all_cons (.head _) all_nil))))), h2289, h2290, h2291, h2286, fr2287, (ne_of_none (e2273 _ _ h2268) n2281).symm, (ne_of_none (e2273 _ _ (e2263 _ _ (e2252 _ _ (e2243 _ _ (e2188 _ _ (e2177 _ _ (e2167 _ _ (e2156 _ _ (e2145 _ _ (e2135 _ _ h2129)))))))))) n2281).symm, (ne_of_none (e2273 _ _ (e2263 _ _ (e2252 _ _ (e2243 _ _ (e2188 _ _ (e2177 _ _ (e2167 _ _ (e2156 _ _ (e2145 _ _ (e2135 _ _ h2130)))))))))) n2281).symm, hw⟩
                        · have hw := cW_neg c2237 hw
                          refine ⟨_, rfl, _, _, rfl, rfl, (divW_lit (by decide) (by decide)), _, _, rfl, rfl, (show (0 : Int) < 4 by decide), _, _, rfl, rfl, _, rfl, ?_⟩
                          refine iteD (fun c2292 => ?_) (fun c2292 => ?_)
                          · have hw := cW_pos c2292 hw
                            have h2293 := (e2188 _ _ (e2177 _ _ h2172))
                            refine ⟨_, rfl, _, rfl, _, rfl, _, _, rfl, (SqL.of h2293), fun p2294 n2295 => ?_⟩
                            generalize g2296 : upd H2187 p2294 _ = H2297
                            obtain ⟨e2298, h2299⟩ := gen_new n2295 g2296
                            have h2300 : H2297 p2294 = some (.lst ((cutL (v1987) none (some ((((v2071 + x2067) / 5) % (((v1987) : (List Int)).length : Int)))) : (List Int)).map V.int)) := cut_map h2299
                            have fr2301 := S2192.free n2295
                            have S2302 := S2192.new n2295 e2298 h2300 fr2301
                            have hw := cW_ok hw
                            have hw := hK2201 _ hw
                            have h2303 := (e2298 _ _ h2293)
                            have h2304 := (e2298 _ _ (e2188 _ _ (e2177 _ _ (e2167 _ _ (e2156 _ _ (e2145 _ _ (e2135 _ _ h2129)))))))
                            have h2305 := (e2298 _ _ (e2188 _ _ (e2177 _ _ (e2167 _ _ (e2156 _ _ (e2145 _ _ (e2135 _ _ h2130)))))))
                            exact ⟨_, (cutL (v1987) none (some ((((v2071 + x2067) / 5) % (((v1987) : (List Int)).length : Int))))), _, rfl, (Same.refl _), (S2302.sub (all_cons (.tail _ (.tail _ (.tail _ (.tail _ (.tail _ (.tail _ (.head _))))))) (all_cons (.tail _ (.tail _ (.tail _ (.tail _ (.tail _ (.tail _ (.tail _ (.head _)))))))) (all_cons (.tail _ (.tail _ (.tail _ (.tail _ (.tail _ (.tail _ (.tail _ (.tail _ (.head _))))))))) (all_cons (.head _) all_nil))))), h2303, h2304, h2305, h2300, fr2301, (ne_of_none h2293 n2295).symm, (ne_of_none (e2188 _ _ (e2177 _ _ (e2167 _ _ (e2156 _ _ (e2145 _ _ (e2135 _ _ h2129)))))) n2295).symm, (ne_of_none (e2188 _ _ (e2177 _ _ (e2167 _ _ (e2156 _ _ (e2145 _ _ (e2135 _ _ h2130)))))) n2295).symm, hw⟩
                          · have hw := cW_neg c2292 hw
                            have hw := cW_ok hw
                            have hw := hK2201 _ hw
                            have h2306 := (e2188 _ _ (e2177 _ _ h2172))
                            have h2307 := (e2188 _ _ (e2177 _ _ (e2167 _ _ (e2156 _ _ (e2145 _ _ (e2135 _ _ h2129))))))
                            have h2308 := (e2188 _ _ (e2177 _ _ (e2167 _ _ (e2156 _ _ (e2145 _ _ (e2135 _ _ h2130))))))
                            exact ⟨_, (((cutL (v1987) none (some ((((v2071 + x2067) / 5) % (((v1987) : (List Int)).length : Int))))) ++ ([((((itD (v1987) ((((v2071 + x2067) / 5) % (((v1987) : (List Int)).length : Int)))) + 1) + (((v2071 + x2067) / 7) % 255)) % 256)])) ++ (cutL (v1987) (some (((((v2071 + x2067) / 5) % (((v1987) : (List Int)).length : Int)) + 1))) none)), _, rfl, (Same.refl _), (S2192.sub (all_cons (.tail _ (.tail _ (.tail _ (.tail _ (.tail _ (.head _)))))) (all_cons (.tail _ (.tail _ (.tail _ (.tail _ (.tail _ (.tail _ (.head _))))))) (all_cons (.tail _ (.tail _ (.tail _ (.tail _ (.tail _ (.tail _ (.tail _ (.head _)))))))) (all_cons (.head _) all_nil))))), h2306, h2307, h2308, h2190, fr2191, (ne_of_none (e2177 _ _ h2172) n2185).symm, (ne_of_none (e2177 _ _ (e2167 _ _ (e2156 _ _ (e2145 _ _ (e2135 _ _ h2129))))) n2185).symm, (ne_of_none (e2177 _ _ (e2167 _ _ (e2156 _ _ (e2145 _ _ (e2135 _ _ h2130))))) n2185).symm, hw⟩
                    · intro σ H2309 hw
                      obtain ⟨p2199, other_2198, G2319, rfl, eG2320, S2310, h2311, h2312, h2313, h2314, fr2315, ne2316, ne2317, ne2318, hw⟩ := hw
                      unfold F_law_k4 at hw
                      refine ⟨_, rfl, rfl, rfl, G2319, _, _, rfl, S2310.sG, (hide_nil h2314), cW_call hw (fun v2321 hw p2324 vs2325 H2322 G2326 n2327 e2323 eG2328 sG2329 hn2330 gp2331 h2332 d2333 => ?_) (fun e he => (hE e he).elim)⟩
                      have fr2335 := S2310.free n2327
                      have S2334 := S2310.stepnew e2323 eG2328 sG2329 hn2330 n2327 h2332 gp2331 fr2335
                      refine ⟨_, rfl, _, _, _, rfl, (SqL.of h2332), (by rw [d2333.len, List.length_map]), _, _, rfl, rfl, _, rfl, ?_⟩
                      refine iteD (fun c2336 => ?_) (fun c2336 => ?_)
                      · have hw := cW_pos c2336 hw
                        have h2337 := (e2323 _ _ h2314)
                        refine ⟨_, rfl, _, rfl, rfl, rfl, G2326, _, _, _, rfl, S2334.sG, (hide_nil h2337), cW_call hw (fun v2338 hw H2339 e2340 => ?_) (fun e he => (hE e he).elim)⟩
                        have S2341 := S2334.same e2340
                        refine ⟨_, rfl, ?_⟩
                        refine iteBN (fun c2342 => ?_) (fun c2342 => ?_)
                        · have hw := cW_negB c2342 hw
                          have hw := cW_ok hw
                          have hw := hK2069 (.rt _) hw
                          have hw := hK2053 (.rt _) hw
                          have hw := cW_ok hw
                          exact eq_bl (k _) (hK0 _ hw).symm
                        · have hw := cW_pos c2342 hw
                          have h2343 := (e2340 _ _ h2332)
                          refine ⟨_, rfl, _, _, _, rfl, (SqL.of h2343), (by rw [d2333.len, List.length_map]), _, _, rfl, rfl, _, rfl, ?_⟩
                          refine iteD (fun c2344 => ?_) (fun c2344 => ?_)
                          · have hw := cW_pos c2344 hw
                            obtain ⟨g2345, hw⟩ := cW_grd hw
                            obtain ⟨v2346, a2347, r2348⟩ := RpAll.ixD (k := 0) d2333 g2345
                            obtain ⟨a2349, vs2350, rfl, h2351, d2352⟩ := rp_list r2348
                            refine ⟨_, rfl, _, _, _, _, rfl, rfl, (SqL.of h2343), a2347, rfl, rfl, G2326, _, _, rfl, S2341.sG, (Rp.hide_nil (rp_mk_list (S2341.sG _ _ h2351) (RpAll.mono S2341.sG d2352))), cW_call hw (fun v2353 hw p2356 H2354 n2357 e2355 h2358 => ?_) (fun e he => (hE e he).elim)⟩
                            have h2359 : H2354 p2356 = some (.lst ((v2353 : (List Int)).map V.int)) := h2358
                            have fr2360 := S2341.free n2357
                            have S2361 := S2341.new n2357 e2355 h2359 fr2360
                            have h2362 := (e2355 _ _ (e2340 _ _ h2337))
                            refine ⟨_, rfl, _, _, (rp_mk_ints h2359), (rp_mk_ints h2362), _, rfl, ?_⟩
                            refine iteN (fun c2363 => ?_) (fun c2363 => ?_)
                            · have hw := cW_neg c2363 hw
                              have hw := cW_ok hw
                              have hw := hK2069 (.rt _) hw
                              have hw := hK2053 (.rt _) hw
                              have hw := cW_ok hw
                              exact eq_bl (k _) (hK0 _ hw).symm
                            · have hw := cW_pos c2363 hw
                              have h2364 := (e2355 _ _ h2343)
                              refine ⟨_, rfl, _, _, _, rfl, (SqL.of h2364), (by rw [d2333.len, List.length_map]), _, _, rfl, rfl, _, rfl, ?_⟩
                              refine iteD (fun c2365 => ?_) (fun c2365 => ?_)
                              · have hw := cW_pos c2365 hw
                                have h2366 := (e2355 _ _ (e2340 _ _ (e2323 _ _ h2311)))
                                refine ⟨_, rfl, _, _, rfl, (SqL.of h2362), _, rfl, _, _, rfl, (SqL.of h2366), _, _, rfl, rfl, _, rfl, ?_⟩
                                refine iteD (fun c2367 => ?_) (fun c2367 => ?_)
                                · have hw := cW_pos c2367 hw
                                  refine ⟨_, rfl, _, rfl, _, _, _, rfl, (SqL.of (S2361.sG _ _ (eG2328 _ _ (eG2320 _ _ (eG2132 _ _ (eG2103 _ _ (eG2066 _ _ hg2044))))))), (by rw [(RpAll.mono eG2328 (RpAll.mono eG2320 (RpAll.mono eG2132 (RpAll.mono eG2103 (RpAll.mono eG2066 (RpAll.mono eG2043 (RpAll.mono eG2028 d1983))))))).len, List.length_map]), _, _, rfl, rfl, (.inl ⟨by decide, by decide⟩), _, _, rfl, rfl, _, _, rfl, rfl, _, rfl, ?_⟩
                                  refine iteD (fun c2368 => ?_) (fun c2368 => ?_)
                                  · have hw := cW_pos c2368 hw
                                    have hw := cW_ok hw
                                    have hw := hK2069 (.rt _) hw
                                    have hw := hK2053 (.rt _) hw
                                    have hw := cW_ok hw
                                    exact eq_bl (k _) (hK0 _ hw).symm
                                  · have hw := cW_neg c2368 hw
                                    refine ⟨_, rfl, _, _, _, rfl, (SqL.of h2364), (by rw [d2333.len, List.length_map]), _, _, rfl, rfl, _, rfl, ?_⟩
                                    refine iteD (fun c2369 => ?_) (fun c2369 => ?_)
                                    · have hw := cW_pos c2369 hw
                                      refine ⟨_, rfl, _, _, rfl, rfl, _, rfl, ?_⟩
                                      refine iteD (fun c2370 => ?_) (fun c2370 => ?_)
                                      · have hw := cW_pos c2370 hw
                                        refine ⟨_, rfl, _, _, rfl, (SqL.of h2362), _, rfl, _, _, rfl, (SqL.of h2366), _, _, rfl, rfl, _, rfl, ?_⟩
                                        refine iteD (fun c2371 => ?_) (fun c2371 => ?_)
                                        · have hw := cW_pos c2371 hw
                                          have hw := cW_ok hw
                                          have hw := hK2069 (.rt _) hw
                                          have hw := hK2053 (.rt _) hw
                                          have hw := cW_ok hw
                                          exact eq_bl (k _) (hK0 _ hw).symm
                                        · have hw := cW_neg c2371 hw
                                          have hw := cW_ok hw
                                          have hw := hK2069 _ hw
                                          have h2372 := (e2355 _ _ (e2340 _ _ (e2323 _ _ h2312)))
                                          have h2373 := (e2355 _ _ (e2340 _ _ (e2323 _ _ h2313)))
                                          exact ⟨_, _, _, _, _, _, _, rfl, (Same.trans (Same.trans (Same.trans (Same.trans eG2066 eG2103) eG2132) eG2320) eG2328), (S2361.sub (all_cons (.tail _ (.tail _ (.head _))) (all_cons (.tail _ (.tail _ (.tail _ (.head _)))) (all_cons (.tail _ (.tail _ (.tail _ (.tail _ (.head _))))) all_nil)))), h2366, h2372, h2373, hw⟩
                                      · have hw := cW_neg c2370 hw
                                        refine iteF ?_
                                        have hw := cW_ok hw
                                        have hw := hK2069 _ hw
                                        have h2374 := (e2355 _ _ (e2340 _ _ (e2323 _ _ h2312)))
                                        have h2375 := (e2355 _ _ (e2340 _ _ (e2323 _ _ h2313)))
                                        exact ⟨_, _, _, _, _, _, _, rfl, (Same.trans (Same.trans (Same.trans (Same.trans eG2066 eG2103) eG2132) eG2320) eG2328), (S2361.sub (all_cons (.tail _ (.tail _ (.head _))) (all_cons (.tail _ (.tail _ (.tail _ (.head _)))) (all_cons (.tail _ (.tail _ (.tail _ (.tail _ (.head _))))) all_nil)))), h2366, h2374, h2375, hw⟩
                                    · have hw := cW_neg c2369 hw
                                      refine iteF ?_
                                      have hw := cW_ok hw
                                      have hw := hK2069 _ hw
                                      have h2376 := (e2355 _ _ (e2340 _ _ (e2323 _ _ h2312)))
                                      have h2377 := (e2355 _ _ (e2340 _ _ (e2323 _ _ h2313)))
                                      exact ⟨_, _, _, _, _, _, _, rfl, (Same.trans (Same.trans (Same.trans (Same.trans eG2066 eG2103) eG2132) eG2320) eG2328), (S2361.sub (all_cons (.tail _ (.tail _ (.head _))) (all_cons (.tail _ (.tail _ (.tail _ (.head _)))) (all_cons (.tail _ (.tail _ (.tail _ (.tail _ (.head _))))) all_nil)))), h2366, h2376, h2377, hw⟩
                                · have hw := cW_neg c2367 hw
                                  refine iteF ?_
                                  refine ⟨_, rfl, _, _, _, rfl, (SqL.of h2364), (by rw [d2333.len, List.length_map]), _, _, rfl, rfl, _, rfl, ?_⟩
                                  refine iteD (fun c2378 => ?_) (fun c2378 => ?_)
                                  · have hw := cW_pos c2378 hw
                                    refine ⟨_, rfl, _, _, rfl, rfl, _, rfl, ?_⟩
                                    refine iteD (fun c2379 => ?_) (fun c2379 => ?_)
                                    · have hw := cW_pos c2379 hw
                                      refine ⟨_, rfl, _, _, rfl, (SqL.of h2362), _, rfl, _, _, rfl, (SqL.of h2366), _, _, rfl, rfl, _, rfl, ?_⟩
                                      refine iteD (fun c2380 => ?_) (fun c2380 => ?_)
                                      · have hw := cW_pos c2380 hw
                                        have hw := cW_ok hw
                                        have hw := hK2069 (.rt _) hw
                                        have hw := hK2053 (.rt _) hw
                                        have hw := cW_ok hw
                                        exact eq_bl (k _) (hK0 _ hw).symm
                                      · have hw := cW_neg c2380 hw
                                        have hw := cW_ok hw
                                        have hw := hK2069 _ hw
                                        have h2381 := (e2355 _ _ (e2340 _ _ (e2323 _ _ h2312)))
                                        have h2382 := (e2355 _ _ (e2340 _ _ (e2323 _ _ h2313)))
                                        exact ⟨_, _, _, _, _, _, _, rfl, (Same.trans (Same.trans (Same.trans (Same.trans eG2066 eG2103) eG2132) eG2320) eG2328), (S2361.sub (all_cons (.tail _ (.tail _ (.head _))) (all_cons (.tail _ (.tail _ (.tail _ (.head _)))) (all_cons (.tail _ (.tail _ (.tail _ (.tail _ (.head _))))) all_nil)))), h2366, h2381, h2382, hw⟩
                                    · have hw := cW_neg c2379 hw
                                      refine iteF ?_
                                      have hw := cW_ok hw
                                      have hw := hK2069 _ hw
                                      have h2383 := (e2355 _ _ (e2340 _ _ (e2323 _ _ h2312)))
                                      have h2384 := (e2355 _ _ (e2340 _ _ (e2323 _ _ h2313)))
                                      exact ⟨_, _, _, _, _, _, _, rfl, (Same.trans (Same.trans (Same.trans (Same.trans eG2066 eG2103) eG2132) eG2320) eG2328), (S2361.sub (all_cons (.tail _ (.tail _ (.head _))) (all_cons (.tail _ (.tail _ (.tail _ (.head _)))) (all_cons (.tail _ (.tail _ (.tail _ (.tail _ (.head _))))) all_nil)))), h2366, h2383, h2384, hw⟩
                                  · have hw := cW_neg c2378 hw
                                    refine iteF ?_
                                    have hw := cW_ok hw
                                    have hw := hK2069 _ hw
                                    have h2385 := (e2355 _ _ (e2340 _ _ (e2323 _ _ h2312)))
                                    have h2386 := (e2355 _ _ (e2340 _ _ (e2323 _ _ h2313)))
                                    exact ⟨_, _, _, _, _, _, _, rfl, (Same.trans (Same.trans (Same.trans (Same.trans eG2066 eG2103) eG2132) eG2320) eG2328), (S2361.sub (all_cons (.tail _ (.tail _ (.head _))) (all_cons (.tail _ (.tail _ (.tail _ (.head _)))) (all_cons (.tail _ (.tail _ (.tail _ (.tail _ (.head _))))) all_nil)))), h2366, h2385, h2386, hw⟩
                              · have hw := cW_neg c2365 hw
                                refine iteF ?_
                                refine ⟨_, rfl, _, _, _, rfl, (SqL.of h2364), (by rw [d2333.len, List.length_map]), _, _, rfl, rfl, _, rfl, ?_⟩
                                refine iteD (fun c2387 => ?_) (fun c2387 => ?_)
                                · have hw := cW_pos c2387 hw
                                  refine ⟨_, rfl, _, _, rfl, rfl, _, rfl, ?_⟩
                                  refine iteD (fun c2388 => ?_) (fun c2388 => ?_)
                                  · have hw := cW_pos c2388 hw
                                    have h2389 := (e2355 _ _ (e2340 _ _ (e2323 _ _ h2311)))
                                    refine ⟨_, rfl, _, _, rfl, (SqL.of h2362), _, rfl, _, _, rfl, (SqL.of h2389), _, _, rfl, rfl, _, rfl, ?_⟩
                                    refine iteD (fun c2390 => ?_) (fun c2390 => ?_)
                                    · have hw := cW_pos c2390 hw
                                      have hw := cW_ok hw
                                      have hw := hK2069 (.rt _) hw
                                      have hw := hK2053 (.rt _) hw
                                      have hw := cW_ok hw
                                      exact eq_bl (k _) (hK0 _ hw).symm
                                    · have hw := cW_neg c2390 hw
                                      have hw := cW_ok hw
                                      have hw := hK2069 _ hw
                                      have h2391 := (e2355 _ _ (e2340 _ _ (e2323 _ _ h2312)))
                                      have h2392 := (e2355 _ _ (e2340 _ _ (e2323 _ _ h2313)))
                                      exact ⟨_, _, _, _, _, _, _, rfl, (Same.trans (Same.trans (Same.trans (Same.trans eG2066 eG2103) eG2132) eG2320) eG2328), (S2361.sub (all_cons (.tail _ (.tail _ (.head _))) (all_cons (.tail _ (.tail _ (.tail _ (.head _)))) (all_cons (.tail _ (.tail _ (.tail _ (.tail _ (.head _))))) all_nil)))), h2389, h2391, h2392, hw⟩
                                  · have hw := cW_neg c2388 hw
                                    refine iteF ?_
                                    have hw := cW_ok hw
                                    have hw := hK2069 _ hw
                                    have h2393 := (e2355 _ _ (e2340 _ _ (e2323 _ _ h2311)))
                                    have h2394 := (e2355 _ _ (e2340 _ _ (e2323 _ _ h2312)))
                                    have h2395 := (e2355 _ _ (e2340 _ _ (e2323 _ _ h2313)))
                                    exact ⟨_, _, _, _, _, _, _, rfl, (Same.trans (Same.trans (Same.trans (Same.trans eG2066 eG2103) eG2132) eG2320) eG2328), (S2361.sub (all_cons (.tail _ (.tail _ (.head _))) (all_cons (.tail _ (.tail _ (.tail _ (.head _)))) (all_cons (.tail _ (.tail _ (.tail _ (.tail _ (.head _))))) all_nil)))), h2393, h2394, h2395, hw⟩
                                · have hw := cW_neg c2387 hw
                                  refine iteF ?_
                                  have hw := cW_ok hw
                                  have hw := hK2069 _ hw
                                  have h2396 := (e2355 _ _ (e2340 _ _ (e2323 _ _ h2311)))
                                  have h2397 := (e2355 _ _ (e2340 _ _ (e2323 _ _ h2312)))
                                  have h2398 := (e2355 _ _ (e2340 _ _ (e2323 _ _ h2313)))
                                  exact ⟨_, _, _, _, _, _, _, rfl, (Same.trans (Same.trans (Same.trans (Same.trans eG2066 eG2103) eG2132) eG2320) eG2328), (S2361.sub (all_cons (.tail _ (.tail _ (.head _))) (all_cons (.tail _ (.tail _ (.tail _ (.head _)))) (all_cons (.tail _ (.tail _ (.tail _ (.tail _ (.head _))))) all_nil)))), h2396, h2397, h2398, hw⟩
                          · have hw := cW_neg c2344 hw
                            refine iteF ?_
                            refine ⟨_, rfl, _, _, _, rfl, (SqL.of h2343), (by rw [d2333.len, List.length_map]), _, _, rfl, rfl, _, rfl, ?_⟩
                            refine iteD (fun c2399 => ?_) (fun c2399 => ?_)
                            · have hw := cW_pos c2399 hw
                              have h2400 := (e2340 _ _ h2337)
                              have h2401 := (e2340 _ _ (e2323 _ _ h2311))
                              refine ⟨_, rfl, _, _, rfl, (SqL.of h2400), _, rfl, _, _, rfl, (SqL.of h2401), _, _, rfl, rfl, _, rfl, ?_⟩
                              refine iteD (fun c2402 => ?_) (fun c2402 => ?_)
                              · have hw := cW_pos c2402 hw
                                refine ⟨_, rfl, _, rfl, _, _, _, rfl, (SqL.of (S2341.sG _ _ (eG2328 _ _ (eG2320 _ _ (eG2132 _ _ (eG2103 _ _ (eG2066 _ _ hg2044))))))), (by rw [(RpAll.mono eG2328 (RpAll.mono eG2320 (RpAll.mono eG2132 (RpAll.mono eG2103 (RpAll.mono eG2066 (RpAll.mono eG2043 (RpAll.mono eG2028 d1983))))))).len, List.length_map]), _, _, rfl, rfl, (.inl ⟨by decide, by decide⟩), _, _, rfl, rfl, _, _, rfl, rfl, _, rfl, ?_⟩
                                refine iteD (fun c2403 => ?_) (fun c2403 => ?_)
                                · have hw := cW_pos c2403 hw
                                  have hw := cW_ok hw
                                  have hw := hK2069 (.rt _) hw
                                  have hw := hK2053 (.rt _) hw
                                  have hw := cW_ok hw
                                  exact eq_bl (k _) (hK0 _ hw).symm
                                · have hw := cW_neg c2403 hw
                                  refine ⟨_, rfl, _, _, _, rfl, (SqL.of h2343), (by rw [d2333.len, List.length_map]), _, _, rfl, rfl, _, rfl, ?_⟩
                                  refine iteD (fun c2404 => ?_) (fun c2404 => ?_)
                                  · have hw := cW_pos c2404 hw
                                    refine ⟨_, rfl, _, _, rfl, rfl, _, rfl, ?_⟩
                                    refine iteD (fun c2405 => ?_) (fun c2405 => ?_)
                                    · have hw := cW_pos c2405 hw
                                      refine ⟨_, rfl, _, _, rfl, (SqL.of h2400), _, rfl, _, _, rfl, (SqL.of h2401), _, _, rfl, rfl, _, rfl, ?_⟩
                                      refine iteD (fun c2406 => ?_) (fun c2406 => ?_)
                                      · have hw := cW_pos c2406 hw
                                        have hw := cW_ok hw
                                        have hw := hK2069 (.rt _) hw
                                        have hw := hK2053 (.rt _) hw
                                        have hw := cW_ok hw
                                        exact eq_bl (k _) (hK0 _ hw).symm
                                      · have hw := cW_neg c2406 hw
                                        have hw := cW_ok hw
                                        have hw := hK2069 _ hw
                                        have h2407 := (e2340 _ _ (e2323 _ _ h2312))
                                        have h2408 := (e2340 _ _ (e2323 _ _ h2313))
                                        exact ⟨_, _, _, _, _, _, _, rfl, (Same.trans (Same.trans (Same.trans (Same.trans eG2066 eG2103) eG2132) eG2320) eG2328), (S2341.sub (all_cons (.tail _ (.head _)) (all_cons (.tail _ (.tail _ (.head _))) (all_cons (.tail _ (.tail _ (.tail _ (.head _)))) all_nil)))), h2401, h2407, h2408, hw⟩
                                    · have hw := cW_neg c2405 hw
                                      refine iteF ?_
                                      have hw := cW_ok hw
                                      have hw := hK2069 _ hw
                                      have h2409 := (e2340 _ _ (e2323 _ _ h2312))
                                      have h2410 := (e2340 _ _ (e2323 _ _ h2313))
                                      exact ⟨_, _, _, _, _, _, _, rfl, (Same.trans (Same.trans (Same.trans (Same.trans eG2066 eG2103) eG2132) eG2320) eG2328), (S2341.sub (all_cons (.tail _ (.head _)) (all_cons (.tail _ (.tail _ (.head _))) (all_cons (.tail _ (.tail _ (.tail _ (.head _)))) all_nil)))), h2401, h2409, h2410, hw⟩
                                  · have hw := cW_neg c2404 hw
                                    refine iteF ?_
                                    have hw := cW_ok hw
                                    have hw := hK2069 _ hw
                                    have h2411 := (e2340 _ _ (e2323 _ _ h2312))
                                    have h2412 := (e2340 _ _ (e2323 _ _ h2313))
                                    exact ⟨_, _, _, _, _, _, _, rfl, (Same.trans (Same.trans (Same.trans (Same.trans eG2066 eG2103) eG2132) eG2320) eG2328), (S2341.sub (all_cons (.tail _ (.head _)) (all_cons (.tail _ (.tail _ (.head _))) (all_cons (.tail _ (.tail _ (.tail _ (.head _)))) all_nil)))), h2401, h2411, h2412, hw⟩
                              · have hw := cW_neg c2402 hw
                                refine iteF ?_
                                refine ⟨_, rfl, _, _, _, rfl, (SqL.of h2343), (by rw [d2333.len, List.length_map]), _, _, rfl, rfl, _, rfl, ?_⟩
                                refine iteD (fun c2413 => ?_) (fun c2413 => ?_)
                                · have hw := cW_pos c2413 hw
                                  refine ⟨_, rfl, _, _, rfl, rfl, _, rfl, ?_⟩
                                  refine iteD (fun c2414 => ?_) (fun c2414 => ?_)
                                  · have hw := cW_pos c2414 hw
                                    refine ⟨_, rfl, _, _, rfl, (SqL.of h2400), _, rfl, _, _, rfl, (SqL.of h2401), _, _, rfl, rfl, _, rfl, ?_⟩
                                    refine iteD (fun c2415 => ?_) (fun c2415 => ?_)
                                    · have hw := cW_pos c2415 hw
                                      have hw := cW_ok hw
                                      have hw := hK2069 (.rt _) hw
                                      have hw := hK2053 (.rt _) hw
                                      have hw := cW_ok hw
                                      exact eq_bl (k _) (hK0 _ hw).symm
                                    · have hw := cW_neg c2415 hw
                                      have hw := cW_ok hw
                                      have hw := hK2069 _ hw
                                      have h2416 := (e2340 _ _ (e2323 _ _ h2312))
                                      have h2417 := (e2340 _ _ (e2323 _ _ h2313))
                                      exact ⟨_, _, _, _, _, _, _, rfl, (Same.trans (Same.trans (Same.trans (Same.trans eG2066 eG2103) eG2132) eG2320) eG2328), (S2341.sub (all_cons (.tail _ (.head _)) (all_cons (.tail _ (.tail _ (.head _))) (all_cons (.tail _ (.tail _ (.tail _ (.head _)))) all_nil)))), h2401, h2416, h2417, hw⟩
                                  · have hw := cW_neg c2414 hw
                                    refine iteF ?_
                                    have hw := cW_ok hw
                                    have hw := hK2069 _ hw
                                    have h2418 := (e2340 _ _ (e2323 _ _ h2312))
                                    have h2419 := (e2340 _ _ (e2323 _ _ h2313))
                                    exact ⟨_, _, _, _, _, _, _, rfl, (Same.trans (Same.trans (Same.trans (Same.trans eG2066 eG2103) eG2132) eG2320) eG2328), (S2341.sub (all_cons (.tail _ (.head _)) (all_cons (.tail _ (.tail _ (.head _))) (all_cons (.tail _ (.tail _ (.tail _ (.head _)))) all_nil)))), h2401, h2418, h2419, hw⟩
                                · have hw := cW_neg c2413 hw
                                  refine iteF ?_
                                  have hw := cW_ok hw
                                  have hw := hK2069 _ hw
                                  have h2420 := (e2340 _ _ (e2323 _ _ h2312))
                                  have h2421 := (e2340 _ _ (e2323 _ _ h2313))
                                  exact ⟨_, _, _, _, _, _, _, rfl, (Same.trans (Same.trans (Same.trans (Same.trans eG2066 eG2103) eG2132) eG2320) eG2328), (S2341.sub (all_cons (.tail _ (.head _)) (all_cons (.tail _ (.tail _ (.head _))) (all_cons (.tail _ (.tail _ (.tail _ (.head _)))) all_nil)))), h2401, h2420, h2421, hw⟩
                            · have hw := cW_neg c2399 hw
                              refine iteF ?_
                              refine ⟨_, rfl, _, _, _, rfl, (SqL.of h2343), (by rw [d2333.len, List.length_map]), _, _, rfl, rfl, _, rfl, ?_⟩
                              refine iteD (fun c2422 => ?_) (fun c2422 => ?_)
                              · have hw := cW_pos c2422 hw
                                refine ⟨_, rfl, _, _, rfl, rfl, _, rfl, ?_⟩
                                refine iteD (fun c2423 => ?_) (fun c2423 => ?_)
                                · have hw := cW_pos c2423 hw
                                  have h2424 := (e2340 _ _ h2337)
                                  have h2425 := (e2340 _ _ (e2323 _ _ h2311))
                                  refine ⟨_, rfl, _, _, rfl, (SqL.of h2424), _, rfl, _, _, rfl, (SqL.of h2425), _, _, rfl, rfl, _, rfl, ?_⟩
                                  refine iteD (fun c2426 => ?_) (fun c2426 => ?_)
                                  · have hw := cW_pos c2426 hw
                                    have hw := cW_ok hw
                                    have hw := hK2069 (.rt _) hw
                                    have hw := hK2053 (.rt _) hw
                                    have hw := cW_ok hw
                                    exact eq_bl (k _) (hK0 _ hw).symm
                                  · have hw := cW_neg c2426 hw
                                    have hw := cW_ok hw
                                    have hw := hK2069 _ hw
                                    have h2427 := (e2340 _ _ (e2323 _ _ h2312))
                                    have h2428 := (e2340 _ _ (e2323 _ _ h2313))
                                    exact ⟨_, _, _, _, _, _, _, rfl, (Same.trans (Same.trans (Same.trans (Same.trans eG2066 eG2103) eG2132) eG2320) eG2328), (S2341.sub (all_cons (.tail _ (.head _)) (all_cons (.tail _ (.tail _ (.head _))) (all_cons (.tail _ (.tail _ (.tail _ (.head _)))) all_nil)))), h2425, h2427, h2428, hw⟩
                                · have hw := cW_neg c2423 hw
                                  refine iteF ?_
                                  have hw := cW_ok hw
                                  have hw := hK2069 _ hw
                                  have h2429 := (e2340 _ _ (e2323 _ _ h2311))
                                  have h2430 := (e2340 _ _ (e2323 _ _ h2312))
                                  have h2431 := (e2340 _ _ (e2323 _ _ h2313))
                                  exact ⟨_, _, _, _, _, _, _, rfl, (Same.trans (Same.trans (Same.trans (Same.trans eG2066 eG2103) eG2132) eG2320) eG2328), (S2341.sub (all_cons (.tail _ (.head _)) (all_cons (.tail _ (.tail _ (.head _))) (all_cons (.tail _ (.tail _ (.tail _ (.head _)))) all_nil)))), h2429, h2430, h2431, hw⟩
                              · have hw := cW_neg c2422 hw
                                refine iteF ?_
                                have hw := cW_ok hw
                                have hw := hK2069 _ hw
                                have h2432 := (e2340 _ _ (e2323 _ _ h2311))
                                have h2433 := (e2340 _ _ (e2323 _ _ h2312))
                                have h2434 := (e2340 _ _ (e2323 _ _ h2313))
                                exact ⟨_, _, _, _, _, _, _, rfl, (Same.trans (Same.trans (Same.trans (Same.trans eG2066 eG2103) eG2132) eG2320) eG2328), (S2341.sub (all_cons (.tail _ (.head _)) (all_cons (.tail _ (.tail _ (.head _))) (all_cons (.tail _ (.tail _ (.tail _ (.head _)))) all_nil)))), h2432, h2433, h2434, hw⟩
                      · have hw := cW_neg c2336 hw
                        refine iteF ?_
                        refine ⟨_, rfl, _, _, _, rfl, (SqL.of h2332), (by rw [d2333.len, List.length_map]), _, _, rfl, rfl, _, rfl, ?_⟩
                        refine iteD (fun c2435 => ?_) (fun c2435 => ?_)
                        · have hw := cW_pos c2435 hw
                          obtain ⟨g2436, hw⟩ := cW_grd hw
                          obtain ⟨v2437, a2438, r2439⟩ := RpAll.ixD (k := 0) d2333 g2436
                          obtain ⟨a2440, vs2441, rfl, h2442, d2443⟩ := rp_list r2439
                          refine ⟨_, rfl, _, _, _, _, rfl, rfl, (SqL.of h2332), a2438, rfl, rfl, G2326, _, _, rfl, S2334.sG, (Rp.hide_nil (rp_mk_list (S2334.sG _ _ h2442) (RpAll.mono S2334.sG d2443))), cW_call hw (fun v2444 hw p2447 H2445 n2448 e2446 h2449 => ?_) (fun e he => (hE e he).elim)⟩
                          have h2450 : H2445 p2447 = some (.lst ((v2444 : (List Int)).map V.int)) := h2449
                          have fr2451 := S2334.free n2448
                          have S2452 := S2334.new n2448 e2446 h2450 fr2451
                          have h2453 := (e2446 _ _ (e2323 _ _ h2314))
                          refine ⟨_, rfl, _, _, (rp_mk_ints h2450), (rp_mk_ints h2453), _, rfl, ?_⟩
                          refine iteN (fun c2454 => ?_) (fun c2454 => ?_)
                          · have hw := cW_neg c2454 hw
                            have hw := cW_ok hw
                            have hw := hK2069 (.rt _) hw
                            have hw := hK2053 (.rt _) hw
                            have hw := cW_ok hw
                            exact eq_bl (k _) (hK0 _ hw).symm
                          · have hw := cW_pos c2454 hw
                            have h2455 := (e2446 _ _ h2332)
                            refine ⟨_, rfl, _, _, _, rfl, (SqL.of h2455), (by rw [d2333.len, List.length_map]), _, _, rfl, rfl, _, rfl, ?_⟩
                            refine iteD (fun c2456 => ?_) (fun c2456 => ?_)
                            · have hw := cW_pos c2456 hw
                              have h2457 := (e2446 _ _ (e2323 _ _ h2311))
                              refine ⟨_, rfl, _, _, rfl, (SqL.of h2453), _, rfl, _, _, rfl, (SqL.of h2457), _, _, rfl, rfl, _, rfl, ?_⟩
                              refine iteD (fun c2458 => ?_) (fun c2458 => ?_)
                              · have hw := cW_pos c2458 hw
                                refine ⟨_, rfl, _, rfl, _, _, _, rfl, (SqL.of (S2452.sG _ _ (eG2328 _ _ (eG2320 _ _ (eG2132 _ _ (eG2103 _ _ (eG2066 _ _ hg2044))))))), (by rw [(RpAll.mono eG2328 (RpAll.mono eG2320 (RpAll.mono eG2132 (RpAll.mono eG2103 (RpAll.mono eG2066 (RpAll.mono eG2043 (RpAll.mono eG2028 d1983))))))).len, List.length_map]), _, _, rfl, rfl, (.inl ⟨by decide, by decide⟩), _, _, rfl, rfl, _, _, rfl, rfl, _, rfl, ?_⟩
                                refine iteD (fun c2459 => ?_) (fun c2459 => ?_)
                                · have hw := cW_pos c2459 hw
                                  have hw := cW_ok hw
                                  have hw := hK2069 (.rt _) hw
                                  have hw := hK2053 (.rt _) hw
                                  have hw := cW_ok hw
                                  exact eq_bl (k _) (hK0 _ hw).symm
                                · have hw := cW_neg c2459 hw
                                  refine ⟨_, rfl, _, _, _, rfl, (SqL.of h2455), (by rw [d2333.len, List.length_map]), _, _, rfl, rfl, _, rfl, ?_⟩
                                  refine iteD (fun c2460 => ?_) (fun c2460 => ?_)
                                  · have hw := cW_pos c2460 hw
                                    refine ⟨_, rfl, _, _, rfl, rfl, _, rfl, ?_⟩
                                    refine iteD (fun c2461 => ?_) (fun c2461 => ?_)
                                    · have hw := cW_pos c2461 hw
                                      refine ⟨_, rfl, _, _, rfl, (SqL.of h2453), _, rfl, _, _, rfl, (SqL.of h2457), _, _, rfl, rfl, _, rfl, ?_⟩
                                      refine iteD (fun c2462 => ?_) (fun c2462 => ?_)
                                      · have hw := cW_pos c2462 hw
                                        have hw := cW_ok hw
                                        have hw := hK2069 (.rt _) hw
                                        have hw := hK2053 (.rt _) hw
                                        have hw := cW_ok hw
                                        exact eq_bl (k _) (hK0 _ hw).symm
                                      · have hw := cW_neg c2462 hw
                                        have hw := cW_ok hw
                                        have hw := hK2069 _ hw
                                        have h2463 := (e2446 _ _ (e2323 _ _ h2312))
                                        have h2464 := (e2446 _ _ (e2323 _ _ h2313))
                                        exact ⟨_, _, _, _, _, _, _, rfl, (Same.trans (Same.trans (Same.trans (Same.trans eG2066 eG2103) eG2132) eG2320) eG2328), (S2452.sub (all_cons (.tail _ (.tail _ (.head _))) (all_cons (.tail _ (.tail _ (.tail _ (.head _)))) (all_cons (.tail _ (.tail _ (.tail _ (.tail _ (.head _))))) all_nil)))), h2457, h2463, h2464, hw⟩
                                    · have hw := cW_neg c2461 hw
                                      refine iteF ?_
                                      have hw := cW_ok hw
                                      have hw := hK2069 _ hw
                                      have h2465 := (e2446 _ _ (e2323 _ _ h2312))
                                      have h2466 := (e2446 _ _ (e2323 _ _ h2313))
                                      exact ⟨_, _, _, _, _, _, _, rfl, (Same.trans (Same.trans (Same.trans (Same.trans eG2066 eG2103) eG2132) eG2320) eG2328), (S2452.sub (all_cons (.tail _ (.tail _ (.head _))) (all_cons (.tail _ (.tail _ (.tail _ (.head _)))) (all_cons (.tail _ (.tail _ (.tail _ (.tail _ (.head _))))) all_nil)))), h2457, h2465, h2466, hw⟩
                                  · have hw := cW_neg c2460 hw
                                    refine iteF ?_
                                    have hw := cW_ok hw
                                    have hw := hK2069 _ hw
                                    have h2467 := (e2446 _ _ (e2323 _ _ h2312))
                                    have h2468 := (e2446 _ _ (e2323 _ _ h2313))
                                    exact ⟨_, _, _, _, _, _, _, rfl, (Same.trans (Same.trans (Same.trans (Same.trans eG2066 eG2103) eG2132) eG2320) eG2328), (S2452.sub (all_cons (.tail _ (.tail _ (.head _))) (all_cons (.tail _ (.tail _ (.tail _ (.head _)))) (all_cons (.tail _ (.tail _ (.tail _ (.tail _ (.head _))))) all_nil)))), h2457, h2467, h2468, hw⟩
                              · have hw := cW_neg c2458 hw
                                refine iteF ?_
                                refine ⟨_, rfl, _, _, _, rfl, (SqL.of h2455), (by rw [d2333.len, List.length_map]), _, _, rfl, rfl, _, rfl, ?_⟩
                                refine iteD (fun c2469 => ?_) (fun c2469 => ?_)
                                · have hw := cW_pos c2469 hw
                                  refine ⟨_, rfl, _, _, rfl, rfl, _, rfl, ?_⟩
                                  refine iteD (fun c2470 => ?_) (fun c2470 => ?_)
                                  · have hw := cW_pos c2470 hw
                                    refine ⟨_, rfl, _, _, rfl, (SqL.of h2453), _, rfl, _, _, rfl, (SqL.of h2457), _, _, rfl, rfl, _, rfl, ?_⟩
                                    refine iteD (fun c2471 => ?_) (fun c2471 => ?_)
                                    · have hw := cW_pos c2471 hw
                                      have hw := cW_ok hw
                                      have hw := hK2069 (.rt _) hw
                                      have hw := hK2053 (.rt _) hw
                                      have hw := cW_ok hw
                                      exact eq_bl (k _) (hK0 _ hw).symm
                                    · have hw := cW_neg c2471 hw
                                      have hw := cW_ok hw
                                      have hw := hK2069 _ hw
                                      have h2472 := (e2446 _ _ (e2323 _ _ h2312))
                                      have h2473 := (e2446 _ _ (e2323 _ _ h2313))
                                      exact ⟨_, _, _, _, _, _, _, rfl, (Same.trans (Same.trans (Same.trans (Same.trans eG2066 eG2103) eG2132) eG2320) eG2328), (S2452.sub (all_cons (.tail _ (.tail _ (.head _))) (all_cons (.tail _ (.tail _ (.tail _ (.head _)))) (all_cons (.tail _ (.tail _ (.tail _ (.tail _ (.head _))))) all_nil)))), h2457, h2472, h2473, hw⟩
                                  · have hw := cW_neg c2470 hw
                                    refine iteF ?_
                                    have hw := cW_ok hw
                                    have hw := hK2069 _ hw
                                    have h2474 := (e2446 _ _ (e2323 _ _ h2312))
                                    have h2475 := (e2446 _ _ (e2323 _ _ h2313))
                                    exact ⟨_, _, _, _, _, _, _, rfl, (Same.trans (Same.trans (Same.trans (Same.trans eG2066 eG2103) eG2132) eG2320) eG2328), (S2452.sub (all_cons (.tail _ (.tail _ (.head _))) (all_cons (.tail _ (.tail _ (.tail _ (.head _)))) (all_cons (.tail _ (.tail _ (.tail _ (.tail _ (.head _))))) all_nil)))), h2457, h2474, h2475, hw⟩
                                · have hw := cW_neg c2469 hw
                                  refine iteF ?_
                                  have hw := cW_ok hw
                                  have hw := hK2069 _ hw
                                  have h2476 := (e2446 _ _ (e2323 _ _ h2312))
                                  have h2477 := (e2446 _ _ (e2323 _ _ h2313))
                                  exact ⟨_, _, _, _, _, _, _, rfl, (Same.trans (Same.trans (Same.trans (Same.trans eG2066 eG2103) eG2132) eG2320) eG2328), (S2452.sub (all_cons (.tail _ (.tail _ (.head _))) (all_cons (.tail _ (.tail _ (.tail _ (.head _)))) (all_cons (.tail _ (.tail _ (.tail _ (.tail _ (.head _))))) all_nil)))), h2457, h2476, h2477, hw⟩
                            · have hw := cW_neg c2456 hw
                              refine iteF ?_
                              refine ⟨_, rfl, _, _, _, rfl, (SqL.of h2455), (by rw [d2333.len, List.length_map]), _, _, rfl, rfl, _, rfl, ?_⟩
                              refine iteD (fun c2478 => ?_) (fun c2478 => ?_)
                              · have hw := cW_pos c2478 hw
                                refine ⟨_, rfl, _, _, rfl, rfl, _, rfl, ?_⟩
                                refine iteD (fun c2479 => ?_) (fun c2479 => ?_)
                                · have hw := cW_pos c2479 hw
                                  have h2480 := (e2446 _ _ (e2323 _ _ h2311))
                                  refine ⟨_, rfl, _, _, rfl, (SqL.of h2453), _, rfl, _, _, rfl, (SqL.of h2480), _, _, rfl, rfl, _, rfl, ?_⟩
                                  refine iteD (fun c2481 => ?_) (fun c2481 => ?_)
                                  · have hw := cW_pos c2481 hw
                                    have hw := cW_ok hw
                                    have hw := hK2069 (.rt _) hw
                                    have hw := hK2053 (.rt _) hw
                                    have hw := cW_ok hw
                                    exact eq_bl (k _) (hK0 _ hw).symm
                                  · have hw := cW_neg c2481 hw
                                    have hw := cW_ok hw
                                    have hw := hK2069 _ hw
                                    have h2482 := (e2446 _ _ (e2323 _ _ h2312))
                                    have h2483 := (e2446 _ _ (e2323 _ _ h2313))
                                    exact ⟨_, _, _, _, _, _, _, rfl, (Same.trans (Same.trans (Same.trans (Same.trans eG2066 eG2103) eG2132) eG2320) eG2328), (S2452.sub (all_cons (.tail _ (.tail _ (.head _))) (all_cons (.tail _ (.tail _ (.tail _ (.head _)))) (all_cons (.tail _ (.tail _ (.tail _ (.tail _ (.head _))))) all_nil)))), h2480, h2482, h2483, hw⟩
                                · have hw := cW_neg c2479 hw
                                  refine iteF ?_
                                  have hw := cW_ok hw
                                  have hw := hK2069 _ hw
                                  have h2484 := (e2446 _ _ (e2323 _ _ h2311))
                                  have h2485 := (e2446 _ _ (e2323 _ _ h2312))
                                  have h2486 := (e2446 _ _ (e2323 _ _ h2313))
                                  exact ⟨_, _, _, _, _, _, _, rfl, (Same.trans (Same.trans (Same.trans (Same.trans eG2066 eG2103) eG2132) eG2320) eG2328), (S2452.sub (all_cons (.tail _ (.tail _ (.head _))) (all_cons (.tail _ (.tail _ (.tail _ (.head _)))) (all_cons (.tail _ (.tail _ (.tail _ (.tail _ (.head _))))) all_nil)))), h2484, h2485, h2486, hw⟩
                              · have hw := cW_neg c2478 hw
                                refine iteF ?_
                                have hw := cW_ok hw
                                have hw := hK2069 _ hw
                                have h2487 := (e2446 _ _ (e2323 _ _ h2311))
                                have h2488 := (e2446 _ _ (e2323 _ _ h2312))
                                have h2489 := (e2446 _ _ (e2323 _ _ h2313))
                                exact ⟨_, _, _, _, _, _, _, rfl, (Same.trans (Same.trans (Same.trans (Same.trans eG2066 eG2103) eG2132) eG2320) eG2328), (S2452.sub (all_cons (.tail _ (.tail _ (.head _))) (all_cons (.tail _ (.tail _ (.tail _ (.head _)))) (all_cons (.tail _ (.tail _ (.tail _ (.tail _ (.head _))))) all_nil)))), h2487, h2488, h2489, hw⟩
                        · have hw := cW_neg c2435 hw
                          refine iteF ?_
                          refine ⟨_, rfl, _, _, _, rfl, (SqL.of h2332), (by rw [d2333.len, List.length_map]), _, _, rfl, rfl, _, rfl, ?_⟩
                          refine iteD (fun c2490 => ?_) (fun c2490 => ?_)
                          · have hw := cW_pos c2490 hw
                            have h2491 := (e2323 _ _ h2314)
                            have h2492 := (e2323 _ _ h2311)
                            refine ⟨_, rfl, _, _, rfl, (SqL.of h2491), _, rfl, _, _, rfl, (SqL.of h2492), _, _, rfl, rfl, _, rfl, ?_⟩
                            refine iteD (fun c2493 => ?_) (fun c2493 => ?_)
                            · have hw := cW_pos c2493 hw
                              refine ⟨_, rfl, _, rfl, _, _, _, rfl, (SqL.of (S2334.sG _ _ (eG2328 _ _ (eG2320 _ _ (eG2132 _ _ (eG2103 _ _ (eG2066 _ _ hg2044))))))), (by rw [(RpAll.mono eG2328 (RpAll.mono eG2320 (RpAll.mono eG2132 (RpAll.mono eG2103 (RpAll.mono eG2066 (RpAll.mono eG2043 (RpAll.mono eG2028 d1983))))))).len, List.length_map]), _, _, rfl, rfl, (.inl ⟨by decide, by decide⟩), _, _, rfl, rfl, _, _, rfl, rfl, _, rfl, ?_⟩
                              refine iteD (fun c2494 => ?_) (fun c2494 => ?_)
                              · have hw := cW_pos c2494 hw
                                have hw := cW_ok hw
                                have hw := hK2069 (.rt _) hw
                                have hw := hK2053 (.rt _) hw
                                have hw := cW_ok hw
                                exact eq_bl (k _) (hK0 _ hw).symm
                              · have hw := cW_neg c2494 hw
                                refine ⟨_, rfl, _, _, _, rfl, (SqL.of h2332), (by rw [d2333.len, List.length_map]), _, _, rfl, rfl, _, rfl, ?_⟩
                                refine iteD (fun c2495 => ?_) (fun c2495 => ?_)
                                · have hw := cW_pos c2495 hw
                                  refine ⟨_, rfl, _, _, rfl, rfl, _, rfl, ?_⟩
                                  refine iteD (fun c2496 => ?_) (fun c2496 => ?_)
                                  · have hw := cW_pos c2496 hw
                                    refine ⟨_, rfl, _, _, rfl, (SqL.of h2491), _, rfl, _, _, rfl, (SqL.of h2492), _, _, rfl, rfl, _, rfl, ?_⟩
                                    refine iteD (fun c2497 => ?_) (fun c2497 => ?_)
                                    · have hw := cW_pos c2497 hw
                                      have hw := cW_ok hw
                                      have hw := hK2069 (.rt _) hw
                                      have hw := hK2053 (.rt _) hw
                                      have hw := cW_ok hw
                                      exact eq_bl (k _) (hK0 _ hw).symm
                                    · have hw := cW_neg c2497 hw
                                      have hw := cW_ok hw
                                      have hw := hK2069 _ hw
                                      have h2498 := (e2323 _ _ h2312)
                                      have h2499 := (e2323 _ _ h2313)
                                      exact ⟨_, _, _, _, _, _, _, rfl, (Same.trans (Same.trans (Same.trans (Same.trans eG2066 eG2103) eG2132) eG2320) eG2328), (S2334.sub (all_cons (.tail _ (.head _)) (all_cons (.tail _ (.tail _ (.head _))) (all_cons (.tail _ (.tail _ (.tail _ (.head _)))) all_nil)))), h2492, h2498, h2499, hw⟩
                                  · have hw := cW_neg c2496 hw
                                    refine iteF ?_
                                    have hw := cW_ok hw
                                    have hw := hK2069 _ hw
                                    have h2500 := (e2323 _ _ h2312)
                                    have h2501 := (e2323 _ _ h2313)
                                    exact ⟨_, _, _, _, _, _, _, rfl, (Same.trans (Same.trans (Same.trans (Same.trans eG2066 eG2103) eG2132) eG2320) eG2328), (S2334.sub (all_cons (.tail _ (.head _)) (all_cons (.tail _ (.tail _ (.head _))) (all_cons (.tail _ (.tail _ (.tail _ (.head _)))) all_nil)))), h2492, h2500, h2501, hw⟩
                                · have hw := cW_neg c2495 hw
                                  refine iteF ?_
                                  have hw := cW_ok hw
                                  have hw := hK2069 _ hw
                                  have h2502 := (e2323 _ _ h2312)
                                  have h2503 := (e2323 _ _ h2313)
                                  exact ⟨_, _, _, _, _, _, _, rfl, (Same.trans (Same.trans (Same.trans (Same.trans eG2066 eG2103) eG2132) eG2320) eG2328), (S2334.sub (all_cons (.tail _ (.head _)) (all_cons (.tail _ (.tail _ (.head _))) (all_cons (.tail _ (.tail _ (.tail _ (.head _)))) all_nil)))), h2492, h2502, h2503, hw⟩
                            · have hw := cW_neg c2493 hw
                              refine iteF ?_
                              refine ⟨_, rfl, _, _, _, rfl, (SqL.of h2332), (by rw [d2333.len, List.length_map]), _, _, rfl, rfl, _, rfl, ?_⟩
                              refine iteD (fun c2504 => ?_) (fun c2504 => ?_)
                              · have hw := cW_pos c2504 hw
                                refine ⟨_, rfl, _, _, rfl, rfl, _, rfl, ?_⟩
                                refine iteD (fun c2505 => ?_) (fun c2505 => ?_)
                                · have hw := cW_pos c2505 hw
                                  refine ⟨_, rfl, _, _, rfl, (SqL.of h2491), _, rfl, _, _, rfl, (SqL.of h2492), _, _, rfl, rfl, _, rfl, ?_⟩
                                  refine iteD (fun c2506 => ?_) (fun c2506 => ?_)
                                  · have hw := cW_pos c2506 hw
                                    have hw := cW_ok hw
                                    have hw := hK2069 (.rt _) hw
                                    have hw := hK2053 (.rt _) hw
                                    have hw := cW_ok hw
                                    exact eq_bl (k _) (hK0 _ hw).symm
                                  · have hw := cW_neg c2506 hw
                                    have hw := cW_ok hw
                                    have hw := hK2069 _ hw
                                    have h2507 := (e2323 _ _ h2312)
                                    have h2508 := (e2323 _ _ h2313)
                                    exact ⟨_, _, _, _, _, _, _, rfl, (Same.trans (Same.trans (Same.trans (Same.trans eG2066 eG2103) eG2132) eG2320) eG2328), (S2334.sub (all_cons (.tail _ (.head _)) (all_cons (.tail _ (.tail _ (.head _))) (all_cons (.tail _ (.tail _ (.tail _ (.head _)))) all_nil)))), h2492, h2507, h2508, hw⟩
                                · have hw := cW_neg c2505 hw
                                  refine iteF ?_
                                  have hw := cW_ok hw
                                  have hw := hK2069 _ hw
                                  have h2509 := (e2323 _ _ h2312)
                                  have h2510 := (e2323 _ _ h2313)
                                  exact ⟨_, _, _, _, _, _, _, rfl, (Same.trans (Same.trans (Same.trans (Same.trans eG2066 eG2103) eG2132) eG2320) eG2328), (S2334.sub (all_cons (.tail _ (.head _)) (all_cons (.tail _ (.tail _ (.head _))) (all_cons (.tail _ (.tail _ (.tail _ (.head _)))) all_nil)))), h2492, h2509, h2510, hw⟩
                              · have hw := cW_neg c2504 hw
                                refine iteF ?_
                                have hw := cW_ok hw
                                have hw := hK2069 _ hw
                                have h2511 := (e2323 _ _ h2312)
                                have h2512 := (e2323 _ _ h2313)
                                exact ⟨_, _, _, _, _, _, _, rfl, (Same.trans (Same.trans (Same.trans (Same.trans eG2066 eG2103) eG2132) eG2320) eG2328), (S2334.sub (all_cons (.tail _ (.head _)) (all_cons (.tail _ (.tail _ (.head _))) (all_cons (.tail _ (.tail _ (.tail _ (.head _)))) all_nil)))), h2492, h2511, h2512, hw⟩
                          · have hw := cW_neg c2490 hw
                            refine iteF ?_
                            refine ⟨_, rfl, _, _, _, rfl, (SqL.of h2332), (by rw [d2333.len, List.length_map]), _, _, rfl, rfl, _, rfl, ?_⟩
                            refine iteD (fun c2513 => ?_) (fun c2513 => ?_)
                            · have hw := cW_pos c2513 hw
                              refine ⟨_, rfl, _, _, rfl, rfl, _, rfl, ?_⟩
                              refine iteD (fun c2514 => ?_) (fun c2514 => ?_)
                              · have hw := cW_pos c2514 hw
                                have h2515 := (e2323 _ _ h2314)
                                have h2516 := (e2323 _ _ h2311)
                                refine ⟨_, rfl, _, _, rfl, (SqL.of h2515), _, rfl, _, _, rfl, (SqL.of h2516), _, _, rfl, rfl, _, rfl, ?_⟩
                                refine iteD (fun c2517 => ?_) (fun c2517 => ?_)
                                · have hw := cW_pos c2517 hw
                                  have hw := cW_ok hw
                                  have hw := hK2069 (.rt _) hw
                                  have hw := hK2053 (.rt _) hw
                                  have hw := cW_ok hw
                                  exact eq_bl (k _) (hK0 _ hw).symm
                                · have hw := cW_neg c2517 hw
                                  have hw := cW_ok hw
                                  have hw := hK2069 _ hw
                                  have h2518 := (e2323 _ _ h2312)
                                  have h2519 := (e2323 _ _ h2313)
                                  exact ⟨_, _, _, _, _, _, _, rfl, (Same.trans (Same.trans (Same.trans (Same.trans eG2066 eG2103) eG2132) eG2320) eG2328), (S2334.sub (all_cons (.tail _ (.head _)) (all_cons (.tail _ (.tail _ (.head _))) (all_cons (.tail _ (.tail _ (.tail _ (.head _)))) all_nil)))), h2516, h2518, h2519, hw⟩
                              · have hw := cW_neg c2514 hw
                                refine iteF ?_
                                have hw := cW_ok hw
                                have hw := hK2069 _ hw
                                have h2520 := (e2323 _ _ h2311)
                                have h2521 := (e2323 _ _ h2312)
                                have h2522 := (e2323 _ _ h2313)
                                exact ⟨_, _, _, _, _, _, _, rfl, (Same.trans (Same.trans (Same.trans (Same.trans eG2066 eG2103) eG2132) eG2320) eG2328), (S2334.sub (all_cons (.tail _ (.head _)) (all_cons (.tail _ (.tail _ (.head _))) (all_cons (.tail _ (.tail _ (.tail _ (.head _)))) all_nil)))), h2520, h2521, h2522, hw⟩
                            · have hw := cW_neg c2513 hw
                              refine iteF ?_
                              have hw := cW_ok hw
                              have hw := hK2069 _ hw
                              have h2523 := (e2323 _ _ h2311)
                              have h2524 := (e2323 _ _ h2312)
                              have h2525 := (e2323 _ _ h2313)
                              exact ⟨_, _, _, _, _, _, _, rfl, (Same.trans (Same.trans (Same.trans (Same.trans eG2066 eG2103) eG2132) eG2320) eG2328), (S2334.sub (all_cons (.tail _ (.head _)) (all_cons (.tail _ (.tail _ (.head _))) (all_cons (.tail _ (.tail _ (.tail _ (.head _)))) all_nil)))), h2523, h2524, h2525, hw⟩
            · intro σ H2526 hw
              obtain ⟨u2054, u2055, u2056, u2057, u2058, u2059, G2531, rfl, eG2532, S2527, h2528, h2529, h2530, hw⟩ := hw
              have hw := cW_aftgo (hK2053 _ (cW_forR0 (rng_len _ _).symm hw))
              have hw : cW (F_law_r1 (v1970) (v1971) ) _ EE := hw
              unfold F_law_r1 at hw
              refine ⟨_, rfl, _, rfl, _, _, rfl, rfl, (divW_lit (by decide) (by decide)), rfl, rfl, G2531, _, _, _, rfl, S2527.sG, (rp_mk_list (eG2532 _ _ hg2044) (RpAll.mono eG2532 (RpAll.mono eG2043 (RpAll.mono eG2028 d1983)))), cW_call hw (fun v2533 hw H2534 e2535 => ?_) (fun e he => (hE e he).elim)⟩
              have S2536 := S2527.same e2535
              have hw := cW_ok hw
              exact eq_bl (k _) (hK0 _ hw).symm
end
def spL (K : PySem.W.Frag) : Sp := fun vs H Q _ => ∃ (a_script : Addr) (script : List Int), vs = [.ref a_script] ∧ SqL K H a_script (script.map V.int) ∧ script.length ≤ 63 ∧ ∀ H', Q (.bl true) H'
theorem all_mk {l : PySem.W.OpenLaw} {w : World} {K : PySem.W.Frag} {h : Heap} {mg : Str → Option Value} {fa : Addr} (X : K.In h) (G : h.Ns mainGlobals mg) (hfa : mg "law" = some (.ref fa))
    {f0 f1 f2 f3 f4 f5 f6 f7 f8 f9 f10 f11 f12 f13 f14 f15 f16 f17 XCodecError XOutOfRange XBadContainer : Addr} {od0 an0 od1 an1 od2 an2 od3 an3 od4 an4 od5 an5 od6 an6 od7 an7 od8 an8 od9 an9 od10 an10 od11 an11 od12 an12 od13 an13 od14 an14 od15 an15 od16 an16 od17 an17 : Option Addr} {sl0 sl1 sl2 sl3 sl4 sl5 sl6 sl7 sl8 sl9 sl10 sl11 sl12 sl13 sl14 sl15 sl16 sl17 : Array (Option Value)} {oc0 kV0 dc0 pm0 cd0 ct0 oc1 kV1 dc1 pm1 cd1 ct1 oc2 kV2 dc2 pm2 cd2 ct2 oc3 kV3 dc3 pm3 cd3 ct3 oc4 kV4 dc4 pm4 cd4 ct4 oc5 kV5 dc5 pm5 cd5 ct5 oc6 kV6 dc6 pm6 cd6 ct6 oc7 kV7 dc7 pm7 cd7 ct7 oc8 kV8 dc8 pm8 cd8 ct8 oc9 kV9 dc9 pm9 cd9 ct9 oc10 kV10 dc10 pm10 cd10 ct10 oc11 kV11 dc11 pm11 cd11 ct11 oc12 kV12 dc12 pm12 cd12 ct12 oc13 kV13 dc13 pm13 cd13 ct13 oc14 kV14 dc14 pm14 cd14 ct14 oc15 kV15 dc15 pm15 cd15 ct15 oc16 kV16 dc16 pm16 cd16 ct16 oc17 kV17 dc17 pm17 cd17 ct17 : Value} {TG_MARK : Addr} {td9 : Option Addr} {tn9 : Nat} {tsl9 : Array (Option Value)} {tk9_0 tk9_1 tk9_2 tk9_3 : Tok} {tk5 tk7 tk10 tk11 : Tok}
    (vCodecError : PySem.W.nsIn K mainGlobals "CodecError" = some (some (.ref XCodecError))) (vOutOfRange : PySem.W.nsIn K mainGlobals "OutOfRange" = some (some (.ref XOutOfRange))) (vBadContainer : PySem.W.nsIn K mainGlobals "BadContainer" = some (some (.ref XBadContainer))) (a0 : PySem.W.nsIn K mainGlobals "_law_cell" = some (some (.ref f0))) (l0 : K.lookup f0 = some ⟨oc0, od0, .func (PySem.W.fnOf "_law_cell" "_law_cell" (defArgs s__law_cell) (defBody s__law_cell) (defScope s__law_cell) .none kV0 dc0 pm0 an0 cd0 ct0), sl0⟩) (c0 : PySem.W.codeIn K cd0 "_law_cell" = true) (k0 : PySem.W.keepIn K (.ref f0) = true) (a1 : PySem.W.nsIn K mainGlobals "_law_digits" = some (some (.ref f1))) (l1 : K.lookup f1 = some ⟨oc1, od1, .func (PySem.W.fnOf "_law_digits" "_law_digits" (defArgs s__law_digits) (defBody s__law_digits) (defScope s__law_digits) .none kV1 dc1 pm1 an1 cd1 ct1), sl1⟩) (c1 : PySem.W.codeIn K cd1 "_law_digits" = true) (k1 : PySem.W.keepIn K (.ref f1) = true) (a2 : PySem.W.nsIn K mainGlobals "_law_entries" = some (some (.ref f2))) (l2 : K.lookup f2 = some ⟨oc2, od2, .func (PySem.W.fnOf "_law_entries" "_law_entries" (defArgs s__law_entries) (defBody s__law_entries) (defScope s__law_entries) .none kV2 dc2 pm2 an2 cd2 ct2), sl2⟩) (c2 : PySem.W.codeIn K cd2 "_law_entries" = true) (k2 : PySem.W.keepIn K (.ref f2) = true) (a3 : PySem.W.nsIn K mainGlobals "_require" = some (some (.ref f3))) (l3 : K.lookup f3 = some ⟨oc3, od3, .func (PySem.W.fnOf "_require" "_require" (defArgs s__require) (defBody s__require) (defScope s__require) .none kV3 dc3 pm3 an3 cd3 ct3), sl3⟩) (c3 : PySem.W.codeIn K cd3 "_require" = true) (k3 : PySem.W.keepIn K (.ref f3) = true) (a4 : PySem.W.nsIn K mainGlobals "_check_times" = some (some (.ref f4))) (l4 : K.lookup f4 = some ⟨oc4, od4, .func (PySem.W.fnOf "_check_times" "_check_times" (defArgs s__check_times) (defBody s__check_times) (defScope s__check_times) .none kV4 dc4 pm4 an4 cd4 ct4), sl4⟩) (c4 : PySem.W.codeIn K cd4 "_check_times" = true) (k4 : PySem.W.keepIn K (.ref f4) = true) (a5 : PySem.W.nsIn K mainGlobals "_octets_of" = some (some (.ref f5))) (l5 : K.lookup f5 = some ⟨oc5, od5, .func (PySem.W.fnOf "_octets_of" "_octets_of" (defArgs s__octets_of) (defBody s__octets_of) (defScope s__octets_of) .none kV5 dc5 pm5 an5 cd5 ct5), sl5⟩) (c5 : PySem.W.codeIn K cd5 "_octets_of" = true) (k5 : PySem.W.keepIn K (.ref f5) = true) (a6 : PySem.W.nsIn K mainGlobals "pack_container" = some (some (.ref f6))) (l6 : K.lookup f6 = some ⟨oc6, od6, .func (PySem.W.fnOf "pack_container" "pack_container" (defArgs s_pack_container) (defBody s_pack_container) (defScope s_pack_container) .none kV6 dc6 pm6 an6 cd6 ct6), sl6⟩) (c6 : PySem.W.codeIn K cd6 "pack_container" = true) (k6 : PySem.W.keepIn K (.ref f6) = true) (a7 : PySem.W.nsIn K mainGlobals "_number_of" = some (some (.ref f7))) (l7 : K.lookup f7 = some ⟨oc7, od7, .func (PySem.W.fnOf "_number_of" "_number_of" (defArgs s__number_of) (defBody s__number_of) (defScope s__number_of) .none kV7 dc7 pm7 an7 cd7 ct7), sl7⟩) (c7 : PySem.W.codeIn K cd7 "_number_of" = true) (k7 : PySem.W.keepIn K (.ref f7) = true) (a8 : PySem.W.nsIn K mainGlobals "open_container" = some (some (.ref f8))) (l8 : K.lookup f8 = some ⟨oc8, od8, .func (PySem.W.fnOf "open_container" "open_container" (defArgs s_open_container) (defBody s_open_container) (defScope s_open_container) .none kV8 dc8 pm8 an8 cd8 ct8), sl8⟩) (c8 : PySem.W.codeIn K cd8 "open_container" = true) (k8 : PySem.W.keepIn K (.ref f8) = true) (a9 : PySem.W.nsIn K mainGlobals "_law_number" = some (some (.ref f9))) (l9 : K.lookup f9 = some ⟨oc9, od9, .func (PySem.W.fnOf "_law_number" "_law_number" (defArgs s__law_number) (defBody s__law_number) (defScope s__law_number) .none kV9 dc9 pm9 an9 cd9 ct9), sl9⟩) (c9 : PySem.W.codeIn K cd9 "_law_number" = true) (k9 : PySem.W.keepIn K (.ref f9) = true) (a10 : PySem.W.nsIn K mainGlobals "_law_packed" = some (some (.ref f10))) (l10 : K.lookup f10 = some ⟨oc10, od10, .func (PySem.W.fnOf "_law_packed" "_law_packed" (defArgs s__law_packed) (defBody s__law_packed) (defScope s__law_packed) .none kV10 dc10 pm10 an10 cd10 ct10), sl10⟩) (c10 : PySem.W.codeIn K cd10 "_law_packed" = true) (k10 : PySem.W.keepIn K (.ref f10) = true) (a11 : PySem.W.nsIn K mainGlobals "_law_refused" = some (some (.ref f11))) (l11 : K.lookup f11 = some ⟨oc11, od11, .func (PySem.W.fnOf "_law_refused" "_law_refused" (defArgs s__law_refused) (defBody s__law_refused) (defScope s__law_refused) .none kV11 dc11 pm11 an11 cd11 ct11), sl11⟩) (c11 : PySem.W.codeIn K cd11 "_law_refused" = true) (k11 : PySem.W.keepIn K (.ref f11) = true) (a12 : PySem.W.nsIn K mainGlobals "seek_container" = some (some (.ref f12))) (l12 : K.lookup f12 = some ⟨oc12, od12, .func (PySem.W.fnOf "seek_container" "seek_container" (defArgs s_seek_container) (defBody s_seek_container) (defScope s_seek_container) .none kV12 dc12 pm12 an12 cd12 ct12), sl12⟩) (c12 : PySem.W.codeIn K cd12 "seek_container" = true) (k12 : PySem.W.keepIn K (.ref f12) = true) (a13 : PySem.W.nsIn K mainGlobals "_law_seek_refused" = some (some (.ref f13))) (l13 : K.lookup f13 = some ⟨oc13, od13, .func (PySem.W.fnOf "_law_seek_refused" "_law_seek_refused" (defArgs s__law_seek_refused) (defBody s__law_seek_refused) (defScope s__law_seek_refused) .none kV13 dc13 pm13 an13 cd13 ct13), sl13⟩) (c13 : PySem.W.codeIn K cd13 "_law_seek_refused" = true) (k13 : PySem.W.keepIn K (.ref f13) = true) (a14 : PySem.W.nsIn K mainGlobals "_law_opened" = some (some (.ref f14))) (l14 : K.lookup f14 = some ⟨oc14, od14, .func (PySem.W.fnOf "_law_opened" "_law_opened" (defArgs s__law_opened) (defBody s__law_opened) (defScope s__law_opened) .none kV14 dc14 pm14 an14 cd14 ct14), sl14⟩) (c14 : PySem.W.codeIn K cd14 "_law_opened" = true) (k14 : PySem.W.keepIn K (.ref f14) = true) (a15 : PySem.W.nsIn K mainGlobals "_law_bad" = some (some (.ref f15))) (l15 : K.lookup f15 = some ⟨oc15, od15, .func (PySem.W.fnOf "_law_bad" "_law_bad" (defArgs s__law_bad) (defBody s__law_bad) (defScope s__law_bad) .none kV15 dc15 pm15 an15 cd15 ct15), sl15⟩) (c15 : PySem.W.codeIn K cd15 "_law_bad" = true) (k15 : PySem.W.keepIn K (.ref f15) = true) (a16 : PySem.W.nsIn K mainGlobals "_law_seek" = some (some (.ref f16))) (l16 : K.lookup f16 = some ⟨oc16, od16, .func (PySem.W.fnOf "_law_seek" "_law_seek" (defArgs s__law_seek) (defBody s__law_seek) (defScope s__law_seek) .none kV16 dc16 pm16 an16 cd16 ct16), sl16⟩) (c16 : PySem.W.codeIn K cd16 "_law_seek" = true) (k16 : PySem.W.keepIn K (.ref f16) = true) (a17 : PySem.W.nsIn K mainGlobals "law" = some (some (.ref f17))) (l17 : K.lookup f17 = some ⟨oc17, od17, .func (PySem.W.fnOf "law" "law" (defArgs s_law) (defBody s_law) (defScope s_law) .none kV17 dc17 pm17 an17 cd17 ct17), sl17⟩) (c17 : PySem.W.codeIn K cd17 "law" = true) (k17 : PySem.W.keepIn K (.ref f17) = true)
    (z0 : PySem.W.nsIn K mainGlobals "len" = some none) (z1 : PySem.W.nsIn K mainGlobals "abs" = some none) (z2 : PySem.W.nsIn K mainGlobals "int" = some none) (z3 : PySem.W.nsIn K mainGlobals "range" = some none) (z4 : PySem.W.nsIn K mainGlobals "all" = some none) (z5 : PySem.W.nsIn K mainGlobals "GREATEST_TIME" = some (some (.int 4294967295 tk5))) (z6 : PySem.W.nsIn K mainGlobals "zip" = some none) (z7 : PySem.W.nsIn K mainGlobals "MOST_ENTRIES" = some (some (.int 65535 tk7))) (z8 : PySem.W.nsIn K mainGlobals "list" = some none) (z9 : PySem.W.nsIn K mainGlobals "MARK" = some (some (.ref TG_MARK))) (y9 : K.lookup TG_MARK = some ⟨.type "tuple", td9, .seq #[.int 84 tk9_0, .int 72 tk9_1, .int 65 tk9_2, .int 85 tk9_3] tn9, tsl9⟩) (z10 : PySem.W.nsIn K mainGlobals "HEAD" = some (some (.int 6 tk10))) (z11 : PySem.W.nsIn K mainGlobals "ENTRY" = some (some (.int 8 tk11))) (z12 : PySem.W.nsIn K mainGlobals "isinstance" = some none) (z13 : PySem.W.nsIn K mainGlobals "enumerate" = some none) (z14 : PySem.W.nsIn K mainGlobals "repr" = some none) (z15 : PySem.W.nsIn K mainGlobals "min" = some none) (exBadContainer : PySem.W.excIn K XBadContainer [.type "ValueError", .type "Exception", .type "BaseException", .type "object"] "ValueError.__new__" = true) (ekBadContainer : PySem.W.keepIn K (.ref XBadContainer) = true) (ebBadContainer : PySem.W.subIn K (.ref XBadContainer) (.type "BaseException") = some true) (etBadContainer : PySem.W.typeIn K (.ref XBadContainer) = some (.type "type")) (exOutOfRange : PySem.W.excIn K XOutOfRange [.type "ValueError", .type "Exception", .type "BaseException", .type "object"] "ValueError.__new__" = true) (ekOutOfRange : PySem.W.keepIn K (.ref XOutOfRange) = true) (ebOutOfRange : PySem.W.subIn K (.ref XOutOfRange) (.type "BaseException") = some true) (etOutOfRange : PySem.W.typeIn K (.ref XOutOfRange) = some (.type "type")) (exCodecError : PySem.W.excIn K XCodecError [.type "ValueError", .type "Exception", .type "BaseException", .type "object"] "ValueError.__new__" = true) (ekCodecError : PySem.W.keepIn K (.ref XCodecError) = true) (ebCodecError : PySem.W.subIn K (.ref XCodecError) (.type "BaseException") = some true) (etCodecError : PySem.W.typeIn K (.ref XCodecError) = some (.type "type")) (eiBadContainerBadContainer : PySem.W.isClsIn K XBadContainer = true) (esBadContainerBadContainer : PySem.W.subIn K (.ref XBadContainer) (.ref XBadContainer) = some true) (eiBadContainerCodecError : PySem.W.isClsIn K XCodecError = true) (esBadContainerCodecError : PySem.W.subIn K (.ref XBadContainer) (.ref XCodecError) = some true) (enBadContainerOutOfRange : (Value.ref XBadContainer == Value.ref XOutOfRange) = false) (ejBadContainerOutOfRange : PySem.W.isClsIn K XOutOfRange = true) (etBadContainerOutOfRange : PySem.W.subIn K (.ref XBadContainer) (.ref XOutOfRange) = some false) (c1BadContainer : PySem.W.findIn K (.ref XBadContainer) "__getattribute__" = some (some (.builtin "BaseException.__getattribute__"))) (c2BadContainer : PySem.W.findIn K (.ref XBadContainer) "__getattr__" = some none) (c3BadContainer : PySem.W.hasDictIn K XBadContainer = true) (c4BadContainer : PySem.W.findIn K (.ref XBadContainer) "__class__" = some (some (.builtin "object.__class__"))) (c5BadContainer : PySem.W.specialIn K (.builtin "object.__class__") "__get__" = some (some (.builtin "getset_descriptor.__get__"))) (c6BadContainer : PySem.W.takesIn K (.builtin "object.__class__") = some true) (c7BadContainer : PySem.W.mroIn K XBadContainer (.type "object") = some true) :
    ∃ fd : FuncData, (∀ (s : Shared) (v : Value), BindsTo s fd ⟨[v], []⟩ [("script", v)]) ∧ ∀ base : Heap, K.In base → base.Ns mainGlobals mg → FnG l.prog w K mg base CX0 7 fa fd ["script"] (spL K) := by
  have e := hfa.symm.trans (PySem.W.mg_of X G a17)
  cases e
  have T : Txt K mg ⟨XCodecError, XOutOfRange, XBadContainer, TG_MARK, fa⟩ := ⟨PySem.W.mg_none_of X G z0, PySem.W.mg_none_of X G z1, PySem.W.mg_none_of X G z2, PySem.W.mg_none_of X G z3, PySem.W.mg_none_of X G z4, ⟨_, PySem.W.mg_of X G z5, ⟨_, rfl⟩⟩, PySem.W.mg_none_of X G z6, ⟨_, PySem.W.mg_of X G z7, ⟨_, rfl⟩⟩, PySem.W.mg_none_of X G z8, ⟨_, PySem.W.mg_of X G z9, rfl⟩, fun H => .inr ⟨_, _, _, y9, rfl, rfl, (by show 4 ≤ sizeLine; decide), (.cons ⟨_, rfl⟩ (.cons ⟨_, rfl⟩ (.cons ⟨_, rfl⟩ (.cons ⟨_, rfl⟩ .nil))))⟩, ⟨_, PySem.W.mg_of X G z10, ⟨_, rfl⟩⟩, ⟨_, PySem.W.mg_of X G z11, ⟨_, rfl⟩⟩, PySem.W.mg_none_of X G z12, PySem.W.mg_none_of X G z13, PySem.W.mg_none_of X G z14, PySem.W.mg_none_of X G z15, PySem.W.mg_of X G vBadContainer, exBadContainer, ekBadContainer, ebBadContainer, etBadContainer, PySem.W.mg_of X G vOutOfRange, exOutOfRange, ekOutOfRange, ebOutOfRange, etOutOfRange, PySem.W.mg_of X G vCodecError, exCodecError, ekCodecError, ebCodecError, etCodecError, exm_mk ebBadContainer eiBadContainerBadContainer etBadContainer esBadContainerBadContainer, kit_mk eiBadContainerCodecError etCodecError esBadContainerCodecError, kit_mk0 enBadContainerOutOfRange ejBadContainerOutOfRange etOutOfRange etBadContainerOutOfRange, ⟨c1BadContainer, c2BadContainer, ebBadContainer, c3BadContainer, c4BadContainer, c5BadContainer, c6BadContainer, c7BadContainer⟩⟩
  have F0 : FunD K "_law_cell" "_law_cell" (defArgs s__law_cell) (defBody s__law_cell) (defScope s__law_cell) [] [] f0 _ := ⟨⟨_, _, _, _, _, _, _, _, _, _, rfl, l0, c0, .inl ⟨rfl, rfl⟩, .inl rfl⟩, k0⟩
  have D_0 : DefX K mg "_law_cell" s__law_cell ["script", "k"] pats__law_cell := ⟨_, _, _, _, F0, PySem.W.mg_of X G a0, (all_consQ (Bnd.all fun us ws vs zs l1 l2 r rz => by
      obtain ⟨u0, u1, rfl⟩ := len2 (r.length.symm.trans l1)
      obtain rfl := len0 (rz.length.symm.trans l2)
      cases r with | cons r0 r =>
        cases r with | cons r1 r =>
          cases r
          cases rz
          exact ⟨[u0, u1], rfl, (.cons r0 (.cons r1 .nil))⟩) all_nilQ)⟩
  have F1 : FunD K "_law_digits" "_law_digits" (defArgs s__law_digits) (defBody s__law_digits) (defScope s__law_digits) [] [] f1 _ := ⟨⟨_, _, _, _, _, _, _, _, _, _, rfl, l1, c1, .inl ⟨rfl, rfl⟩, .inl rfl⟩, k1⟩
  have D_1 : DefX K mg "_law_digits" s__law_digits ["cell", "base", "most"] pats__law_digits := ⟨_, _, _, _, F1, PySem.W.mg_of X G a1, (all_consQ (Bnd.all fun us ws vs zs l1 l2 r rz => by
      obtain ⟨u0, u1, u2, rfl⟩ := len3 (r.length.symm.trans l1)
      obtain rfl := len0 (rz.length.symm.trans l2)
      cases r with | cons r0 r =>
        cases r with | cons r1 r =>
          cases r with | cons r2 r =>
            cases r
            cases rz
            exact ⟨[u0, u1, u2], rfl, (.cons r0 (.cons r1 (.cons r2 .nil)))⟩) all_nilQ)⟩
  have F2 : FunD K "_law_entries" "_law_entries" (defArgs s__law_entries) (defBody s__law_entries) (defScope s__law_entries) [] [] f2 _ := ⟨⟨_, _, _, _, _, _, _, _, _, _, rfl, l2, c2, .inl ⟨rfl, rfl⟩, .inl rfl⟩, k2⟩
  have D_2 : DefX K mg "_law_entries" s__law_entries ["cell"] pats__law_entries := ⟨_, _, _, _, F2, PySem.W.mg_of X G a2, (all_consQ (Bnd.all fun us ws vs zs l1 l2 r rz => by
      obtain ⟨u0, rfl⟩ := len1 (r.length.symm.trans l1)
      obtain rfl := len0 (rz.length.symm.trans l2)
      cases r with | cons r0 r =>
        cases r
        cases rz
        exact ⟨[u0], rfl, (.cons r0 .nil)⟩) all_nilQ)⟩
  have F3 : FunD K "_require" "_require" (defArgs s__require) (defBody s__require) (defScope s__require) [] [] f3 _ := ⟨⟨_, _, _, _, _, _, _, _, _, _, rfl, l3, c3, .inl ⟨rfl, rfl⟩, .inl rfl⟩, k3⟩
  have D_3 : DefX K mg "_require" s__require ["holds", "text"] pats__require := ⟨_, _, _, _, F3, PySem.W.mg_of X G a3, (all_consQ (Bnd.all fun us ws vs zs l1 l2 r rz => by
      obtain ⟨u0, u1, rfl⟩ := len2 (r.length.symm.trans l1)
      obtain rfl := len0 (rz.length.symm.trans l2)
      cases r with | cons r0 r =>
        cases r with | cons r1 r =>
          cases r
          cases rz
          exact ⟨[u0, u1], rfl, (.cons r0 (.cons r1 .nil))⟩) all_nilQ)⟩
  have F4 : FunD K "_check_times" "_check_times" (defArgs s__check_times) (defBody s__check_times) (defScope s__check_times) [] [] f4 _ := ⟨⟨_, _, _, _, _, _, _, _, _, _, rfl, l4, c4, .inl ⟨rfl, rfl⟩, .inl rfl⟩, k4⟩
  have D_4 : DefX K mg "_check_times" s__check_times ["times"] pats__check_times := ⟨_, _, _, _, F4, PySem.W.mg_of X G a4, (all_consQ (Bnd.all fun us ws vs zs l1 l2 r rz => by
      obtain ⟨u0, rfl⟩ := len1 (r.length.symm.trans l1)
      obtain rfl := len0 (rz.length.symm.trans l2)
      cases r with | cons r0 r =>
        cases r
        cases rz
        exact ⟨[u0], rfl, (.cons r0 .nil)⟩) all_nilQ)⟩
  have F5 : FunD K "_octets_of" "_octets_of" (defArgs s__octets_of) (defBody s__octets_of) (defScope s__octets_of) [] [] f5 _ := ⟨⟨_, _, _, _, _, _, _, _, _, _, rfl, l5, c5, .inl ⟨rfl, rfl⟩, .inl rfl⟩, k5⟩
  have D_5 : DefX K mg "_octets_of" s__octets_of ["number", "count"] pats__octets_of := ⟨_, _, _, _, F5, PySem.W.mg_of X G a5, (all_consQ (Bnd.all fun us ws vs zs l1 l2 r rz => by
      obtain ⟨u0, u1, rfl⟩ := len2 (r.length.symm.trans l1)
      obtain rfl := len0 (rz.length.symm.trans l2)
      cases r with | cons r0 r =>
        cases r with | cons r1 r =>
          cases r
          cases rz
          exact ⟨[u0, u1], rfl, (.cons r0 (.cons r1 .nil))⟩) all_nilQ)⟩
  have F6 : FunD K "pack_container" "pack_container" (defArgs s_pack_container) (defBody s_pack_container) (defScope s_pack_container) [] [] f6 _ := ⟨⟨_, _, _, _, _, _, _, _, _, _, rfl, l6, c6, .inl ⟨rfl, rfl⟩, .inl rfl⟩, k6⟩
  have D_6 : DefX K mg "pack_container" s_pack_container ["entries"] pats_pack_container := ⟨_, _, _, _, F6, PySem.W.mg_of X G a6, (all_consQ (Bnd.all fun us ws vs zs l1 l2 r rz => by
      obtain ⟨u0, rfl⟩ := len1 (r.length.symm.trans l1)
      obtain rfl := len0 (rz.length.symm.trans l2)
      cases r with | cons r0 r =>
        cases r
        cases rz
        exact ⟨[u0], rfl, (.cons r0 .nil)⟩) all_nilQ)⟩
  have F7 : FunD K "_number_of" "_number_of" (defArgs s__number_of) (defBody s__number_of) (defScope s__number_of) [] [] f7 _ := ⟨⟨_, _, _, _, _, _, _, _, _, _, rfl, l7, c7, .inl ⟨rfl, rfl⟩, .inl rfl⟩, k7⟩
  have D_7 : DefX K mg "_number_of" s__number_of ["octets"] pats__number_of := ⟨_, _, _, _, F7, PySem.W.mg_of X G a7, (all_consQ (Bnd.all fun us ws vs zs l1 l2 r rz => by
      obtain ⟨u0, rfl⟩ := len1 (r.length.symm.trans l1)
      obtain rfl := len0 (rz.length.symm.trans l2)
      cases r with | cons r0 r =>
        cases r
        cases rz
        exact ⟨[u0], rfl, (.cons r0 .nil)⟩) all_nilQ)⟩
  have F8 : FunD K "open_container" "open_container" (defArgs s_open_container) (defBody s_open_container) (defScope s_open_container) [] [] f8 _ := ⟨⟨_, _, _, _, _, _, _, _, _, _, rfl, l8, c8, .inl ⟨rfl, rfl⟩, .inl rfl⟩, k8⟩
  have D_8 : DefX K mg "open_container" s_open_container ["octets"] pats_open_container := ⟨_, _, _, _, F8, PySem.W.mg_of X G a8, (all_consQ (Bnd.all fun us ws vs zs l1 l2 r rz => by
      obtain ⟨u0, rfl⟩ := len1 (r.length.symm.trans l1)
      obtain rfl := len0 (rz.length.symm.trans l2)
      cases r with | cons r0 r =>
        cases r
        cases rz
        exact ⟨[u0], rfl, (.cons r0 .nil)⟩) all_nilQ)⟩
  have F9 : FunD K "_law_number" "_law_number" (defArgs s__law_number) (defBody s__law_number) (defScope s__law_number) [] [] f9 _ := ⟨⟨_, _, _, _, _, _, _, _, _, _, rfl, l9, c9, .inl ⟨rfl, rfl⟩, .inl rfl⟩, k9⟩
  have D_9 : DefX K mg "_law_number" s__law_number ["worth", "count"] pats__law_number := ⟨_, _, _, _, F9, PySem.W.mg_of X G a9, (all_consQ (Bnd.all fun us ws vs zs l1 l2 r rz => by
      obtain ⟨u0, u1, rfl⟩ := len2 (r.length.symm.trans l1)
      obtain rfl := len0 (rz.length.symm.trans l2)
      cases r with | cons r0 r =>
        cases r with | cons r1 r =>
          cases r
          cases rz
          exact ⟨[u0, u1], rfl, (.cons r0 (.cons r1 .nil))⟩) all_nilQ)⟩
  have F10 : FunD K "_law_packed" "_law_packed" (defArgs s__law_packed) (defBody s__law_packed) (defScope s__law_packed) [] [] f10 _ := ⟨⟨_, _, _, _, _, _, _, _, _, _, rfl, l10, c10, .inl ⟨rfl, rfl⟩, .inl rfl⟩, k10⟩
  have D_10 : DefX K mg "_law_packed" s__law_packed ["entries"] pats__law_packed := ⟨_, _, _, _, F10, PySem.W.mg_of X G a10, (all_consQ (Bnd.all fun us ws vs zs l1 l2 r rz => by
      obtain ⟨u0, rfl⟩ := len1 (r.length.symm.trans l1)
      obtain rfl := len0 (rz.length.symm.trans l2)
      cases r with | cons r0 r =>
        cases r
        cases rz
        exact ⟨[u0], rfl, (.cons r0 .nil)⟩) all_nilQ)⟩
  have F11 : FunD K "_law_refused" "_law_refused" (defArgs s__law_refused) (defBody s__law_refused) (defScope s__law_refused) [] [] f11 _ := ⟨⟨_, _, _, _, _, _, _, _, _, _, rfl, l11, c11, .inl ⟨rfl, rfl⟩, .inl rfl⟩, k11⟩
  have D_11 : DefX K mg "_law_refused" s__law_refused ["entries"] pats__law_refused := ⟨_, _, _, _, F11, PySem.W.mg_of X G a11, (all_consQ (Bnd.all fun us ws vs zs l1 l2 r rz => by
      obtain ⟨u0, rfl⟩ := len1 (r.length.symm.trans l1)
      obtain rfl := len0 (rz.length.symm.trans l2)
      cases r with | cons r0 r =>
        cases r
        cases rz
        exact ⟨[u0], rfl, (.cons r0 .nil)⟩) all_nilQ)⟩
  have F12 : FunD K "seek_container" "seek_container" (defArgs s_seek_container) (defBody s_seek_container) (defScope s_seek_container) [] [] f12 _ := ⟨⟨_, _, _, _, _, _, _, _, _, _, rfl, l12, c12, .inl ⟨rfl, rfl⟩, .inl rfl⟩, k12⟩
  have D_12 : DefX K mg "seek_container" s_seek_container ["octets", "time"] pats_seek_container := ⟨_, _, _, _, F12, PySem.W.mg_of X G a12, (all_consQ (Bnd.all fun us ws vs zs l1 l2 r rz => by
      obtain ⟨u0, u1, rfl⟩ := len2 (r.length.symm.trans l1)
      obtain rfl := len0 (rz.length.symm.trans l2)
      cases r with | cons r0 r =>
        cases r with | cons r1 r =>
          cases r
          cases rz
          exact ⟨[u0, u1], rfl, (.cons r0 (.cons r1 .nil))⟩) all_nilQ)⟩
  have F13 : FunD K "_law_seek_refused" "_law_seek_refused" (defArgs s__law_seek_refused) (defBody s__law_seek_refused) (defScope s__law_seek_refused) [] [] f13 _ := ⟨⟨_, _, _, _, _, _, _, _, _, _, rfl, l13, c13, .inl ⟨rfl, rfl⟩, .inl rfl⟩, k13⟩
  have D_13 : DefX K mg "_law_seek_refused" s__law_seek_refused ["octets", "time"] pats__law_seek_refused := ⟨_, _, _, _, F13, PySem.W.mg_of X G a13, (all_consQ (Bnd.all fun us ws vs zs l1 l2 r rz => by
      obtain ⟨u0, u1, rfl⟩ := len2 (r.length.symm.trans l1)
      obtain rfl := len0 (rz.length.symm.trans l2)
      cases r with | cons r0 r =>
        cases r with | cons r1 r =>
          cases r
          cases rz
          exact ⟨[u0, u1], rfl, (.cons r0 (.cons r1 .nil))⟩) all_nilQ)⟩
  have F14 : FunD K "_law_opened" "_law_opened" (defArgs s__law_opened) (defBody s__law_opened) (defScope s__law_opened) [] [] f14 _ := ⟨⟨_, _, _, _, _, _, _, _, _, _, rfl, l14, c14, .inl ⟨rfl, rfl⟩, .inl rfl⟩, k14⟩
  have D_14 : DefX K mg "_law_opened" s__law_opened ["octets"] pats__law_opened := ⟨_, _, _, _, F14, PySem.W.mg_of X G a14, (all_consQ (Bnd.all fun us ws vs zs l1 l2 r rz => by
      obtain ⟨u0, rfl⟩ := len1 (r.length.symm.trans l1)
      obtain rfl := len0 (rz.length.symm.trans l2)
      cases r with | cons r0 r =>
        cases r
        cases rz
        exact ⟨[u0], rfl, (.cons r0 .nil)⟩) all_nilQ)⟩
  have F15 : FunD K "_law_bad" "_law_bad" (defArgs s__law_bad) (defBody s__law_bad) (defScope s__law_bad) [] [] f15 _ := ⟨⟨_, _, _, _, _, _, _, _, _, _, rfl, l15, c15, .inl ⟨rfl, rfl⟩, .inl rfl⟩, k15⟩
  have D_15 : DefX K mg "_law_bad" s__law_bad ["entries", "cell"] pats__law_bad := ⟨_, _, _, _, F15, PySem.W.mg_of X G a15, (all_consQ (Bnd.all fun us ws vs zs l1 l2 r rz => by
      obtain ⟨u0, u1, rfl⟩ := len2 (r.length.symm.trans l1)
      obtain rfl := len0 (rz.length.symm.trans l2)
      cases r with | cons r0 r =>
        cases r with | cons r1 r =>
          cases r
          cases rz
          exact ⟨[u0, u1], rfl, (.cons r0 (.cons r1 .nil))⟩) all_nilQ)⟩
  have F16 : FunD K "_law_seek" "_law_seek" (defArgs s__law_seek) (defBody s__law_seek) (defScope s__law_seek) [] [] f16 _ := ⟨⟨_, _, _, _, _, _, _, _, _, _, rfl, l16, c16, .inl ⟨rfl, rfl⟩, .inl rfl⟩, k16⟩
  have D_16 : DefX K mg "_law_seek" s__law_seek ["entries", "octets", "time"] pats__law_seek := ⟨_, _, _, _, F16, PySem.W.mg_of X G a16, (all_consQ (Bnd.all fun us ws vs zs l1 l2 r rz => by
      obtain ⟨u0, u1, u2, rfl⟩ := len3 (r.length.symm.trans l1)
      obtain rfl := len0 (rz.length.symm.trans l2)
      cases r with | cons r0 r =>
        cases r with | cons r1 r =>
          cases r with | cons r2 r =>
            cases r
            cases rz
            exact ⟨[u0, u1, u2], rfl, (.cons r0 (.cons r1 (.cons r2 .nil)))⟩) all_nilQ)⟩
  have F17 : FunD K "law" "law" (defArgs s_law) (defBody s_law) (defScope s_law) [] [] _ _ := ⟨⟨_, _, _, _, _, _, _, _, _, _, rfl, l17, c17, .inl ⟨rfl, rfl⟩, .inl rfl⟩, k17⟩
  have R__law_cell : ∀ base : Heap, CalX l.prog w K mg base 1 "_law_cell" (sp__law_cell K ⟨XCodecError, XOutOfRange, XBadContainer, TG_MARK, fa⟩) pats__law_cell := fun base => ok__law_cell D_0 T 
  have R__law_digits : ∀ base : Heap, CalX l.prog w K mg base 1 "_law_digits" (sp__law_digits K ⟨XCodecError, XOutOfRange, XBadContainer, TG_MARK, fa⟩) pats__law_digits := fun base => ok__law_digits D_1 T 
  have R__law_entries : ∀ base : Heap, CalX l.prog w K mg base 2 "_law_entries" (sp__law_entries K ⟨XCodecError, XOutOfRange, XBadContainer, TG_MARK, fa⟩) pats__law_entries := fun base => ok__law_entries D_2 T (R__law_digits base)
  have R__require : ∀ base : Heap, CalX l.prog w K mg base 1 "_require" (sp__require K ⟨XCodecError, XOutOfRange, XBadContainer, TG_MARK, fa⟩) pats__require := fun base => ok__require D_3 T 
  have R__check_times : ∀ base : Heap, CalX l.prog w K mg base 2 "_check_times" (sp__check_times K ⟨XCodecError, XOutOfRange, XBadContainer, TG_MARK, fa⟩) pats__check_times := fun base => ok__check_times D_4 T (R__require base)
  have R__octets_of : ∀ base : Heap, CalX l.prog w K mg base 1 "_octets_of" (sp__octets_of K ⟨XCodecError, XOutOfRange, XBadContainer, TG_MARK, fa⟩) pats__octets_of := fun base => ok__octets_of D_5 T 
  have R_pack_container : ∀ base : Heap, CalX l.prog w K mg base 3 "pack_container" (sp_pack_container K ⟨XCodecError, XOutOfRange, XBadContainer, TG_MARK, fa⟩) pats_pack_container := fun base => ok_pack_container D_6 T (R__check_times base) (R__octets_of base)
  have R__number_of : ∀ base : Heap, CalX l.prog w K mg base 1 "_number_of" (sp__number_of K ⟨XCodecError, XOutOfRange, XBadContainer, TG_MARK, fa⟩) pats__number_of := fun base => ok__number_of D_7 T 
  have R_open_container : ∀ base : Heap, CalX l.prog w K mg base 3 "open_container" (sp_open_container K ⟨XCodecError, XOutOfRange, XBadContainer, TG_MARK, fa⟩) pats_open_container := fun base => ok_open_container D_8 T (R__require base) (R__number_of base) (R__check_times base)
  have R__law_number : ∀ base : Heap, CalX l.prog w K mg base 1 "_law_number" (sp__law_number K ⟨XCodecError, XOutOfRange, XBadContainer, TG_MARK, fa⟩) pats__law_number := fun base => ok__law_number D_9 T 
  have R__law_packed : ∀ base : Heap, CalX l.prog w K mg base 2 "_law_packed" (sp__law_packed K ⟨XCodecError, XOutOfRange, XBadContainer, TG_MARK, fa⟩) pats__law_packed := fun base => ok__law_packed D_10 T (R__law_number base)
  have R__law_refused : ∀ base : Heap, CalX l.prog w K mg base 4 "_law_refused" (sp__law_refused K ⟨XCodecError, XOutOfRange, XBadContainer, TG_MARK, fa⟩) pats__law_refused := fun base => ok__law_refused D_11 T (R_pack_container base)
  have R_seek_container : ∀ base : Heap, CalX l.prog w K mg base 4 "seek_container" (sp_seek_container K ⟨XCodecError, XOutOfRange, XBadContainer, TG_MARK, fa⟩) pats_seek_container := fun base => ok_seek_container D_12 T (R_open_container base)
  have R__law_seek_refused : ∀ base : Heap, CalX l.prog w K mg base 5 "_law_seek_refused" (sp__law_seek_refused K ⟨XCodecError, XOutOfRange, XBadContainer, TG_MARK, fa⟩) pats__law_seek_refused := fun base => ok__law_seek_refused D_13 T (R_seek_container base)
  have R__law_opened : ∀ base : Heap, CalX l.prog w K mg base 4 "_law_opened" (sp__law_opened K ⟨XCodecError, XOutOfRange, XBadContainer, TG_MARK, fa⟩) pats__law_opened := fun base => ok__law_opened D_14 T (R_open_container base)
  have R__law_bad : ∀ base : Heap, CalX l.prog w K mg base 6 "_law_bad" (sp__law_bad K ⟨XCodecError, XOutOfRange, XBadContainer, TG_MARK, fa⟩) pats__law_bad := fun base => ok__law_bad D_15 T (R__law_refused base) (R__law_packed base) (R__law_seek_refused base) (R__law_opened base)
  have R__law_seek : ∀ base : Heap, CalX l.prog w K mg base 5 "_law_seek" (sp__law_seek K ⟨XCodecError, XOutOfRange, XBadContainer, TG_MARK, fa⟩) pats__law_seek := fun base => ok__law_seek D_16 T (R_seek_container base)

  refine ⟨PySem.W.fnOf "law" "law" (defArgs s_law) (defBody s_law) (defScope s_law) .none kV17 dc17 pm17 an17 cd17 ct17, fun s v => .of_eq rfl, fun base _ _ => (ok_law (AD := ⟨XCodecError, XOutOfRange, XBadContainer, TG_MARK, fa⟩) F17 T (R__law_cell base) (R__law_entries base) (R_pack_container base) (R__law_packed base) (R_open_container base) (R__law_seek base) (R__law_opened base) (R__law_seek_refused base) (R__law_bad base)).imp ?_⟩
  rintro vs H Q E ⟨a, xs, rfl, hs, hl, q⟩
  exact ⟨a, xs, rfl, hs, by rw [law_true xs hl]; exact cW_mk rfl, q⟩
end Vx
open PySem PySem.W PyProof.Rows
set_option maxRecDepth 100000 in
set_option maxHeartbeats 0 in
theorem PySem.Challenge.cw_thaumatrope_k71_containers_packed_and_op_holds : PySem.Challenge.rw_thaumatrope_k71_containers_packed_and_op.Holds := by
  w_on; o_law; k_head; (case hw => w_witness2)
  k_fill
  refine Vx.walkG (l := PySem.Challenge.rw_thaumatrope_k71_containers_packed_and_op) (n := 63) (k := 7) (x := "script") rfl (by decide) rfl ⟨rfl, by decide, by decide⟩ (fun w h Y => PySem.W.kIn_of Y) ?F
  case F =>
    intro w mg fa h KX G hmg
    refine' Vx.all_mk KX G hmg ?vCodecError ?vOutOfRange ?vBadContainer ?a0 ?l0 ?c0 ?k0 ?a1 ?l1 ?c1 ?k1 ?a2 ?l2 ?c2 ?k2 ?a3 ?l3 ?c3 ?k3 ?a4 ?l4 ?c4 ?k4 ?a5 ?l5 ?c5 ?k5 ?a6 ?l6 ?c6 ?k6 ?a7 ?l7 ?c7 ?k7 ?a8 ?l8 ?c8 ?k8 ?a9 ?l9 ?c9 ?k9 ?a10 ?l10 ?c10 ?k10 ?a11 ?l11 ?c11 ?k11 ?a12 ?l12 ?c12 ?k12 ?a13 ?l13 ?c13 ?k13 ?a14 ?l14 ?c14 ?k14 ?a15 ?l15 ?c15 ?k15 ?a16 ?l16 ?c16 ?k16 ?a17 ?l17 ?c17 ?k17 ?z0 ?z1 ?z2 ?z3 ?z4 ?z5 ?z6 ?z7 ?z8 ?z9 ?y9 ?z10 ?z11 ?z12 ?z13 ?z14 ?z15 ?exBadContainer ?ekBadContainer ?ebBadContainer ?etBadContainer ?exOutOfRange ?ekOutOfRange ?ebOutOfRange ?etOutOfRange ?exCodecError ?ekCodecError ?ebCodecError ?etCodecError ?eiBadContainerBadContainer ?esBadContainerBadContainer ?eiBadContainerCodecError ?esBadContainerCodecError ?enBadContainerOutOfRange ?ejBadContainerOutOfRange ?etBadContainerOutOfRange ?c1BadContainer ?c2BadContainer ?c3BadContainer ?c4BadContainer ?c5BadContainer ?c6BadContainer ?c7BadContainer
    (case vCodecError => k_is)
    (case vOutOfRange => k_is)
    (case vBadContainer => k_is)
    (case a0 => k_is)
    (case l0 => k_is)
    (case c0 => k_is)
    (case k0 => k_is)
    (case a1 => k_is)
    (case l1 => k_is)
    (case c1 => k_is)
    (case k1 => k_is)
    (case a2 => k_is)
    (case l2 => k_is)
    (case c2 => k_is)
    (case k2 => k_is)
    (case a3 => k_is)
    (case l3 => k_is)
    (case c3 => k_is)
    (case k3 => k_is)
    (case a4 => k_is)
    (case l4 => k_is)
    (case c4 => k_is)
    (case k4 => k_is)
    (case a5 => k_is)
    (case l5 => k_is)
    (case c5 => k_is)
    (case k5 => k_is)
    (case a6 => k_is)
    (case l6 => k_is)
    (case c6 => k_is)
    (case k6 => k_is)
    (case a7 => k_is)
    (case l7 => k_is)
    (case c7 => k_is)
    (case k7 => k_is)
    (case a8 => k_is)
    (case l8 => k_is)
    (case c8 => k_is)
    (case k8 => k_is)
    (case a9 => k_is)
    (case l9 => k_is)
    (case c9 => k_is)
    (case k9 => k_is)
    (case a10 => k_is)
    (case l10 => k_is)
    (case c10 => k_is)
    (case k10 => k_is)
    (case a11 => k_is)
    (case l11 => k_is)
    (case c11 => k_is)
    (case k11 => k_is)
    (case a12 => k_is)
    (case l12 => k_is)
    (case c12 => k_is)
    (case k12 => k_is)
    (case a13 => k_is)
    (case l13 => k_is)
    (case c13 => k_is)
    (case k13 => k_is)
    (case a14 => k_is)
    (case l14 => k_is)
    (case c14 => k_is)
    (case k14 => k_is)
    (case a15 => k_is)
    (case l15 => k_is)
    (case c15 => k_is)
    (case k15 => k_is)
    (case a16 => k_is)
    (case l16 => k_is)
    (case c16 => k_is)
    (case k16 => k_is)
    (case a17 => k_is)
    (case l17 => k_is)
    (case c17 => k_is)
    (case k17 => k_is)
    (case z0 => k_is)
    (case z1 => k_is)
    (case z2 => k_is)
    (case z3 => k_is)
    (case z4 => k_is)
    (case z5 => k_is)
    (case z6 => k_is)
    (case z7 => k_is)
    (case z8 => k_is)
    (case z9 => k_is)
    (case y9 => k_is)
    (case z10 => k_is)
    (case z11 => k_is)
    (case z12 => k_is)
    (case z13 => k_is)
    (case z14 => k_is)
    (case z15 => k_is)
    (case exBadContainer => k_exc)
    (case ekBadContainer => k_is)
    (case ebBadContainer => k_is)
    (case etBadContainer => k_is)
    (case exOutOfRange => k_exc)
    (case ekOutOfRange => k_is)
    (case ebOutOfRange => k_is)
    (case etOutOfRange => k_is)
    (case exCodecError => k_exc)
    (case ekCodecError => k_is)
    (case ebCodecError => k_is)
    (case etCodecError => k_is)
    (case eiBadContainerBadContainer => k_is)
    (case esBadContainerBadContainer => first | rfl | k_is)
    (case eiBadContainerCodecError => k_is)
    (case esBadContainerCodecError => first | rfl | k_is)
    (case enBadContainerOutOfRange => rfl)
    (case ejBadContainerOutOfRange => k_is)
    (case etBadContainerOutOfRange => k_is)
    (case c1BadContainer => k_is)
    (case c2BadContainer => k_is)
    (case c3BadContainer => k_is)
    (case c4BadContainer => k_is)
    (case c5BadContainer => k_is)
    (case c6BadContainer => k_is)
    (case c7BadContainer => k_is)
