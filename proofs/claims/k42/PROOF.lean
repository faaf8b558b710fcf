import PyProof.Rows.All
import Wide.All
import OpenK.AllK
import Wide.FinOn
import HandS.ForMost
import HandS.Codes
import HandS.Steps
import HandS.IsInst
import HandS.Property
import HandS.Wide
import HandS.WideBits
import HandS.Exc
import HandS.ExcOwn
import HandS.TryOnly
import HandS.WordsExc
import HandS.Defaults
import HandS.ExcIs
import HandS.MakeKwOnly
import HandS.RaiseMore
import HandS.Style
import HandS.Zip
import PySem.Challenge.RW_thaumatrope_k42_lists_transformed
set_option Elab.async false
set_option linter.all false
set_option maxRecDepth 100000
set_option maxHeartbeats 8000000
namespace Vx
open PySem PySem.Spec PyProof.Rows L2

/-! ### heaps -/
def SameX (m : Addr) (H H' : Hp) : Prop := ∀ b o, H b = some o → b ≠ m → H' b = some o
theorem gen_new {H H' : Hp} {p : Addr} {o : HO} (n : H p = none) (h : upd H p o = H') : Same H H' ∧ H' p = some o := by
  subst h
  exact ⟨fun b u e => by rw [upd_ne (ne_of_none e n)]; exact e, upd_same⟩
theorem gen_mut {H H' : Hp} {m : Addr} {o : HO} (h : upd H m o = H') : SameX m H H' ∧ H' m = some o := by
  subst h
  exact ⟨fun b u e n => by rw [upd_ne n]; exact e, upd_same⟩
theorem same_mut {H0 H H' : Hp} {m : Addr} (B : Same H0 H) (x : SameX m H H') (f : H0 m = none) : Same H0 H' :=
  fun b o e => x b o (B b o e) (ne_of_none e f)
theorem map_get {xs : List Int} {i : Nat} {x : V} (h : (xs.map V.int)[i]? = some x) : ∃ o, xs[i]? = some o ∧ x = .int o := by
  rw [List.getElem?_map] at h
  cases e : xs[i]? with
  | none => rw [e] at h; cases h
  | some z => rw [e] at h; exact ⟨z, rfl, (Option.some.inj h).symm⟩
theorem get_len {α : Type} {xs : List α} {i : Nat} {x : α} (h : xs[i]? = some x) : i < xs.length := (List.getElem?_eq_some_iff.mp h).1
theorem eq_int {Q : VK} {H : Hp} {a b : Int} (h : Q (.int a) H) (e : a = b) : Q (.int b) H := e ▸ h
theorem eq_bl {Q : VK} {H : Hp} {a b : Bool} (h : Q (.bl a) H) (e : a = b) : Q (.bl b) H := e ▸ h
theorem small {n : Nat} (h : n ≤ 1000000) : n < sizeLine := Nat.lt_of_le_of_lt h (by decide)
theorem smallE {n : Nat} (h : n ≤ 1000000) : n ≤ sizeLine := Nat.le_of_lt (small h)
theorem snoc_int {xs : List Int} {y : Int} {H : Hp} {p : Addr} (h : H p = some (.lst (xs.map V.int ++ [V.int y]))) : H p = some (.lst ((xs ++ [y]).map V.int)) := by
  rw [List.map_append]; exact h
theorem cat_int {xs ys : List Int} {H : Hp} {p : Addr} (h : H p = some (.lst (xs.map V.int ++ ys.map V.int))) : H p = some (.lst ((xs ++ ys).map V.int)) := by
  rw [List.map_append]; exact h
theorem cast_lst {xs ys : List Int} {H : Hp} {p : Addr} (h : H p = some (.lst (xs.map V.int))) (e : xs = ys) : H p = some (.lst (ys.map V.int)) := e ▸ h

/-! ### tests -/
theorem dT {p : Prop} [Decidable p] (h : decide p = true) : p := of_decide_eq_true h
theorem dF {p : Prop} [Decidable p] (h : ¬ decide p = true) : ¬ p := fun x => h (decide_eq_true x)
theorem iteD {p A B : Prop} [Decidable p] (h1 : p → A) (h2 : ¬ p → B) : if decide p = true then A else B := by
  by_cases h : p
  · rw [if_pos (decide_eq_true h)]; exact h1 h
  · rw [if_neg (fun x => h (of_decide_eq_true x))]; exact h2 h
theorem iteN {p A B : Prop} [Decidable p] (h1 : ¬ p → A) (h2 : p → B) : if (!decide p) = true then A else B := by
  by_cases h : p
  · rw [decide_eq_true h]; exact iteF (h2 h)
  · rw [decide_eq_false h]; exact iteT (h1 h)
theorem iteB {b : Bool} {A B : Prop} (h1 : b = true → A) (h2 : b = false → B) : if b = true then A else B := by
  cases b with
  | true => exact iteT (h1 rfl)
  | false => exact iteF (h2 rfl)
theorem iteBN {b : Bool} {A B : Prop} (h1 : b = false → A) (h2 : b = true → B) : if (!b) = true then A else B := by
  cases b with
  | true => exact iteF (h2 rfl)
  | false => exact iteT (h1 rfl)
theorem iteDT {p A B : Prop} [Decidable p] (h : p) (k : A) : if decide p = true then A else B := by
  rw [if_pos (decide_eq_true h)]; exact k
theorem iteDF {p A B : Prop} [Decidable p] (h : ¬ p) (k : B) : if decide p = true then A else B := by
  rw [if_neg (fun x => h (of_decide_eq_true x))]; exact k
theorem iteNT {p A B : Prop} [Decidable p] (h : ¬ p) (k : A) : if (!decide p) = true then A else B := iteN (fun _ => k) (fun x => (h x).elim)
theorem iteNF {p A B : Prop} [Decidable p] (h : p) (k : B) : if (!decide p) = true then A else B := iteN (fun x => (x h).elim) (fun _ => k)

/-! ### equality of lists of ints -/
theorem eqvAll_ints : ∀ xs ys : List Int, PyData.eqvAll (xs.map PyData.int) (ys.map PyData.int) = decide (xs = ys)
  | [], [] => by simp [PyData.eqvAll]
  | [], y :: ys => by simp [PyData.eqvAll]
  | x :: xs, [] => by simp [PyData.eqvAll]
  | x :: xs, y :: ys => by
    have ih := eqvAll_ints xs ys
    simp only [List.map_cons, PyData.eqvAll, PyData.eqv, ih]
    by_cases h : x = y <;> by_cases h2 : xs = ys <;> simp [h, h2]
end Vx

namespace Vx
open PySem PySem.Spec PyProof.Rows L2
section
variable {X : Cx}
def rEqLi (K : PySem.W.Frag) : R2 := fun x y H Q => ∃ (a b : Addr) (xs ys : List Int), x = .ref a ∧ y = .ref b ∧ SqL K H a (xs.map V.int) ∧ SqL K H b (ys.map V.int) ∧ Q (.bl (decide (xs = ys))) H
def rNeLi (K : PySem.W.Frag) : R2 := fun x y H Q => ∃ (a b : Addr) (xs ys : List Int), x = .ref a ∧ y = .ref b ∧ SqL K H a (xs.map V.int) ∧ SqL K H b (ys.map V.int) ∧ Q (.bl (!decide (xs = ys))) H
theorem dpAll_ints {K : PySem.W.Frag} {H : Hp} : ∀ xs : List Int, DpAll K H (xs.map V.int) (xs.map PyData.int)
  | [] => .nil
  | x :: xs => .cons (.int x) (dpAll_ints xs)
theorem dp_ints {K : PySem.W.Frag} {H : Hp} {a : Addr} {xs : List Int} (h : SqL K H a (xs.map V.int)) : Dp K H (.ref a) (.list (xs.map PyData.int)) := .lst h (dpAll_ints xs)
theorem canLay_ints : ∀ xs : List Int, PyData.canLayAll0 (xs.map PyData.int) = true
  | [] => by simp [PyData.canLayAll0]
  | x :: xs => by simp [PyData.canLayAll0, PyData.canLay0, canLay_ints xs]
theorem depth_ints : ∀ xs : List Int, PyData.depthAll (xs.map PyData.int) = 0
  | [] => by simp [PyData.depthAll]
  | x :: xs => by simp [PyData.depthAll, PyData.depth, depth_ints xs]
theorem shaped_ints (xs : List Int) : SeqAt.shaped (.list (xs.map PyData.int)) = true := by
  unfold SeqAt.shaped
  simp [PyData.canLay0, canLay_ints, PyData.depth, depth_ints]
theorem eqv_ints (xs ys : List Int) : PyData.eqv (.list (xs.map PyData.int)) (.list (ys.map PyData.int)) = decide (xs = ys) := by
  simp only [PyData.eqv]
  exact eqvAll_ints xs ys
theorem op_eqLi (hu : X.A.units + 64 < cLine) : OpR X (compareOp .Eq) (rEqLi X.K) := by
  intro pins s σ H x y v u Q I rx ry h
  obtain ⟨a, b, xs, ys, rfl, rfl, h1, h2, q⟩ := h
  exact op_eqD hu pins s σ H _ _ v u Q I rx ry ⟨_, _, dp_ints h1, dp_ints h2, shaped_ints xs, shaped_ints ys, by rw [eqv_ints]; exact q⟩
theorem op_neLi (hu : X.A.units + 64 < cLine) : OpR X (compareOp .NotEq) (rNeLi X.K) := by
  intro pins s σ H x y v u Q I rx ry h
  obtain ⟨a, b, xs, ys, rfl, rfl, h1, h2, q⟩ := h
  exact op_neD hu pins s σ H _ _ v u Q I rx ry ⟨_, _, dp_ints h1, dp_ints h2, shaped_ints xs, shaped_ints ys, by rw [eqv_ints]; exact q⟩

/-! ### items, slices, repetition, comprehensions of ints -/
def itI (xs : List Int) (i : Int) : Int := (atI xs i).getD 0
theorem atI_int {xs : List Int} {i : Int} (h : -(xs.length : Int) ≤ i ∧ i < xs.length) : atI (xs.map V.int) i = some (.int (itI xs i)) := by
  unfold itI atI
  rw [List.length_map]
  have hk : ∃ j, ixN xs.length i = some j ∧ j < xs.length := by
    unfold ixN
    by_cases h0 : 0 ≤ i
    · refine ⟨i.toNat, ?_, by omega⟩
      rw [if_pos h0, if_pos h.2]
    · refine ⟨(i + xs.length).toNat, ?_, by omega⟩
      rw [if_neg h0, if_pos h.1]
  obtain ⟨j, e, hj⟩ := hk
  rw [e]
  show (xs.map V.int)[j]? = some (V.int ((xs[j]?).getD 0))
  rw [List.getElem?_map, List.getElem?_eq_getElem hj] <;> rfl
def cutI (xs : List Int) (lo hi : Option Int) : List Int := (xs.drop (HT.sIx xs.length 0 lo)).take (HT.sIx xs.length xs.length hi - HT.sIx xs.length 0 lo)
theorem cut_int {xs : List Int} {lo hi : Option Int} {H : Hp} {p : Addr} (h : H p = some (.lst (cutV (xs.map V.int) lo hi))) : H p = some (.lst ((cutI xs lo hi).map V.int)) := by
  rw [h]
  unfold cutV cutI
  rw [List.length_map, List.map_take, List.map_drop]
def rep (xs : List Int) (k : Int) : List Int := (List.replicate k.toNat xs).flatten
theorem rep_int {xs : List Int} {k : Int} {H : Hp} {p : Addr} (h : H p = some (.lst (List.replicate k.toNat (xs.map V.int)).flatten)) : H p = some (.lst ((rep xs k).map V.int)) := by
  rw [h]
  unfold rep
  rw [List.map_flatten, List.map_replicate]
theorem divW_lit {i j : Int} (h : 0 < j) (h2 : j.natAbs.log2 < 9000) : CDivW i j := ⟨h, h2⟩
theorem divW_small {i j : Int} (h : 0 < j) (h2 : j < 2 ^ 128) : CDivW i j := wide_div h (show j.natAbs < 2 ^ 128 by omega) (by decide) (by decide)
theorem comp_list {xs : List Int} {i : Nat} {x y : Int} {f : Int → Int} {H : Hp} {D : Addr} (hi : xs[i]? = some x) (h : H D = some (.lst (((xs.take i).map f).map V.int ++ [V.int y]))) (e : f x = y) : H D = some (.lst (((xs.take (i + 1)).map f).map V.int)) := by
  rw [h, ← e, List.take_succ, hi, List.map_append, List.map_append] <;> rfl
theorem comp_done {xs : List Int} {f : Int → Int} {H : Hp} {D : Addr} (h : H D = some (.lst (((xs.take (xs.map V.int).length).map f).map V.int))) : H D = some (.lst ((xs.map f).map V.int)) := by
  rw [List.length_map, List.take_length] at h
  exact h
theorem comp_range {i : Nat} {y : Int} {f : Nat → Int} {H : Hp} {D : Addr} (h : H D = some (.lst (((List.range i).map f).map V.int ++ [V.int y]))) (e : f i = y) : H D = some (.lst (((List.range (i + 1)).map f).map V.int)) := by
  rw [h, ← e, List.range_succ, List.map_append, List.map_append] <;> rfl
theorem iteBT {b : Bool} {A B : Prop} (h : b = true) (k : A) : if b = true then A else B := by rw [if_pos h]; exact k
theorem iteBF {b : Bool} {A B : Prop} (h : b = false) (k : B) : if b = true then A else B := by rw [if_neg (by rw [h]; decide)]; exact k
theorem take_succ_get {α : Type} {xs : List α} {i : Nat} {x : α} (hi : xs[i]? = some x) : xs.take (i + 1) = xs.take i ++ [x] := by rw [List.take_succ, hi] <;> rfl
end

/-! ### defs of the module, as callers see them -/
section
variable {P : Program} {w : World} {K : PySem.W.Frag} {mg : Str → Option Value} {base : Heap}
structure DefIn (K : PySem.W.Frag) (mg : Str → Option Value) (x : Str) (st : Stmt) (ps : List Str) : Prop where
  ex : ∃ (f : Addr) (fd : FuncData), Fun K x x st f fd ∧ mg x = some (.ref f) ∧ Binds K fd ps []
structure Cal (P : Program) (w : World) (K : PySem.W.Frag) (mg : Str → Option Value) (base : Heap) (k : Nat) (x : Str) (sp : Sp) : Prop where
  ex : ∃ (f : Addr) (fd : FuncData) (ps : List Str), FnOk P w K mg base CX0 k f fd ps sp ∧ mg x = some (.ref f) ∧ PySem.W.keepIn K (.ref f) = true ∧ Binds K fd ps []
theorem DefIn.ok {x : Str} {st : Stmt} {N ps : List Str} {k : Nat} {sp : Sp} (D : DefIn K mg x st ps) (S : FnScope N ps (defScope st)) (len : ∀ vs H Q E, sp vs H Q E → vs.length = ps.length)
    (hbody : ∀ (f : Addr) (cdv : Value) (A : Around) (outer : List Env) (s : Shared) (H : Hp) (vs : List V) (Q : VK) (E : XK), Room k (A.deeper (envOfC x (defScope st) s.heap.objs.size f cdv)) → sp vs H Q E →
      ∃ t, PSs (cxOf CX0 P w K mg base N x (defScope st) f cdv A outer s H E).nox (defBody st) t ∧ t { nx := fun _ H' => Q .non H', rt := Q } (start N vs) H) : Cal P w K mg base (k + 1) x sp := by
  obtain ⟨f, fd, F, hm, b⟩ := D.ex
  exact ⟨f, fd, ps, F.ok S len (fun cdv A outer s H vs Q E hr h => hbody f cdv A outer s H vs Q E hr h), hm, F.kp, b⟩
end
section
variable {X : Cx} {k j : Nat} {x : Str} {sp : Sp} {p pos : Pos} {e : Expr} {es : List Expr} {t : TA}
theorem vx_call (c : Cal X.prog X.w X.K X.mg X.base k x sp) (hr : Room j X.A) (hk : k ≤ j) (hg : Gl X x) (ha : PA X (e :: es) t)
    (hdb : (x == ("__debug__" : Str)) = false := by decide) (he : starEach (e :: es) X.env = (false, eval e X.env) :: starEach es X.env := by rfl) (hpl : (backTo pos (starEach es X.env)).any (·.1) = false := by rfl) :
    PE X (.Call (.Name x p) (e :: es) [] pos) (tCall sp [] E0 t) := by
  obtain ⟨f, fd, ps, F, hm, kp, b⟩ := c.ex
  exact pe_call F (hr.mono hk) hg hm kp b .nil pass0 ha hdb he hpl
end
end Vx

namespace Vx
open PySem PySem.Spec PyProof.Rows L2
section
variable {σ : L2.St} {H : Hp} {ta tb : TE} {x y z : V} {t : TT}
theorem vv_and {a b : Bool} (h1 : Val ta σ H (.bl a)) (h2 : Val tb σ H (.bl b)) : Val (tAndV ta tb) σ H (.bl (a && b)) := fun Q q => h1 _ ⟨a, rfl, by
  cases a with
  | true => exact iteT (h2 Q q)
  | false => exact iteF q⟩
theorem vv_or {a b : Bool} (h1 : Val ta σ H (.bl a)) (h2 : Val tb σ H (.bl b)) : Val (tOrV ta tb) σ H (.bl (a || b)) := fun Q q => h1 _ ⟨a, rfl, by
  cases a with
  | true => exact iteT q
  | false => exact iteF (h2 Q q)⟩
theorem vv_not {a : Bool} (h1 : Val ta σ H (.bl a)) : Val (tNotV ta) σ H (.bl (!a)) := fun Q q => h1 _ ⟨a, rfl, q⟩
theorem vv_un {r : V → Hp → VK → Prop} (ha : Val ta σ H x) (hr : ∀ Q : VK, Q z H → r x H Q) : Val (tUn r ta) σ H z := fun Q q => ha _ (hr Q q)
theorem vv_cmp {p : Int → Int → Bool} (ha : Val ta σ H x) (hb : Val tb σ H y) (hr : ∀ Q : VK, Q z H → ∃ i j, x = .int i ∧ y = .int j ∧ Q (.bl (p i j)) H) : Val (tCmp p ta tb) σ H z := fun Q q => ha _ (hb _ (hr Q q))
theorem vv_call1 {r : List V → Hp → VK → Prop} (ha : Val ta σ H x) (hr : ∀ Q : VK, Q z H → r [x] H Q) : Val (tCB r (tCons ta tNil)) σ H z := fun Q q => ha _ (hr Q q)
theorem vt_cmp {b : Bool} (h : Val ta σ H (.bl b)) : Ans (tB ta) σ H b := fun Q q => h _ ⟨b, rfl, q⟩
theorem vt_val {b : Bool} (h : Val ta σ H (.bl b)) : Ans (tB ta) σ H b := fun Q q => h _ ⟨b, rfl, q⟩
theorem vt_int {i : Int} {K : PySem.W.Frag} (h : Val ta σ H (.int i)) : Ans (fun σ H Q => ta σ H fun x H' => ∃ k, TruV K x H' k ∧ Q k H') σ H (i != 0) := fun Q q => h _ ⟨_, rfl, q⟩
theorem vv_if {p : Prop} [Decidable p] {a b : Int} (ht : Ans t σ H (decide p)) (hx : Val ta σ H (.int a)) (hy : Val tb σ H (.int b)) : Val (tIf t ta tb) σ H (.int (if p then a else b)) := fun Q q => ht _ (by
  by_cases h : p
  · rw [if_pos h] at q; exact iteDT h (hx Q q)
  · rw [if_neg h] at q; exact iteDF h (hy Q q))
theorem vv_ifb {c : Bool} {a b : Int} (ht : Ans t σ H c) (hx : Val ta σ H (.int a)) (hy : Val tb σ H (.int b)) : Val (tIf t ta tb) σ H (.int (if c = true then a else b)) := fun Q q => ht _ (by
  cases c with
  | true => exact iteT (hx Q q)
  | false => exact iteF (hy Q q))
end
end Vx

namespace Vx
open PySem PySem.Spec PyProof.Rows L2
def rLenLi (K : PySem.W.Frag) : List V → Hp → VK → Prop := fun xs H Q => ∃ (p : Addr) (ns : List Int), xs = [.ref p] ∧ SqL K H p (ns.map V.int) ∧ Q (.int (ns.length : Int)) H
theorem call_lenLi {X : Cx} : CallR X (.builtin "len") (rLenLi X.K) := by
  intro pins s σ H xs us Q I r h
  obtain ⟨p, ns, rfl, hs, q⟩ := h
  exact call_len_seq pins s σ H _ us Q I r ⟨p, _, rfl, Or.inl hs, by rw [List.length_map]; exact q⟩
end Vx

namespace Vx
open PySem PySem.Spec PyProof.Rows L2
section
variable {X : Cx} {K : PySem.W.Frag}
theorem ix_listK (hK : X.K = K := by rfl) : IxR X (rIxL K) := hK ▸ ix_list
theorem sl_listK (hK : X.K = K := by rfl) : SlR X (rSlL K) := hK ▸ sl_list
theorem call_lenLiK (hK : X.K = K := by rfl) : CallR X (.builtin "len") (rLenLi K) := hK ▸ call_lenLi
theorem op_eqLiK (hu : X.A.units + 64 < cLine) (hK : X.K = K := by rfl) : OpR X (compareOp .Eq) (rEqLi K) := hK ▸ op_eqLi hu
theorem op_neLiK (hu : X.A.units + 64 < cLine) (hK : X.K = K := by rfl) : OpR X (compareOp .NotEq) (rNeLi K) := hK ▸ op_neLi hu
theorem pi_listK {tg l : Expr} {tl : TE} (hl : PE X l tl) (hK : X.K = K := by rfl) : PI X tg l (iList K tl) := hK ▸ pi_list hl
theorem cr_sumK (hc : X.calm = true) (hK : X.K = K := by rfl) : CallR X (.builtin "sum") (rSum K) := hK ▸ cr_sum hc
theorem cr_maxK (hc : X.calm = true) (hK : X.K = K := by rfl) : CallR X (.builtin "max") (rMax K) := hK ▸ cr_max hc
theorem cr_minK (hc : X.calm = true) (hK : X.K = K := by rfl) : CallR X (.builtin "min") (rMin K) := hK ▸ cr_min hc
end
end Vx

namespace Vx
open PySem PySem.Spec PyProof.Rows L2
theorem tyes_go {σ : L2.St} {H : Hp} {f g : Hp → Prop} (h : f H) : tYes σ H (fun b H3 => if b = true then f H3 else g H3) := by
  show if true = true then f H else g H
  exact iteT h
end Vx

/-! # second part: data of any depth, the stable heap G, the owned addresses O -/
namespace Vx
open PySem PySem.Spec PyProof.Rows L2
mutual
inductive Rp (H : Hp) : V → PyData → Prop
  | non : Rp H .non .none
  | bl (b : Bool) : Rp H (.bl b) (.bool b)
  | int (i : Int) : Rp H (.int i) (.int i)
  | str (x : Str) : Rp H (.str x) (.str x)
  | lst {a : Addr} {xs : List V} {ds : List PyData} : H a = some (.lst xs) → RpAll H xs ds → Rp H (.ref a) (.list ds)
  | tup {a : Addr} {xs : List V} {ds : List PyData} : H a = some (.tup xs) → RpAll H xs ds → Rp H (.ref a) (.tuple ds)
inductive RpAll (H : Hp) : List V → List PyData → Prop
  | nil : RpAll H [] []
  | cons {v : V} {vs : List V} {d : PyData} {ds : List PyData} : Rp H v d → RpAll H vs ds → RpAll H (v :: vs) (d :: ds)
end
mutual
theorem Rp.mono {H H' : Hp} (e : Same H H') : ∀ {v : V} {d : PyData}, Rp H v d → Rp H' v d
  | _, _, .non => .non
  | _, _, .bl b => .bl b
  | _, _, .int i => .int i
  | _, _, .str x => .str x
  | _, _, .lst h r => .lst (e _ _ h) (RpAll.mono e r)
  | _, _, .tup h r => .tup (e _ _ h) (RpAll.mono e r)
theorem RpAll.mono {H H' : Hp} (e : Same H H') : ∀ {vs : List V} {ds : List PyData}, RpAll H vs ds → RpAll H' vs ds
  | _, _, .nil => .nil
  | _, _, .cons a b => .cons (Rp.mono e a) (RpAll.mono e b)
end
mutual
theorem Rp.dp {K : PySem.W.Frag} {H : Hp} : ∀ {v : V} {d : PyData}, Rp H v d → Dp K H v d
  | _, _, .non => .non
  | _, _, .bl b => .bl b
  | _, _, .int i => .int i
  | _, _, .str x => .str x
  | _, _, .lst h r => .lst (SqL.of h) (RpAll.dp r)
  | _, _, .tup h r => .tup (SqT.of h) (RpAll.dp r)
theorem RpAll.dp {K : PySem.W.Frag} {H : Hp} : ∀ {vs : List V} {ds : List PyData}, RpAll H vs ds → DpAll K H vs ds
  | _, _, .nil => .nil
  | _, _, .cons a b => .cons (Rp.dp a) (RpAll.dp b)
end
theorem RpAll.append {H : Hp} : ∀ {xs ys : List V} {ds es : List PyData}, RpAll H xs ds → RpAll H ys es → RpAll H (xs ++ ys) (ds ++ es)
  | _, _, _, _, .nil, s => s
  | _, _, _, _, .cons r t, s => .cons r (RpAll.append t s)
theorem RpAll.ints {H : Hp} : ∀ xs : List Int, RpAll H (xs.map V.int) (xs.map PyData.int)
  | [] => .nil
  | x :: xs => .cons (.int x) (RpAll.ints xs)
theorem RpAll.bls {H : Hp} : ∀ xs : List Bool, RpAll H (xs.map V.bl) (xs.map PyData.bool)
  | [] => .nil
  | x :: xs => .cons (.bl x) (RpAll.bls xs)
theorem RpAll.one {H : Hp} {v : V} {d : PyData} (h : Rp H v d) : RpAll H [v] [d] := .cons h .nil
theorem RpAll.len {H : Hp} : ∀ {vs : List V} {ds : List PyData}, RpAll H vs ds → vs.length = ds.length
  | _, _, .nil => rfl
  | _, _, .cons _ t => by rw [List.length_cons, List.length_cons, RpAll.len t]
theorem RpAll.at {H : Hp} : ∀ {vs : List V} {ds : List PyData} {i : Nat} {v : V}, RpAll H vs ds → vs[i]? = some v → ∃ d, ds[i]? = some d ∧ Rp H v d
  | _, _, _, _, .nil, h => by simp at h
  | _, _, 0, _, .cons r _, h => by
    simp at h
    subst h
    exact ⟨_, rfl, r⟩
  | _, _, i + 1, _, .cons _ t, h => by
    obtain ⟨d, h1, h2⟩ := RpAll.at (i := i) t (by simpa using h)
    exact ⟨d, by simpa using h1, h2⟩
theorem RpAll.at' {H : Hp} : ∀ {vs : List V} {ds : List PyData} {i : Nat} {d : PyData}, RpAll H vs ds → ds[i]? = some d → ∃ v, vs[i]? = some v ∧ Rp H v d
  | _, _, _, _, .nil, h => by simp at h
  | _, _, 0, _, .cons r _, h => by
    simp at h
    subst h
    exact ⟨_, rfl, r⟩
  | _, _, i + 1, _, .cons _ t, h => by
    obtain ⟨v, h1, h2⟩ := RpAll.at' (i := i) t (by simpa using h)
    exact ⟨v, by simpa using h1, h2⟩
theorem RpAll.take {H : Hp} : ∀ (n : Nat) {vs : List V} {ds : List PyData}, RpAll H vs ds → RpAll H (vs.take n) (ds.take n)
  | 0, _, _, _ => by simpa using RpAll.nil
  | n + 1, _, _, .nil => by simpa using RpAll.nil
  | n + 1, _, _, .cons r t => .cons r (RpAll.take n t)
theorem RpAll.drop {H : Hp} : ∀ (n : Nat) {vs : List V} {ds : List PyData}, RpAll H vs ds → RpAll H (vs.drop n) (ds.drop n)
  | 0, _, _, r => r
  | n + 1, _, _, .nil => by simpa using RpAll.nil
  | n + 1, _, _, .cons r t => RpAll.drop n t
theorem RpAll.set {H : Hp} {v : V} {d : PyData} (h : Rp H v d) : ∀ (n : Nat) {vs : List V} {ds : List PyData}, RpAll H vs ds → RpAll H (vs.set n v) (ds.set n d)
  | _, _, _, .nil => .nil
  | 0, _, _, .cons _ t => .cons h t
  | n + 1, _, _, .cons r t => .cons r (RpAll.set h n t)
theorem RpAll.rep {H : Hp} {vs : List V} {ds : List PyData} (h : RpAll H vs ds) : ∀ n : Nat, RpAll H (List.replicate n vs).flatten (List.replicate n ds).flatten
  | 0 => by simpa using RpAll.nil
  | n + 1 => by
    rw [List.replicate_succ, List.flatten_cons, List.replicate_succ, List.flatten_cons]
    exact RpAll.append h (RpAll.rep h n)
theorem RpAll.get {α : Type} {f : α → PyData} {H : Hp} {vs : List V} {xs : List α} {i : Nat} {v : V} (r : RpAll H vs (xs.map f)) (h : vs[i]? = some v) : ∃ x, xs[i]? = some x ∧ Rp H v (f x) := by
  obtain ⟨d, h1, h2⟩ := RpAll.at r h
  rw [List.getElem?_map] at h1
  cases e : xs[i]? with
  | none => rw [e] at h1; cases h1
  | some x =>
    rw [e] at h1
    have : f x = d := Option.some.inj h1
    exact ⟨x, rfl, this ▸ h2⟩
/-- the item at an index, data -/
theorem RpAll.ix {α : Type} {f : α → PyData} {H : Hp} {vs : List V} {xs : List α} {k : Int} (r : RpAll H vs (xs.map f)) (h : -(xs.length : Int) ≤ k ∧ k < xs.length) : ∃ v x, atI vs k = some v ∧ atI xs k = some x ∧ Rp H v (f x) := by
  have hl : vs.length = xs.length := by rw [r.len, List.length_map]
  have hk : ∃ j, ixN xs.length k = some j ∧ j < xs.length := by
    unfold ixN
    by_cases h0 : 0 ≤ k
    · refine ⟨k.toNat, ?_, by omega⟩
      rw [if_pos h0, if_pos h.2]
    · refine ⟨(k + xs.length).toNat, ?_, by omega⟩
      rw [if_neg h0, if_pos h.1]
  obtain ⟨j, e, hj⟩ := hk
  have hx := List.getElem?_eq_getElem hj
  obtain ⟨v, h1, h2⟩ := RpAll.at' (i := j) (d := f xs[j]) r (by rw [List.getElem?_map, hx] <;> rfl)
  refine ⟨v, xs[j], ?_, ?_, h2⟩
  · unfold atI
    rw [hl, e]
    exact h1
  · unfold atI
    rw [e]
    exact hx

/-! ### types -/
def encL {α : Type} (f : α → PyData) (xs : List α) : PyData := .list (xs.map f)
def encT2 {α β : Type} (f : α → PyData) (g : β → PyData) (p : α × β) : PyData := .tuple [f p.1, g p.2]
def encT3 {α β γ : Type} (f : α → PyData) (g : β → PyData) (h : γ → PyData) (p : α × β × γ) : PyData := .tuple [f p.1, g p.2.1, h p.2.2]
def encT4 {α β γ δ : Type} (f : α → PyData) (g : β → PyData) (h : γ → PyData) (i : δ → PyData) (p : α × β × γ × δ) : PyData := .tuple [f p.1, g p.2.1, h p.2.2.1, i p.2.2.2]
structure EncOk {α : Type} [DecidableEq α] (n : Nat) (f : α → PyData) : Prop where
  lay : ∀ x, PyData.canLay0 (f x) = true
  dep : ∀ x, PyData.depth (f x) ≤ n
  eqv : ∀ x y, PyData.eqv (f x) (f y) = decide (x = y)
theorem encOk_int : EncOk 0 PyData.int := ⟨fun _ => by simp [PyData.canLay0], fun _ => by simp [PyData.depth], fun x y => by simp [PyData.eqv]; by_cases h : x = y <;> simp [h]⟩
theorem encOk_bool : EncOk 0 PyData.bool := ⟨fun _ => by simp [PyData.canLay0], fun _ => by simp [PyData.depth], fun x y => by cases x <;> cases y <;> simp [PyData.eqv]⟩
section
variable {α β γ δ : Type} [DecidableEq α] [DecidableEq β] [DecidableEq γ] [DecidableEq δ] {n m l o : Nat} {f : α → PyData} {g : β → PyData} {h : γ → PyData} {i : δ → PyData}
theorem lay_map (ok : EncOk n f) : ∀ xs : List α, PyData.canLayAll0 (xs.map f) = true
  | [] => by simp [PyData.canLayAll0]
  | x :: xs => by simp [PyData.canLayAll0, ok.lay x, lay_map ok xs]
theorem dep_map (ok : EncOk n f) : ∀ xs : List α, PyData.depthAll (xs.map f) ≤ n
  | [] => by simp [PyData.depthAll]
  | x :: xs => by
    have h1 := ok.dep x
    have h2 := dep_map ok xs
    simp only [List.map_cons, PyData.depthAll]
    omega
theorem eqv_map (ok : EncOk n f) : ∀ xs ys : List α, PyData.eqvAll (xs.map f) (ys.map f) = decide (xs = ys)
  | [], [] => by simp [PyData.eqvAll]
  | [], y :: ys => by simp [PyData.eqvAll]
  | x :: xs, [] => by simp [PyData.eqvAll]
  | x :: xs, y :: ys => by
    have ih := eqv_map ok xs ys
    simp only [List.map_cons, PyData.eqvAll, ok.eqv, ih]
    by_cases h : x = y <;> by_cases h2 : xs = ys <;> simp [h, h2]
theorem encOk_L (ok : EncOk n f) : EncOk (n + 1) (encL f) := ⟨fun xs => by simp [encL, PyData.canLay0, lay_map ok], fun xs => by
  have := dep_map ok xs
  simp only [encL, PyData.depth]
  omega, fun xs ys => by simp only [encL, PyData.eqv]; exact eqv_map ok xs ys⟩
theorem encOk_T2 (ok : EncOk n f) (ok2 : EncOk m g) : EncOk (max n m + 1) (encT2 f g) := ⟨fun x => by simp [encT2, PyData.canLay0, PyData.canLayAll0, ok.lay, ok2.lay], fun x => by
  have h1 := ok.dep x.1
  have h2 := ok2.dep x.2
  simp only [encT2, PyData.depth, PyData.depthAll]
  omega, fun x y => by
  obtain ⟨a, b⟩ := x
  obtain ⟨c, d⟩ := y
  simp only [encT2, PyData.eqv, PyData.eqvAll, ok.eqv, ok2.eqv, Prod.mk.injEq]
  by_cases h1 : a = c <;> by_cases h2 : b = d <;> simp [h1, h2]⟩
theorem encOk_T3 (ok : EncOk n f) (ok2 : EncOk m g) (ok3 : EncOk l h) : EncOk (max n (max m l) + 1) (encT3 f g h) := ⟨fun x => by simp [encT3, PyData.canLay0, PyData.canLayAll0, ok.lay, ok2.lay, ok3.lay], fun x => by
  have h1 := ok.dep x.1
  have h2 := ok2.dep x.2.1
  have h3 := ok3.dep x.2.2
  simp only [encT3, PyData.depth, PyData.depthAll]
  omega, fun x y => by
  obtain ⟨a, b, e⟩ := x
  obtain ⟨c, d, e'⟩ := y
  simp only [encT3, PyData.eqv, PyData.eqvAll, ok.eqv, ok2.eqv, ok3.eqv, Prod.mk.injEq]
  by_cases h1 : a = c <;> by_cases h2 : b = d <;> by_cases h3 : e = e' <;> simp [h1, h2, h3]⟩
theorem encOk_T4 (ok : EncOk n f) (ok2 : EncOk m g) (ok3 : EncOk l h) (ok4 : EncOk o i) : EncOk (max n (max m (max l o)) + 1) (encT4 f g h i) := ⟨fun x => by simp [encT4, PyData.canLay0, PyData.canLayAll0, ok.lay, ok2.lay, ok3.lay, ok4.lay], fun x => by
  have h1 := ok.dep x.1
  have h2 := ok2.dep x.2.1
  have h3 := ok3.dep x.2.2.1
  have h4 := ok4.dep x.2.2.2
  simp only [encT4, PyData.depth, PyData.depthAll]
  omega, fun x y => by
  obtain ⟨a, b, e, u⟩ := x
  obtain ⟨c, d, e', u'⟩ := y
  simp only [encT4, PyData.eqv, PyData.eqvAll, ok.eqv, ok2.eqv, ok3.eqv, ok4.eqv, Prod.mk.injEq]
  by_cases h1 : a = c <;> by_cases h2 : b = d <;> by_cases h3 : e = e' <;> by_cases h4 : u = u' <;> simp [h1, h2, h3, h4]⟩
end
section
variable {X : Cx} {α : Type} [DecidableEq α] {n : Nat} {f : α → PyData}
def rEqT (f : α → PyData) : R2 := fun x y H Q => ∃ (a b : α), Rp H x (f a) ∧ Rp H y (f b) ∧ Q (.bl (decide (a = b))) H
def rNeT (f : α → PyData) : R2 := fun x y H Q => ∃ (a b : α), Rp H x (f a) ∧ Rp H y (f b) ∧ Q (.bl (!decide (a = b))) H
theorem shaped_of (ok : EncOk n f) (hn : n ≤ 64) (a : α) : SeqAt.shaped (f a) = true := by
  unfold SeqAt.shaped
  have h := ok.dep a
  rw [ok.lay]
  simp
  omega
theorem op_eqT (ok : EncOk n f) (hu : X.A.units + 64 < cLine) (hn : n ≤ 64 := by decide) : OpR X (compareOp .Eq) (rEqT f) := by
  intro pins s σ H x y v u Q I rx ry h
  obtain ⟨a, b, h1, h2, q⟩ := h
  exact op_eqD hu pins s σ H _ _ v u Q I rx ry ⟨_, _, h1.dp, h2.dp, shaped_of ok hn a, shaped_of ok hn b, by rw [ok.eqv]; exact q⟩
theorem op_neT (ok : EncOk n f) (hu : X.A.units + 64 < cLine) (hn : n ≤ 64 := by decide) : OpR X (compareOp .NotEq) (rNeT f) := by
  intro pins s σ H x y v u Q I rx ry h
  obtain ⟨a, b, h1, h2, q⟩ := h
  exact op_neD hu pins s σ H _ _ v u Q I rx ry ⟨_, _, h1.dp, h2.dp, shaped_of ok hn a, shaped_of ok hn b, by rw [ok.eqv]; exact q⟩
end
section
variable {H : Hp} {v : V} {α β γ δ : Type} {f : α → PyData} {g : β → PyData} {h : γ → PyData} {i : δ → PyData}
theorem rp_int {x : Int} (r : Rp H v (.int x)) : v = .int x := by cases r; rfl
theorem rp_bool {x : Bool} (r : Rp H v (.bool x)) : v = .bl x := by cases r; rfl
theorem rp_str {x : Str} (r : Rp H v (.str x)) : v = .str x := by cases r; rfl
theorem rp_list {xs : List α} (r : Rp H v (encL f xs)) : ∃ a vs, v = .ref a ∧ H a = some (.lst vs) ∧ RpAll H vs (xs.map f) := by
  unfold encL at r
  cases r with
  | lst h1 h2 => exact ⟨_, _, rfl, h1, h2⟩
theorem rpAll_ints : ∀ {vs : List V} {xs : List Int}, RpAll H vs (xs.map PyData.int) → vs = xs.map V.int
  | _, [], .nil => rfl
  | _, x :: xs, .cons r t => by rw [rp_int r, rpAll_ints t] <;> rfl
theorem rp_ints {xs : List Int} (r : Rp H v (encL PyData.int xs)) : ∃ a, v = .ref a ∧ H a = some (.lst (xs.map V.int)) := by
  obtain ⟨a, vs, e, h1, h2⟩ := rp_list r
  rw [rpAll_ints h2] at h1
  exact ⟨a, e, h1⟩
theorem rp_tup2 {x : α × β} (r : Rp H v (encT2 f g x)) : ∃ a v1 v2, v = .ref a ∧ H a = some (.tup [v1, v2]) ∧ Rp H v1 (f x.1) ∧ Rp H v2 (g x.2) := by
  unfold encT2 at r
  cases r with
  | tup h1 h2 =>
    cases h2 with
    | cons a b =>
      cases b with
      | cons b c =>
        cases c
        exact ⟨_, _, _, rfl, h1, a, b⟩
theorem rp_tup3 {x : α × β × γ} (r : Rp H v (encT3 f g h x)) : ∃ a v1 v2 v3, v = .ref a ∧ H a = some (.tup [v1, v2, v3]) ∧ Rp H v1 (f x.1) ∧ Rp H v2 (g x.2.1) ∧ Rp H v3 (h x.2.2) := by
  unfold encT3 at r
  cases r with
  | tup h1 h2 =>
    cases h2 with
    | cons a b =>
      cases b with
      | cons b c =>
        cases c with
        | cons c d =>
          cases d
          exact ⟨_, _, _, _, rfl, h1, a, b, c⟩
theorem rp_mk_list {a : Addr} {vs : List V} {xs : List α} (h1 : H a = some (.lst vs)) (h2 : RpAll H vs (xs.map f)) : Rp H (.ref a) (encL f xs) := .lst h1 h2
theorem rp_mk_ints {a : Addr} {xs : List Int} (h1 : H a = some (.lst (xs.map V.int))) : Rp H (.ref a) (encL PyData.int xs) := .lst h1 (RpAll.ints xs)
theorem rp_mk2 {a : Addr} {v1 v2 : V} {x : α} {y : β} (h1 : H a = some (.tup [v1, v2])) (r1 : Rp H v1 (f x)) (r2 : Rp H v2 (g y)) : Rp H (.ref a) (encT2 f g (x, y)) := .tup h1 (.cons r1 (.cons r2 .nil))
theorem rp_mk3 {a : Addr} {v1 v2 v3 : V} {x : α} {y : β} {z : γ} (h1 : H a = some (.tup [v1, v2, v3])) (r1 : Rp H v1 (f x)) (r2 : Rp H v2 (g y)) (r3 : Rp H v3 (h z)) : Rp H (.ref a) (encT3 f g h (x, y, z)) := .tup h1 (.cons r1 (.cons r2 (.cons r3 .nil)))
end

/-! ### the two heaps -/
def SameXs (L : List Addr) (H H' : Hp) : Prop := ∀ b o, H b = some o → b ∉ L → H' b = some o
theorem SameXs.of {H H' : Hp} {m : Addr} (x : SameX m H H') : SameXs [m] H H' := fun b o e n => x b o e (fun z => n (by rw [z]; exact List.mem_cons_self))
theorem ni1 {b m : Addr} (h : b ≠ m) : b ∉ [m] := by simpa using h
theorem ni2 {b m n : Addr} (h : b ≠ m) (h2 : b ≠ n) : b ∉ [m, n] := by simp [h, h2]
theorem ni3 {b m n o : Addr} (h : b ≠ m) (h2 : b ≠ n) (h3 : b ≠ o) : b ∉ [m, n, o] := by simp [h, h2, h3]
theorem ni4 {b m n o p : Addr} (h : b ≠ m) (h2 : b ≠ n) (h3 : b ≠ o) (h4 : b ≠ p) : b ∉ [m, n, o, p] := by simp [h, h2, h3, h4]
def hideL (L : List Addr) (H : Hp) : Hp := fun b => if b ∈ L then none else H b
theorem hideL_same (L : List Addr) (H : Hp) : Same (hideL L H) H := fun b o e => by
  unfold hideL at e
  split at e
  · cases e
  · exact e
theorem hideL_in {L : List Addr} {H : Hp} {b : Addr} (h : b ∈ L) : hideL L H b = none := if_pos h
theorem hideL_out {L : List Addr} {H : Hp} {b : Addr} (h : b ∉ L) : hideL L H b = H b := if_neg h
/-- M: owned from outside; H0, G0: at the entry; G: what stays as it is; O: what may change -/
structure Sep (M : List Addr) (H0 G0 G H : Hp) (O : List Addr) : Prop where
  base : SameXs M H0 H
  pm : ∀ a ∈ M, H a ≠ none
  sG : Same G H
  g0 : Same G0 G
  gn : ∀ b, H0 b ≠ none → G0 b = none → G b = none
  ow : ∀ a ∈ O, G a = none ∧ H a ≠ none ∧ (a ∈ M ∨ H0 a = none)
theorem all_nil {P : Addr → Prop} : ∀ x ∈ ([] : List Addr), P x := fun x h => by cases h
theorem all_cons {P : Addr → Prop} {a : Addr} {l : List Addr} (h : P a) (t : ∀ x ∈ l, P x) : ∀ x ∈ a :: l, P x := fun x hx => by
  cases hx with
  | head => exact h
  | tail _ hx => exact t x hx
theorem some_ne {H : Hp} {a : Addr} {o : HO} (h : H a = some o) : H a ≠ none := by
  rw [h]
  exact fun z => nomatch z
theorem same_ne {H H' : Hp} {a : Addr} (e : Same H H') (h : H a ≠ none) : H' a ≠ none := by
  cases q : H a with
  | none => exact absurd q h
  | some o => exact some_ne (e a o q)
section
variable {M : List Addr} {H0 G0 G H H' : Hp} {O : List Addr} {p m : Addr} {o : HO}
theorem Sep.start (M : List Addr) (H : Hp) (hM : ∀ a ∈ M, H a ≠ none) : Sep M H (hideL M H) (hideL M H) H M :=
  ⟨fun _ _ e _ => e, hM, hideL_same M H, Same.refl _, fun _ _ e => e, fun a ha => ⟨hideL_in ha, hM a ha, .inl ha⟩⟩
theorem Sep.startG {G H : Hp} (e : Same G H) : Sep [] H G G H [] := ⟨fun _ _ e _ => e, all_nil, e, Same.refl _, fun _ _ e => e, fun a ha => by cases ha⟩
theorem Sep.start0 (H : Hp) : Sep [] H H H H [] := Sep.startG (Same.refl H)
theorem Sep.b0 (S : Sep [] H0 G0 G H O) : Same H0 H := fun b o e => S.base b o e List.not_mem_nil
theorem Sep.free (S : Sep M H0 G0 G H O) {q : Addr} (n : H q = none) : H0 q = none := by
  cases e : H0 q with
  | none => rfl
  | some o =>
    by_cases h : q ∈ M
    · exact absurd n (S.pm q h)
    · rw [S.base q o e h] at n
      cases n
theorem Sep.same (S : Sep M H0 G0 G H O) (e : Same H H') : Sep M H0 G0 G H' O :=
  ⟨fun b o h n => e b o (S.base b o h n), fun a ha => same_ne e (S.pm a ha), S.sG.trans e, S.g0, S.gn, fun a ha => ⟨(S.ow a ha).1, same_ne e (S.ow a ha).2.1, (S.ow a ha).2.2⟩⟩
theorem Sep.gfree (S : Sep M H0 G0 G H O) {q : Addr} (n : H q = none) : G q = none := by
  cases e : G q with
  | none => rfl
  | some o => rw [S.sG q o e] at n; cases n
theorem Sep.new (S : Sep M H0 G0 G H O) (n : H p = none) (e : Same H H') (h : H' p = some o) (hm : H0 p = none) : Sep M H0 G0 G H' (p :: O) := by
  have S1 := S.same e
  refine ⟨S1.base, S1.pm, S1.sG, S1.g0, S1.gn, fun a ha => ?_⟩
  cases ha with
  | head => exact ⟨S.gfree n, some_ne h, .inr hm⟩
  | tail _ ha => exact S1.ow a ha
theorem Sep.grow (S : Sep M H0 G0 G H O) (n : H p = none) (e : Same H H') (h : H' p = some o) (hm : H0 p = none) : ∃ G', Same G G' ∧ G' p = some o ∧ Sep M H0 G0 G' H' O := by
  have S1 := S.same e
  have ng := S.gfree n
  refine ⟨upd G p o, fun b u q => by rw [upd_ne (ne_of_none q ng)]; exact q, upd_same, S1.base, S1.pm, fun b u q => ?_, fun b u q => ?_, fun b hb gb => ?_, fun a ha => ?_⟩
  · by_cases z : b = p
    · subst z
      rw [upd_same] at q
      exact q ▸ h
    · rw [upd_ne z] at q
      exact S1.sG b u q
  · have := S.g0 b u q
    rw [upd_ne (ne_of_none this ng)]
    exact this
  · by_cases z : b = p
    · subst z
      exact absurd hm hb
    · rw [upd_ne z]
      exact S.gn b hb gb
  · have hne : a ≠ p := fun z => (S.ow a ha).2.1 (by rw [z]; exact n)
    rw [upd_ne hne]
    exact S1.ow a ha
theorem Sep.mut (S : Sep M H0 G0 G H O) {L : List Addr} (x : SameXs L H H') (hL : ∀ a ∈ L, a ∈ O) (hs : ∀ a ∈ L, H' a ≠ none) : Sep M H0 G0 G H' O := by
  have keep : ∀ a, H a ≠ none → H' a ≠ none := fun a h => by
    by_cases hb : a ∈ L
    · exact hs a hb
    · cases q : H a with
      | none => exact absurd q h
      | some o => exact some_ne (x a o q hb)
  refine ⟨fun b o e n => ?_, fun a ha => keep a (S.pm a ha), fun b o e => ?_, S.g0, S.gn, fun a ha => ⟨(S.ow a ha).1, keep a (S.ow a ha).2.1, (S.ow a ha).2.2⟩⟩
  · refine x b o (S.base b o e n) fun hb => ?_
    rcases (S.ow b (hL b hb)).2.2 with z | z
    · exact n z
    · rw [e] at z; cases z
  · refine x b o (S.sG b o e) fun hb => ?_
    have := (S.ow b (hL b hb)).1
    rw [e] at this
    cases this
theorem Sep.mut1 (S : Sep M H0 G0 G H O) (x : SameX m H H') (hm : m ∈ O) (h : H' m = some o) : Sep M H0 G0 G H' O :=
  S.mut (SameXs.of x) (all_cons hm all_nil) (all_cons (some_ne h) all_nil)
theorem Sep.sub (S : Sep M H0 G0 G H O) {O' : List Addr} (h : ∀ a ∈ O', a ∈ O) : Sep M H0 G0 G H O' := ⟨S.base, S.pm, S.sG, S.g0, S.gn, fun a ha => S.ow a (h a ha)⟩
/-- what was owned and is to stay as it is from now on -/
theorem Sep.freeze (S : Sep M H0 G0 G H O) {O' : List Addr} (hp : p ∈ O) (h : H p = some o) (hm : H0 p = none) (hO : ∀ a ∈ O', a ∈ O ∧ a ≠ p) : ∃ G', Same G G' ∧ G' p = some o ∧ Sep M H0 G0 G' H O' := by
  have ng := (S.ow p hp).1
  refine ⟨upd G p o, fun b u q => by rw [upd_ne (ne_of_none q ng)]; exact q, upd_same, S.base, S.pm, fun b u q => ?_, fun b u q => ?_, fun b hb gb => ?_, fun a ha => ?_⟩
  · by_cases z : b = p
    · subst z
      rw [upd_same] at q
      exact q ▸ h
    · rw [upd_ne z] at q
      exact S.sG b u q
  · have := S.g0 b u q
    rw [upd_ne (ne_of_none this ng)]
    exact this
  · by_cases z : b = p
    · subst z
      exact absurd hm hb
    · rw [upd_ne z]
      exact S.gn b hb gb
  · rw [upd_ne (hO a ha).2]
    exact S.ow a (hO a ha).1
/-- a callee that hands on data in a stable heap of its own -/
theorem Sep.step (S : Sep M H0 G0 G H O) {G' : Hp} (e : Same H H') (eG : Same G G') (sG : Same G' H') (hn : ∀ b, H b ≠ none → G b = none → G' b = none) : Sep M H0 G0 G' H' O := by
  have S1 := S.same e
  refine ⟨S1.base, S1.pm, sG, S.g0.trans eG, fun b hb gb => ?_, fun a ha => ⟨hn a (S.ow a ha).2.1 (S.ow a ha).1, (S1.ow a ha).2⟩⟩
  refine hn b (fun z => ?_) (S.gn b hb gb)
  exact hb (S.free z)
theorem Sep.hid (S : Sep M H0 G0 G H O) {L : List Addr} (h : ∀ a ∈ L, a ∈ O) : Same G (hideL L H) := fun b o e => by
  rw [hideL_out fun z => by
    have := (S.ow b (h b z)).1
    rw [e] at this
    cases this]
  exact S.sG b o e
end
end Vx

namespace Vx
open PySem PySem.Spec PyProof.Rows L2
/-! ### lists of plain things (f : V.int, V.bl, V.str) -/
section
variable {α : Type} {f : α → V} {H : Hp} {p : Addr}
theorem cat_map {xs ys : List α} (h : H p = some (.lst (xs.map f ++ ys.map f))) : H p = some (.lst ((xs ++ ys).map f)) := by
  rw [List.map_append]; exact h
theorem snoc_map {xs : List α} {y : α} (h : H p = some (.lst (xs.map f ++ [f y]))) : H p = some (.lst ((xs ++ [y]).map f)) := by
  rw [List.map_append]; exact h
def repL (xs : List α) (k : Int) : List α := (List.replicate k.toNat xs).flatten
theorem rep_map {xs : List α} {k : Int} (h : H p = some (.lst (List.replicate k.toNat (xs.map f)).flatten)) : H p = some (.lst ((repL xs k).map f)) := by
  rw [h]
  unfold repL
  rw [List.map_flatten, List.map_replicate]
def cutL (xs : List α) (lo hi : Option Int) : List α := (xs.drop (HT.sIx xs.length 0 lo)).take (HT.sIx xs.length xs.length hi - HT.sIx xs.length 0 lo)
theorem cut_map {xs : List α} {lo hi : Option Int} (h : H p = some (.lst (cutV (xs.map f) lo hi))) : H p = some (.lst ((cutL xs lo hi).map f)) := by
  rw [h]
  unfold cutV cutL
  rw [List.length_map, List.map_take, List.map_drop]
theorem cast_map {xs ys : List α} (h : H p = some (.lst (xs.map f))) (e : xs = ys) : H p = some (.lst (ys.map f)) := e ▸ h
theorem drop_map {xs : List α} (h : H p = some (.lst (xs.map f).dropLast)) : H p = some (.lst (xs.dropLast.map f)) := by
  rw [h, List.map_dropLast]
theorem ixN_some {n : Nat} {k : Int} (h : -(n : Int) ≤ k ∧ k < n) : ∃ j, ixN n k = some j ∧ j < n := by
  unfold ixN
  by_cases h0 : 0 ≤ k
  · exact ⟨k.toNat, by rw [if_pos h0, if_pos h.2], by omega⟩
  · exact ⟨(k + n).toNat, by rw [if_neg h0, if_pos h.1], by omega⟩
def itD [Inhabited α] (xs : List α) (k : Int) : α := (atI xs k).getD default
theorem atI_map [Inhabited α] {xs : List α} {k : Int} (h : -(xs.length : Int) ≤ k ∧ k < xs.length) : atI (xs.map f) k = some (f (itD xs k)) := by
  obtain ⟨j, e, hj⟩ := ixN_some h
  unfold itD atI
  rw [List.length_map, e]
  show (xs.map f)[j]? = some (f ((xs[j]?).getD default))
  rw [List.getElem?_map, List.getElem?_eq_getElem hj] <;> rfl
def setL (xs : List α) (k : Int) (y : α) : List α := xs.set ((ixN xs.length k).getD 0) y
theorem ixN_map {xs : List α} {k : Int} (h : -(xs.length : Int) ≤ k ∧ k < xs.length) : ixN (xs.map f).length k = some ((ixN xs.length k).getD 0) := by
  obtain ⟨j, e, hj⟩ := ixN_some h
  rw [List.length_map, e] <;> rfl
theorem set_map {xs : List α} {k : Int} {y : α} (h : H p = some (.lst ((xs.map f).set ((ixN xs.length k).getD 0) (f y)))) : H p = some (.lst ((setL xs k y).map f)) := by
  rw [h]
  unfold setL
  rw [List.map_set]
def lastD [Inhabited α] (xs : List α) : α := xs.getLastD default
theorem pop_map [Inhabited α] {xs : List α} (h : xs ≠ []) : (xs.map f)[(xs.map f).length - 1]? = some (f (lastD xs)) := by
  rw [← List.getLast?_eq_getElem?, List.getLast?_map]
  unfold lastD
  cases e : xs.getLast? with
  | none => exact absurd (List.getLast?_eq_none_iff.mp e) h
  | some y =>
    rw [List.getLastD_eq_getLast?, e] <;> rfl
end
/-! ### lists of data -/
section
variable {α β : Type} {f : α → PyData} {g : β → PyData} {G : Hp} {vs ws : List V} {xs ys : List α}
theorem app_map (a : RpAll G vs (xs.map f)) (b : RpAll G ws (ys.map f)) : RpAll G (vs ++ ws) ((xs ++ ys).map f) := by
  rw [List.map_append]; exact a.append b
theorem one_map {v : V} {y : α} (a : RpAll G vs (xs.map f)) (b : Rp G v (f y)) : RpAll G (vs ++ [v]) ((xs ++ [y]).map f) := by
  rw [List.map_append]; exact a.append (.one b)
theorem rep_all (k : Int) (a : RpAll G vs (xs.map f)) : RpAll G (List.replicate k.toNat vs).flatten ((repL xs k).map f) := by
  unfold repL
  rw [List.map_flatten, List.map_replicate]
  exact a.rep _
theorem cut_all (lo hi : Option Int) (a : RpAll G vs (xs.map f)) : RpAll G (cutV vs lo hi) ((cutL xs lo hi).map f) := by
  unfold cutV cutL
  rw [a.len, List.length_map, List.map_take, List.map_drop]
  exact (a.drop _).take _
theorem rp_cast {v : V} {d e : PyData} (r : Rp G v d) (h : d = e) : Rp G v e := h ▸ r
theorem comp_listD {i : Nat} {x : α} {y : β} {v : V} {h : α → β} (hi : xs[i]? = some x) (a : RpAll G vs (((xs.take i).map h).map g)) (r : Rp G v (g y)) (e : h x = y) : RpAll G (vs ++ [v]) (((xs.take (i + 1)).map h).map g) := by
  rw [take_succ_get hi, List.map_append, List.map_append]
  exact a.append (.one (e ▸ r))
theorem comp_rangeD {i : Nat} {y : β} {v : V} {h : Nat → β} (a : RpAll G vs (((List.range i).map h).map g)) (r : Rp G v (g y)) (e : h i = y) : RpAll G (vs ++ [v]) (((List.range (i + 1)).map h).map g) := by
  rw [List.range_succ, List.map_append, List.map_append]
  exact a.append (.one (e ▸ r))
theorem comp_doneD {n : Nat} {h : List α → List β} (hl : n = xs.length) (a : RpAll G vs ((h (xs.take n)).map g)) : RpAll G vs ((h xs).map g) := by
  rw [hl, List.take_length] at a
  exact a
theorem comp_listFD {i : Nat} {x : α} {y : β} {v : V} {h : α → β} {q : α → Bool} (hi : xs[i]? = some x) (hq : q x = true) (a : RpAll G vs ((((xs.take i).filter q).map h).map g)) (r : Rp G v (g y)) (e : h x = y) : RpAll G (vs ++ [v]) ((((xs.take (i + 1)).filter q).map h).map g) := by
  rw [take_succ_get hi, List.filter_append, List.filter_cons, if_pos hq, List.map_append, List.map_append]
  exact a.append (.one (e ▸ r))
theorem skip_listD {i : Nat} {x : α} {h : α → β} {q : α → Bool} (hi : xs[i]? = some x) (hq : q x = false) (a : RpAll G vs ((((xs.take i).filter q).map h).map g)) : RpAll G vs ((((xs.take (i + 1)).filter q).map h).map g) := by
  rw [take_succ_get hi, List.filter_append, List.filter_cons, if_neg (by rw [hq]; decide), List.filter_nil, List.append_nil]
  exact a
end
section
variable {α β : Type} {f : β → V} {H : Hp} {D : Addr} {xs : List α}
theorem compM_list {i : Nat} {x : α} {y : β} {h : α → β} (hi : xs[i]? = some x) (a : H D = some (.lst (((xs.take i).map h).map f ++ [f y]))) (e : h x = y) : H D = some (.lst (((xs.take (i + 1)).map h).map f)) := by
  rw [a, ← e, take_succ_get hi, List.map_append, List.map_append] <;> rfl
theorem compM_range {i : Nat} {y : β} {h : Nat → β} (a : H D = some (.lst (((List.range i).map h).map f ++ [f y]))) (e : h i = y) : H D = some (.lst (((List.range (i + 1)).map h).map f)) := by
  rw [a, ← e, List.range_succ, List.map_append, List.map_append] <;> rfl
theorem compM_done {n : Nat} {h : List α → List β} (hl : n = xs.length) (a : H D = some (.lst ((h (xs.take n)).map f))) : H D = some (.lst ((h xs).map f)) := by
  rw [hl, List.take_length] at a
  exact a
theorem compM_listF {i : Nat} {x : α} {y : β} {h : α → β} {q : α → Bool} (hi : xs[i]? = some x) (hq : q x = true) (a : H D = some (.lst ((((xs.take i).filter q).map h).map f ++ [f y]))) (e : h x = y) : H D = some (.lst ((((xs.take (i + 1)).filter q).map h).map f)) := by
  rw [a, ← e, take_succ_get hi, List.filter_append, List.filter_cons, if_pos hq, List.map_append, List.map_append] <;> rfl
theorem skipM_list {i : Nat} {x : α} {h : α → β} {q : α → Bool} (hi : xs[i]? = some x) (hq : q x = false) (a : H D = some (.lst ((((xs.take i).filter q).map h).map f))) : H D = some (.lst ((((xs.take (i + 1)).filter q).map h).map f)) := by
  rw [a, take_succ_get hi, List.filter_append, List.filter_cons, if_neg (by rw [hq]; decide), List.filter_nil, List.append_nil]
theorem compM_rangeF {i : Nat} {y : β} {h : Nat → β} {q : Nat → Bool} (hq : q i = true) (a : H D = some (.lst ((((List.range i).filter q).map h).map f ++ [f y]))) (e : h i = y) : H D = some (.lst ((((List.range (i + 1)).filter q).map h).map f)) := by
  rw [a, ← e, List.range_succ, List.filter_append, List.filter_cons, if_pos hq, List.map_append, List.map_append] <;> rfl
theorem skipM_range {i : Nat} {h : Nat → β} {q : Nat → Bool} (hq : q i = false) (a : H D = some (.lst ((((List.range i).filter q).map h).map f))) : H D = some (.lst ((((List.range (i + 1)).filter q).map h).map f)) := by
  rw [a, List.range_succ, List.filter_append, List.filter_cons, if_neg (by rw [hq]; decide), List.filter_nil, List.append_nil]
end
/-! ### more rules -/
section
variable {X : Cx} {K : PySem.W.Frag}
theorem ix_tupK (hK : X.K = K := by rfl) : IxR X (rIxT K) := hK ▸ ix_tup
def rLenLK (K : PySem.W.Frag) : List V → Hp → VK → Prop := fun xs H Q => ∃ (p : Addr) (vs : List V) (n : Nat), xs = [.ref p] ∧ SqL K H p vs ∧ vs.length = n ∧ Q (.int (n : Int)) H
theorem call_lenLK (hK : X.K = K := by rfl) : CallR X (.builtin "len") (rLenLK K) := by
  subst hK
  intro pins s σ H xs us Q I r h
  obtain ⟨p, vs, n, rfl, hs, hn, q⟩ := h
  exact call_len_seq pins s σ H _ us Q I r ⟨p, _, rfl, Or.inl hs, by rw [hn]; exact q⟩
def rListLK (K : PySem.W.Frag) : List V → Hp → VK → Prop := fun xs H Q => ∃ (p : Addr) (vs : List V), xs = [.ref p] ∧ SqL K H p vs ∧ ∀ l, H l = none → Q (.ref l) (upd H l (.lst vs))
theorem call_listLK (hK : X.K = K := by rfl) : CallR X (.type "list") (rListLK K) := by
  subst hK
  intro pins s σ H xs us Q I r h
  obtain ⟨p, vs, rfl, hs, q⟩ := h
  exact call_list_of pins s σ H _ us Q I r ⟨p, _, rfl, Or.inl hs, q⟩
theorem cr_anyK (hc : X.calm = true) (hK : X.K = K := by rfl) : CallR X (.builtin "any") (rAny K) := hK ▸ cr_any hc
theorem cr_allK (hc : X.calm = true) (hK : X.K = K := by rfl) : CallR X (.builtin "all") (rAll K) := hK ▸ cr_all hc
theorem pi_tupK {tg l : Expr} {tl : TE} (hl : PE X l tl) (hK : X.K = K := by rfl) : PI X tg l (iTup K tl) := hK ▸ pi_tup hl
theorem pip {op : Operator} {r : R2} (h : OpR X (inplaceOp op) r) : PIp X op r := fun pins s σ H x y v u Q I rx ry q => h pins s σ H x y v u Q I rx ry q
/-- an item at a place from 0 on, by itself (ahead of o[i] op= e) -/
def rIxP (K : PySem.W.Frag) : R2 := fun x y H Q => ∃ (p : Addr) (xs : List V) (k : Int) (v : V), x = .ref p ∧ y = .int k ∧ SqL K H p xs ∧ 0 ≤ k ∧ k < 2 ^ 62 ∧ atI xs k = some v ∧ Q v H
theorem pget_list (hK : X.K = K := by rfl) : PGet X (rIxP K) := by
  subst hK
  intro pins s σ H o i ov iv Q I ro ri h
  obtain ⟨p, xs, k, v, rfl, rfl, hq, h0, h62, ha, q⟩ := h
  cases ro
  obtain ⟨t, rfl⟩ := ri
  obtain ⟨its, r, pl, hz⟩ := I.list hq
  obtain ⟨j, h1, h2, h3, h4, h5⟩ := atI_get ha
  obtain ⟨w, ew, rw'⟩ := r.get h2
  have hj : k.toNat = j := by
    rw [seqIndex_of h0 h5] at h1
    exact Option.some.inj h1
  exact getItem_listL pl.isList h0 (by omega) (by rw [hj]; simpa using ew) ⟨v, H, I, rw', q⟩
theorem tru_map {α : Type} [DecidableEq α] {f : α → V} {xs : List α} : (!decide (xs = [])) = !(xs.map f).isEmpty := by
  cases xs <;> simp
end
end Vx

namespace Vx
open PySem PySem.Spec PyProof.Rows L2
/-! ### objects -/
section
variable {M : List Addr} {H0 G0 G H H' : Hp} {O : List Addr} {p m : Addr} {o : HO}
theorem gen_obj {x dx : Addr} {o1 o2 : HO} (nx : H x = none) (nd : H dx = none) (ne : dx ≠ x) (h : upd (upd H dx o1) x o2 = H') : Same H H' ∧ H' x = some o2 := by
  subst h
  exact ⟨fun b u e => by rw [upd_ne (ne_of_none e nx), upd_ne (ne_of_none e nd)]; exact e, upd_same⟩
theorem sameX_of {m : Addr} (x : SameXs [m] H H') : SameX m H H' := fun b o e n => x b o e (by simpa using n)
theorem g_ne {a b : Addr} (h : G a = some o) (S : Sep M H0 G0 G H O) (hb : b ∈ O) : a ≠ b := fun z => by
  have := (S.ow b hb).1
  rw [← z, h] at this
  cases this
/-- an object whose making has laid some lists -/
theorem Sep.mutnew (S : Sep M H0 G0 G H O) {L : List Addr} (x : SameXs L H H') (hL : ∀ a ∈ L, a ∈ O) (hs : ∀ a ∈ L, H' a ≠ none) (hn : H p = none) (hp : H' p ≠ none) (h0 : H0 p = none) : Sep M H0 G0 G H' (p :: O) := by
  have S1 := S.mut x hL hs
  refine ⟨S1.base, S1.pm, S1.sG, S1.g0, S1.gn, all_cons ⟨S.gfree hn, hp, .inr h0⟩ S1.ow⟩
theorem Sep.init (S : Sep M H0 G0 G H O) (x : SameX m H H') (hm : m ∈ O) (h : H' m = some o) (L : List Addr) (hL : ∀ a ∈ L, H a = none ∧ H' a ≠ none ∧ H0 a = none) : Sep M H0 G0 G H' (L ++ O) := by
  have S1 := S.mut1 x hm h
  refine ⟨S1.base, S1.pm, S1.sG, S1.g0, S1.gn, fun a ha => ?_⟩
  rcases List.mem_append.mp ha with z | z
  · obtain ⟨h1, h2, h3⟩ := hL a z
    exact ⟨S.gfree h1, h2, .inr h3⟩
  · exact S1.ow a z
end
section
variable {P : Program} {w : World} {K : PySem.W.Frag} {mg : Str → Option Value} {base : Heap}
structure MethIn (K : PySem.W.Frag) (C : Addr) (q m : Str) (st : Stmt) (ps : List Str) : Prop where
  ex : ∃ (f : Addr) (fd : FuncData), Fun K m q st f fd ∧ Meth K C m f ∧ Binds K fd ps []
structure PropIn (K : PySem.W.Frag) (C : Addr) (q m : Str) (st : Stmt) (ps : List Str) : Prop where
  ex : ∃ (r f : Addr) (fd : FuncData), Fun K m q st f fd ∧ PropOf K C m r f ∧ Binds K fd ps []
structure InitIn (K : PySem.W.Frag) (mg : Str → Option Value) (C : Addr) (cn q : Str) (st : Stmt) (ps : List Str) : Prop where
  ex : ∃ (f : Addr) (fd : FuncData), Fun K "__init__" q st f fd ∧ Mk K C f ∧ mg cn = some (.ref C) ∧ Binds K fd ps []
structure MetC (P : Program) (w : World) (K : PySem.W.Frag) (mg : Str → Option Value) (base : Heap) (k : Nat) (C : Addr) (m : Str) (sp : Sp) : Prop where
  ex : ∃ (f : Addr) (fd : FuncData) (ps : List Str), Cls K C ∧ Meth K C m f ∧ FnOk P w K mg base CX0 k f fd ps sp ∧ Binds K fd ps []
structure PropC (P : Program) (w : World) (K : PySem.W.Frag) (mg : Str → Option Value) (base : Heap) (k : Nat) (C : Addr) (m : Str) (sp : Sp) : Prop where
  ex : ∃ (q f : Addr) (fd : FuncData) (ps : List Str), Cls K C ∧ PropOf K C m q f ∧ FnOk P w K mg base CX0 k f fd ps sp ∧ Binds K fd ps []
structure MakC (P : Program) (w : World) (K : PySem.W.Frag) (mg : Str → Option Value) (base : Heap) (k : Nat) (cn : Str) (C : Addr) (sp : Sp) : Prop where
  ex : ∃ (f : Addr) (fd : FuncData) (ps : List Str), Mk K C f ∧ FnOk P w K mg base CX0 k f fd ps sp ∧ mg cn = some (.ref C) ∧ Binds K fd ps []
abbrev Body (P : Program) (w : World) (K : PySem.W.Frag) (mg : Str → Option Value) (base : Heap) (x : Str) (st : Stmt) (N : List Str) (k : Nat) (sp : Sp) : Prop :=
  ∀ (f : Addr) (cdv : Value) (A : Around) (outer : List Env) (s : Shared) (H : Hp) (vs : List V) (Q : VK) (E : XK), Room k (A.deeper (envOfC x (defScope st) s.heap.objs.size f cdv)) → sp vs H Q E →
    ∃ t, PSs (cxOf CX0 P w K mg base N x (defScope st) f cdv A outer s H E).nox (defBody st) t ∧ t { nx := fun _ H' => Q .non H', rt := Q } (start N vs) H
theorem MethIn.ok {C : Addr} {q m : Str} {st : Stmt} {N ps : List Str} {k : Nat} {sp : Sp} (D : MethIn K C q m st ps) (c : Cls K C) (S : FnScope N ps (defScope st)) (len : ∀ vs H Q E, sp vs H Q E → vs.length = ps.length)
    (hbody : Body P w K mg base q st N k sp) : MetC P w K mg base (k + 1) C m sp := by
  obtain ⟨f, fd, F, me, b⟩ := D.ex
  exact ⟨f, fd, ps, c, me, F.ok S len (fun cdv A outer s H vs Q E hr h => hbody f cdv A outer s H vs Q E hr h), b⟩
theorem PropIn.ok {C : Addr} {q m : Str} {st : Stmt} {N ps : List Str} {k : Nat} {sp : Sp} (D : PropIn K C q m st ps) (c : Cls K C) (S : FnScope N ps (defScope st)) (len : ∀ vs H Q E, sp vs H Q E → vs.length = ps.length)
    (hbody : Body P w K mg base q st N k sp) : PropC P w K mg base (k + 1) C m sp := by
  obtain ⟨r, f, fd, F, me, b⟩ := D.ex
  exact ⟨r, f, fd, ps, c, me, F.ok S len (fun cdv A outer s H vs Q E hr h => hbody f cdv A outer s H vs Q E hr h), b⟩
theorem InitIn.ok {C : Addr} {cn q : Str} {st : Stmt} {N ps : List Str} {k : Nat} {sp : Sp} (D : InitIn K mg C cn q st ps) (S : FnScope N ps (defScope st)) (len : ∀ vs H Q E, sp vs H Q E → vs.length = ps.length)
    (hbody : Body P w K mg base q st N k sp) : MakC P w K mg base (k + 1) cn C sp := by
  obtain ⟨f, fd, F, me, hm, b⟩ := D.ex
  exact ⟨f, fd, ps, me, F.ok S len (fun cdv A outer s H vs Q E hr h => hbody f cdv A outer s H vs Q E hr h), hm, b⟩
end
section
variable {X : Cx} {k j : Nat} {C : Addr} {x m : Str} {sp : Sp} {p pos apos : Pos} {e o : Expr} {es : List Expr} {ta : TE} {t : TA}
theorem vx_call0 (c : Cal X.prog X.w X.K X.mg X.base k x sp) (hr : Room j X.A) (hk : k ≤ j) (hg : Gl X x) (hdb : (x == ("__debug__" : Str)) = false := by decide) : PE X (.Call (.Name x p) [] [] pos) (tCall sp [] E0 tNil) := by
  obtain ⟨f, fd, ps, F, hm, kp, b⟩ := c.ex
  exact pe_call0 F (hr.mono hk) hg hm kp b .nil pass0 hdb
theorem vx_make (c : MakC X.prog X.w X.K X.mg X.base k x C sp) (hr : Room j X.A) (hk : k + 1 ≤ j) (hg : Gl X x) (ha : PA X (e :: es) t)
    (hdb : (x == ("__debug__" : Str)) = false := by decide) (he : starEach (e :: es) X.env = (false, eval e X.env) :: starEach es X.env := by rfl) (hpl : (backTo pos (starEach es X.env)).any (·.1) = false := by rfl) :
    PE X (.Call (.Name x p) (e :: es) [] pos) (tMake C sp [] E0 t) := by
  obtain ⟨f, fd, ps, M, F, hm, b⟩ := c.ex
  exact pe_make M F (hr.mono hk) hg hm b .nil pass0 ha hdb he hpl
theorem vx_make0 (c : MakC X.prog X.w X.K X.mg X.base k x C sp) (hr : Room j X.A) (hk : k + 1 ≤ j) (hg : Gl X x) (hdb : (x == ("__debug__" : Str)) = false := by decide) :
    PE X (.Call (.Name x p) [] [] pos) (tMake C sp [] E0 tNil) := by
  obtain ⟨f, fd, ps, M, F, hm, b⟩ := c.ex
  exact pe_make0 M F (hr.mono hk) hg hm b .nil pass0 hdb
theorem vx_meth {pl : Sem Bool} (c : MetC X.prog X.w X.K X.mg X.base k C m sp) (hr : Room j X.A) (hk : k ≤ j) (he : PE X o ta) (ha : PA X (e :: es) t)
    (hst : starEach (e :: es) X.env = (false, eval e X.env) :: starEach es X.env := by rfl) (hpl : (backTo pos (starEach es X.env)).any (·.1) = false := by rfl)
    (ht : eval (.Call (.Attribute o m apos) (e :: es) [] pos) X.env = (do
      let ov ← eval o X.env
      standAt apos.atName
      let (f, first) ← holding [ov] (getMethod ov m pl)
      callWith pos f first (backTo pos (starEach (e :: es) X.env)) (backToKw pos (keywordEach [] X.env))) := by rfl) :
    PE X (.Call (.Attribute o m apos) (e :: es) [] pos) (tMeth C m sp [] E0 ta t) := by
  obtain ⟨f, fd, ps, hc, hm, F, b⟩ := c.ex
  exact pe_meth he hc hm F (hr.mono hk) b .nil pass0 ha hst hpl ht
theorem vx_meth0 {pl : Sem Bool} (c : MetC X.prog X.w X.K X.mg X.base k C m sp) (hr : Room j X.A) (hk : k ≤ j) (he : PE X o ta)
    (ht : eval (.Call (.Attribute o m apos) [] [] pos) X.env = (do
      let ov ← eval o X.env
      standAt apos.atName
      let (f, first) ← holding [ov] (getMethod ov m pl)
      callWith pos f first (backTo pos (starEach [] X.env)) (backToKw pos (keywordEach [] X.env))) := by rfl) :
    PE X (.Call (.Attribute o m apos) [] [] pos) (tMeth C m sp [] E0 ta tNil) := by
  obtain ⟨f, fd, ps, hc, hm, F, b⟩ := c.ex
  exact pe_meth0 he hc hm F (hr.mono hk) b .nil pass0 ht
theorem vx_prop (c : PropC X.prog X.w X.K X.mg X.base k C m sp) (hr : Room j X.A) (hk : k + 1 ≤ j) (he : PE X o ta) (hab : attributeBase o m X.env (eval o X.env) = eval o X.env) : PE X (.Attribute o m pos) (tProp C sp [] E0 ta) := by
  obtain ⟨q, f, fd, ps, hc, hp, F, b⟩ := c.ex
  exact pe_prop he hc hp F (hr.mono hk) b .nil pass0 hab
end
theorem iteBNT {b : Bool} {A B : Prop} (h : b = false) (k : A) : if (!b) = true then A else B := by rw [h]; exact iteT k
theorem iteNN {b : Bool} {A B : Prop} (h : if b = true then A else B) : if (!!b) = true then A else B := by rw [Bool.not_not]; exact h
theorem iteBNF {b : Bool} {A B : Prop} (h : b = true) (k : B) : if (!b) = true then A else B := by rw [h]; exact iteF k
theorem shl_side {i j : Int} (h0 : 0 ≤ j) (h1 : j ≤ 4096) (h2 : -(2 ^ 4096) < i) (h3 : i < 2 ^ 4096) : CShl i j := by
  obtain ⟨k, rfl⟩ := Int.eq_ofNat_of_zero_le h0
  exact shl_ok (n := 4096) (by omega) (by omega)
end Vx

namespace Vx
open PySem PySem.Spec PyProof.Rows L2
section
variable {X : Cx} {K : PySem.W.Frag}
theorem fldK {e : Expr} {f : Str} {pos : Pos} {ta : TE} (he : PE X e ta) (hb : attributeBase e f X.env (eval e X.env) = eval e X.env := by rfl) (hK : X.K = K := by rfl) : PE X (.Attribute e f pos) (tFld K ta f) := hK ▸ pe_fld he hb
theorem pg_tupK {es : List Expr} {k : Nat} {t : TGs} {n : Nat} {pos : Pos} (h : PGs X es t) (hc : X.calm = true := by rfl)
    (hn : (assignEach es X.env).length = n := by rfl) (hst : (assignEach es X.env).findIdx? (·.1) = none := by rfl) (hK : X.K = K := by rfl) : PG X (.Tuple es k pos) (gTup K n t) := hK ▸ pg_tup hc h hn hst
end
end Vx

namespace Vx
open PySem PySem.Spec PyProof.Rows L2
section
variable {α β : Type} {f : α → PyData} {g : β → PyData} {fv : α → V} {gv : β → V} {G : Hp} {vs ws : List V} {xs : List α} {ys : List β}
theorem big1 {n : Nat} (h : n ≤ 1000000) : n ≤ sizeLine := smallE h
theorem cat_len (a : RpAll G vs (xs.map f)) (b : RpAll G ws (ys.map g)) (h : xs.length + ys.length ≤ 1000000) : vs.length + ws.length ≤ sizeLine := by
  rw [a.len, b.len, List.length_map, List.length_map]; exact smallE h
theorem cat_lenM (h : xs.length + ys.length ≤ 1000000) : (xs.map fv).length + (ys.map gv).length ≤ sizeLine := by
  rw [List.length_map, List.length_map]; exact smallE h
theorem rep_len {k : Nat} (a : RpAll G vs (xs.map f)) (h : xs.length * k ≤ 1000000) : vs.length * k ≤ sizeLine := by
  rw [a.len, List.length_map]; exact smallE h
theorem rep_lenM {k : Nat} (h : xs.length * k ≤ 1000000) : (xs.map fv).length * k ≤ sizeLine := by
  rw [List.length_map]; exact smallE h
theorem app_len (a : RpAll G vs (xs.map f)) (h : xs.length ≤ 1000000) : vs.length < sizeLine := by
  rw [a.len, List.length_map]; exact small h
theorem app_lenM (h : xs.length ≤ 1000000) : (xs.map fv).length < sizeLine := by
  rw [List.length_map]; exact small h
theorem cutL_len {α : Type} (xs : List α) (lo hi : Option Int) : (cutL xs lo hi).length ≤ xs.length := by
  unfold cutL
  rw [List.length_take, List.length_drop]
  omega
theorem repL_len {α : Type} (xs : List α) (k : Int) : (repL xs k).length = k.toNat * xs.length := by
  unfold repL
  simp
end
end Vx
/-! # third part: what a def computes, as a plain function with refusals -/
namespace Vx
open PySem PySem.Spec PyProof.Rows L2
inductive Rx (α : Type) where
  | ok (a : α)
  | er (e : Nat)
  | bad
def Rx.bind {α β : Type} (m : Rx α) (f : α → Rx β) : Rx β :=
  match m with
  | .ok a => f a
  | .er e => .er e
  | .bad => .bad
/-- what is wanted of an outcome -/
def cW {α : Type} (m : Rx α) (K : α → Prop) (E : Nat → Prop) : Prop :=
  match m with
  | .ok a => K a
  | .er e => E e
  | .bad => False
def grd {α : Type} (p : Prop) [Decidable p] (m : Rx α) : Rx α := if p then m else .bad
/-- within a comprehension nothing may be raised -/
def noEr {α : Type} (m : Rx α) : Rx α :=
  match m with
  | .ok a => .ok a
  | _ => .bad
/-- what the clause does not name may not come -/
def tryR {α β : Type} (m : Rx α) (cs : List Nat) (f : α → Rx β) (h : Nat → Rx β) : Rx β :=
  match m with
  | .ok a => f a
  | .er e => if e ∈ cs then h e else .bad
  | .bad => .bad
def bnd {α β : Type} (a : α) (f : α → Rx β) : Rx β := f a
inductive Lp (σ ρ : Type) where
  | go (s : σ)
  | bk (s : σ)
  | rt (r : ρ)
def Lp.aft {σ ρ τ : Type} (l : Lp σ ρ) (kr : ρ → Rx τ) (k : σ → Rx τ) : Rx τ :=
  match l with
  | .go s => k s
  | .bk s => k s
  | .rt r => kr r
def forS {σ α : Type} : List α → σ → (σ → α → Rx σ) → Rx σ
  | [], s, _ => .ok s
  | x :: r, s, f => (f s x).bind fun s' => forS r s' f
def forR {σ α ρ : Type} : List α → σ → (σ → α → Rx (Lp σ ρ)) → Rx (Lp σ ρ)
  | [], s, _ => .ok (.go s)
  | x :: r, s, f => (f s x).bind fun l =>
    match l with
    | .go s' => forR r s' f
    | .bk s' => .ok (.go s')
    | .rt v => .ok (.rt v)
def whileR {σ ρ : Type} : Nat → σ → (σ → Rx (Lp σ ρ)) → Rx (Lp σ ρ)
  | 0, _, _ => .bad
  | n + 1, s, f => (f s).bind fun l =>
    match l with
    | .go s' => whileR n s' f
    | .bk s' => .ok (.go s')
    | .rt v => .ok (.rt v)
def mapA {α β : Type} : List α → List β → (α → Rx β) → Rx (List β)
  | [], acc, _ => .ok acc
  | x :: r, acc, f => grd (acc.length ≤ 1000000) ((f x).bind fun y => mapA r (acc ++ [y]) f)
def mapF {α β : Type} : List α → List β → (α → Rx (Option β)) → Rx (List β)
  | [], acc, _ => .ok acc
  | x :: r, acc, f => grd (acc.length ≤ 1000000) ((f x).bind fun y =>
    match y with
    | some z => mapF r (acc ++ [z]) f
    | none => mapF r acc f)
section
variable {α β γ σ ρ τ : Type} {K : α → Prop} {E : Nat → Prop}
theorem cW_gen {m : Rx α} (h : cW m K E) : ∃ (K' : α → Prop) (E' : Nat → Prop), (∀ v, K' v → K v) ∧ (∀ e, E' e → E e) ∧ cW m K' E' := ⟨K, E, fun _ x => x, fun _ x => x, h⟩
theorem cW_grd {p : Prop} {dp : Decidable p} {m : Rx α} (h : cW (grd p m) K E) : p ∧ cW m K E := by
  unfold grd at h
  split at h
  · exact ⟨‹p›, h⟩
  · exact h.elim
theorem cW_pos {p : Prop} {dp : Decidable p} {a b : Rx α} (c : p) (h : cW (if p then a else b) K E) : cW a K E := by rwa [if_pos c] at h
theorem cW_neg {p : Prop} {dp : Decidable p} {a b : Rx α} (c : ¬ p) (h : cW (if p then a else b) K E) : cW b K E := by rwa [if_neg c] at h
theorem cW_call {m : Rx β} {f : β → Rx α} {K2 : β → Prop} {E2 : Nat → Prop} (h : cW (m.bind f) K E) (ho : ∀ v, cW (f v) K E → K2 v) (he : ∀ e, E e → E2 e) : cW m K2 E2 := by
  cases m with
  | ok a => exact ho a h
  | er e => exact he e h
  | bad => exact h
theorem cW_push {m : Rx β} {f : β → Rx α} (h : cW (m.bind f) K E) : ∃ K2 : β → Prop, (∀ v, K2 v → cW (f v) K E) ∧ cW m K2 E := ⟨fun v => cW (f v) K E, fun _ x => x, cW_call h (fun _ x => x) fun _ x => x⟩
theorem cW_name {m : Rx α} (h : cW m K E) : ∃ K' : α → Prop, (∀ v, K' v → K v) ∧ cW m K' E := ⟨K, fun _ x => x, h⟩
theorem cW_noEr {m : Rx α} (h : cW (noEr m) K E) : cW m K (fun _ => False) := by
  cases m with
  | ok a => exact h
  | er e => exact h
  | bad => exact h
theorem cW_try {m : Rx β} {cs : List Nat} {f : β → Rx α} {g : Nat → Rx α} {K2 : β → Prop} {E2 : Nat → Prop} (h : cW (tryR m cs f g) K E) (ho : ∀ v, cW (f v) K E → K2 v) (hc : ∀ e, e ∈ cs → cW (g e) K E → E2 e) : cW m K2 E2 := by
  cases m with
  | ok a => exact ho a h
  | er e =>
    have h2 : cW (if e ∈ cs then g e else .bad) K E := h
    by_cases q : e ∈ cs
    · exact hc e q (cW_pos q h2)
    · exact (cW_neg q h2).elim
  | bad => exact h
theorem cW_bnd {a : β} {f : β → Rx α} (h : cW (bnd a f) K E) : cW (f a) K E := h
theorem cW_ok {a : α} (h : cW (.ok a) K E) : K a := h
theorem cW_er {e : Nat} (h : cW (.er e : Rx α) K E) : E e := h
theorem cW_negB {b : Bool} {x y : Rx α} (c : b = false) (h : cW (if b = true then x else y) K E) : cW y K E := cW_neg (by rw [c]; decide) h
theorem cW_forS {xs : List β} {i : Nat} {x : β} {s : α} {f : α → β → Rx α} (hx : xs[i]? = some x) (h : cW (forS (xs.drop i) s f) K E) : cW (f s x) (fun s' => cW (forS (xs.drop (i + 1)) s' f) K E) E := by
  rw [List.drop_eq_getElem?_toList_append, hx] at h
  exact cW_call h (fun _ z => z) fun _ z => z
theorem cW_forS0 {xs : List β} {n : Nat} {s : α} {f : α → β → Rx α} (hn : n = xs.length) (h : cW (forS (xs.drop n) s f) K E) : K s := by
  subst hn
  rw [List.drop_length] at h
  exact h
theorem cW_forR {K : Lp σ ρ → Prop} {xs : List β} {i : Nat} {x : β} {s : σ} {f : σ → β → Rx (Lp σ ρ)} (hx : xs[i]? = some x) (h : cW (forR (xs.drop i) s f) K E) :
    cW (f s x) (fun l => match l with | .go s' => cW (forR (xs.drop (i + 1)) s' f) K E | .bk s' => K (.go s') | .rt v => K (.rt v)) E := by
  rw [List.drop_eq_getElem?_toList_append, hx] at h
  refine cW_call h (fun l z => ?_) fun _ z => z
  cases l with
  | go s' => exact z
  | bk s' => exact z
  | rt v => exact z
theorem cW_forR0 {K : Lp σ ρ → Prop} {xs : List β} {n : Nat} {s : σ} {f : σ → β → Rx (Lp σ ρ)} (hn : n = xs.length) (h : cW (forR (xs.drop n) s f) K E) : K (.go s) := by
  subst hn
  rw [List.drop_length] at h
  exact h
theorem cW_whileR {K : Lp σ ρ → Prop} {m : Nat} {s : σ} {f : σ → Rx (Lp σ ρ)} (h : cW (whileR m s f) K E) :
    ∃ n, m = n + 1 ∧ cW (f s) (fun l => match l with | .go s' => cW (whileR n s' f) K E | .bk s' => K (.go s') | .rt v => K (.rt v)) E := by
  cases m with
  | zero => exact h.elim
  | succ n =>
    refine ⟨n, rfl, cW_call h (fun l z => ?_) fun _ z => z⟩
    cases l with
    | go s' => exact z
    | bk s' => exact z
    | rt v => exact z
theorem cW_mapA {K : List α → Prop} {xs : List β} {acc : List α} {i : Nat} {x : β} {f : β → Rx α} (hx : xs[i]? = some x) (h : cW (mapA (xs.drop i) acc f) K E) :
    acc.length ≤ 1000000 ∧ cW (f x) (fun y => cW (mapA (xs.drop (i + 1)) (acc ++ [y]) f) K E) E := by
  rw [List.drop_eq_getElem?_toList_append, hx] at h
  obtain ⟨z, h⟩ := cW_grd h
  exact ⟨z, cW_call h (fun _ z => z) fun _ z => z⟩
theorem cW_mapA0 {K : List α → Prop} {xs : List β} {acc : List α} {n : Nat} {f : β → Rx α} (hn : n = xs.length) (h : cW (mapA (xs.drop n) acc f) K E) : K acc := by
  subst hn
  rw [List.drop_length] at h
  exact h
theorem cW_mapF {K : List α → Prop} {xs : List β} {acc : List α} {i : Nat} {x : β} {f : β → Rx (Option α)} (hx : xs[i]? = some x) (h : cW (mapF (xs.drop i) acc f) K E) :
    acc.length ≤ 1000000 ∧ cW (f x) (fun y => match y with | some z => cW (mapF (xs.drop (i + 1)) (acc ++ [z]) f) K E | none => cW (mapF (xs.drop (i + 1)) acc f) K E) E := by
  rw [List.drop_eq_getElem?_toList_append, hx] at h
  obtain ⟨z, h⟩ := cW_grd h
  refine ⟨z, cW_call h (fun y z => ?_) fun _ z => z⟩
  cases y with
  | none => exact z
  | some w => exact z
theorem cW_mapF0 {K : List α → Prop} {xs : List β} {acc : List α} {n : Nat} {f : β → Rx (Option α)} (hn : n = xs.length) (h : cW (mapF (xs.drop n) acc f) K E) : K acc := by
  subst hn
  rw [List.drop_length] at h
  exact h
end
/-- the numbers of a range -/
def rng (lo : Int) (n : Nat) : List Int := (List.range n).map fun (j : Nat) => lo + (j : Int)
theorem rng_get {lo : Int} {n i : Nat} (h : i < n) : (rng lo n)[i]? = some (lo + (i : Int)) := by
  unfold rng
  rw [List.getElem?_map, List.getElem?_range h] <;> rfl
theorem rng_len (lo : Int) (n : Nat) : (rng lo n).length = n := by
  unfold rng
  rw [List.length_map, List.length_range]

/-! ### calls that may raise -/
/-- what a call with n values and keywords ks gives the parameters -/
structure Bnd (K : PySem.W.Frag) (fd : FuncData) (ps : List Str) (n : Nat) (ks : List Str) (g : List V → List V → List V) : Prop where
  to : ∀ (s : Shared) (us ws : List Value) (vs zs : List V), K.In s.heap → vs.length = n → zs.length = ks.length → Vals vs us → Vals zs ws → ∃ vv : List Value, BindsTo s fd ⟨us, ks.zip ws⟩ (ps.zip vv) ∧ Vals (g vs zs) vv
theorem Bnd.of_kbn {K : PySem.W.Frag} {fd : FuncData} {ps ks : List Str} {n : Nat} {g : List Value → List Value → List Value} {gV : List V → List V → List V} (b : KBn K fd ps n ks g gV) : Bnd K fd ps n ks gV :=
  ⟨fun s us ws vs zs X l1 l2 r rz => ⟨g us ws, b.to s us ws X (r.length.symm.trans l1) (rz.length.symm.trans l2), b.rel r rz⟩⟩
theorem Bnd.all {K : PySem.W.Frag} {fd : FuncData} {ps ks : List Str} {n : Nat} {g : List V → List V → List V} (h : ∀ (us ws : List Value) (vs zs : List V), vs.length = n → zs.length = ks.length → Vals vs us → Vals zs ws →
    ∃ vv : List Value, bindArgs fd ⟨us, ks.zip ws⟩ = pure (ps.zip vv) ∧ Vals (g vs zs) vv) : Bnd K fd ps n ks g :=
  ⟨fun s us ws vs zs _ l1 l2 r rz => by
    obtain ⟨vv, e, q⟩ := h us ws vs zs l1 l2 r rz
    exact ⟨vv, BindsTo.of_eq e, q⟩⟩
abbrev Pat := Nat × List Str × (List V → List V → List V)
def Bnd1 (K : PySem.W.Frag) (fd : FuncData) (ps : List Str) (p : Pat) : Prop := Bnd K fd ps p.1 p.2.1 p.2.2
section
variable {P : Program} {w : World} {K : PySem.W.Frag} {mg : Str → Option Value} {base : Heap}
/-- a def of the top, with the ways it is called -/
structure DefX (K : PySem.W.Frag) (mg : Str → Option Value) (x : Str) (st : Stmt) (ps : List Str) (pats : List Pat) : Prop where
  ex : ∃ (f : Addr) (fd : FuncData) (dvs : List V) (kws : List (Str × V)), FunD K x x (defArgs st) (defBody st) (defScope st) dvs kws f fd ∧ mg x = some (.ref f) ∧ ∀ p ∈ pats, Bnd1 K fd ps p
structure CalX (P : Program) (w : World) (K : PySem.W.Frag) (mg : Str → Option Value) (base : Heap) (k : Nat) (x : Str) (sp : Sp) (pats : List Pat) : Prop where
  ex : ∃ (f : Addr) (fd : FuncData) (ps : List Str), FnOk P w K mg base (L2.CX P w) k f fd ps sp ∧ mg x = some (.ref f) ∧ PySem.W.keepIn K (.ref f) = true ∧ ∀ p ∈ pats, Bnd1 K fd ps p
abbrev BodyX (P : Program) (w : World) (K : PySem.W.Frag) (mg : Str → Option Value) (base : Heap) (x : Str) (st : Stmt) (N : List Str) (k : Nat) (sp : Sp) : Prop :=
  ∀ (f : Addr) (cdv : Value) (A : Around) (outer : List Env) (s : Shared) (H : Hp) (vs : List V) (Q : VK) (E : XK), Room k (A.deeper (envOfC x (defScope st) s.heap.objs.size f cdv)) → sp vs H Q E →
    ∃ t, PSs (cxOf (L2.CX P w) P w K mg base N x (defScope st) f cdv A outer s H E) (defBody st) t ∧ t { nx := fun _ H' => Q .non H', rt := Q } (start N vs) H
theorem DefX.ok {x : Str} {st : Stmt} {N ps : List Str} {pats : List Pat} {k : Nat} {sp : Sp} (D : DefX K mg x st ps pats) (S : FnScope N ps (defScope st)) (len : ∀ vs H Q E, sp vs H Q E → vs.length = ps.length)
    (hbody : BodyX P w K mg base x st N k sp) : CalX P w K mg base (k + 1) x sp pats := by
  obtain ⟨f, fd, dvs, kws, F, hm, b⟩ := D.ex
  exact ⟨f, fd, ps, F.ok S len (fun cdv A outer s H vs Q E hr h => hbody f cdv A outer s H vs Q E hr h), hm, F.kp, b⟩
end
section
variable {X : Cx} {k j n : Nat} {f : Addr} {fd : FuncData} {ps ks : List Str} {g : List V → List V → List V} {sp : Sp} {x : Str} {pos p : Pos} {e : Expr} {es : List Expr} {kws : List Keyword} {t tk : TA} {W : WX}
theorem run_X {pins : List (Addr × Obj)} {σ : L2.St} {H : Hp} {s : Shared} {Q : VK} {us ws : List Value} {vs zs : List V} (F : FnOk X.prog X.w X.K X.mg X.base (L2.CX X.prog X.w) k f fd ps sp) (hr : Room k X.A) (hb : Bnd X.K fd ps n ks g) (tkW : Takes X W)
    (I : Inv X pins σ H s) (r : Vals vs us) (rz : Vals zs ws) (l1 : vs.length = n) (l2 : zs.length = ks.length) (h : sp (g vs zs) H Q (WE W σ)) :
    wpAny (model X.prog X.w) X.A (call (.ref f) us (ks.zip ws)) (EP X pins σ Q) X.xe s := by
  obtain ⟨vv, b, r2⟩ := hb.to s us ws vs zs I.kIn l1 l2 r rz
  refine wpAny_call (codeAny_mono (F.run X.A X.stack s H ⟨us, ks.zip ws⟩ vv (g vs zs) Q (WE W σ) hr I.env0 b r2 h) fun rr s' hq => ?_)
  cases rr with
  | error er => exact passAt tkW σ pins H s er s' I hq
  | ok fl =>
    cases fl with
    | ret u => exact I.after hq
    | next => exact hq.elim
    | brk => exact hq.elim
    | cont => exact hq.elim
/-- f(e, .., k = v, ..) -/
def tCallX (n m : Nat) (sp : Sp) (g : List V → List V → List V) (W : WX) (t tk : TA) : TE := fun σ H Q => t σ H fun vs H1 => tk σ H1 fun zs H2 => vs.length = n ∧ zs.length = m ∧ sp (g vs zs) H2 Q (WE W σ)
theorem vx_callX {pats : List Pat} (c : CalX X.prog X.w X.K X.mg X.base k x sp pats) (pt : Pat) (hpt : pt ∈ pats) (hr : Room j X.A) (hk : k ≤ j) (tkW : Takes X W) (hg : Gl X x) (ha : PA X (e :: es) t) (hkw : PK X kws tk)
    (hall : (backToKw pos (keywordEach kws X.env)).all (·.1.isSome) = true := by rfl) (hks : (backToKw pos (keywordEach kws X.env)).filterMap (·.1) = pt.2.1 := by rfl)
    (hdb : (x == ("__debug__" : Str)) = false := by decide) (he : starEach (e :: es) X.env = (false, eval e X.env) :: starEach es X.env := by rfl)
    (hpl : ((backTo pos (starEach (e :: es) X.env)).any (·.1) || (backToKw pos (keywordEach kws X.env)).any (·.1.isNone)) = false := by rfl) :
    PE X (.Call (.Name x p) (e :: es) kws pos) (tCallX pt.1 pt.2.1.length sp pt.2.2 W t tk) := by
  obtain ⟨f, fd, ps, F, hm, kp, b⟩ := c.ex
  refine ⟨fun pins s σ H Q I h => ?_⟩
  refine wpAny_Call_Name_kw (ld_glob I hg hm ?_ hdb)
  refine PySem.W.callWith_KW (h₀ := X.base) I.ok.mod.kin kp hall (thn (ha.run pos pins s σ H _ I h) fun us s1 ⟨vs, H1, I1, r, q⟩ => ?_) hpl he
  refine thn (hkw.run pos pins s1 σ H1 _ I1 q) fun ws s2 ⟨zs, H2, I2, rz, l1, l2, q2⟩ => ⟨I2.kIn, ?_⟩
  rw [hks]
  exact run_X F (hr.mono hk) (b pt hpt) tkW I2 r rz l1 l2 q2
theorem vx_callX0 {pats : List Pat} (c : CalX X.prog X.w X.K X.mg X.base k x sp pats) (pt : Pat) (hpt : pt ∈ pats) (hr : Room j X.A) (hk : k ≤ j) (tkW : Takes X W) (hg : Gl X x) (hks : pt.2.1 = [] := by rfl)
    (hdb : (x == ("__debug__" : Str)) = false := by decide) : PE X (.Call (.Name x p) [] [] pos) (tCallX pt.1 pt.2.1.length sp pt.2.2 W tNil tNil) := by
  obtain ⟨f, fd, ps, F, hm, kp, b⟩ := c.ex
  refine ⟨fun pins s σ H Q I h => ?_⟩
  refine wpAny_Call_Name_kw (ld_glob I hg hm ?_ hdb)
  obtain ⟨l1, l2, q2⟩ := h
  have hz := run_X (us := []) (ws := []) F (hr.mono hk) (b pt hpt) tkW I .nil .nil l1 l2 q2
  rw [hks] at hz
  exact PySem.W.callWith_K0 I.kIn kp hz
end
/-! ### borrowed things -/
theorem Sep.bM {M : List Addr} {H0 G0 G H : Hp} {O : List (Addr)} (S : Sep M H0 G0 G H O) : Same (hideL M H0) H := fun b o e => by
  by_cases h : b ∈ M
  · rw [hideL_in h] at e
    cases e
  · rw [hideL_out h] at e
    exact S.base b o e h
theorem b_ne {M : List Addr} {H0 G0 G H : Hp} {O : List Addr} {a b : Addr} {o : HO} (h : (hideL M H0) a = some o) (S : Sep M H0 G0 G H O) (hb : b ∈ O) : a ≠ b := fun z => by
  subst z
  rcases (S.ow a hb).2.2 with q | q
  · rw [hideL_in q] at h
    cases h
  · by_cases hM : a ∈ M
    · rw [hideL_in hM] at h
      cases h
    · rw [hideL_out hM, q] at h
      cases h
theorem hide0 {H : Hp} : hideL [] H = H := by
  funext b
  unfold hideL
  rw [if_neg List.not_mem_nil]
theorem hide_nil {H : Hp} {a : Addr} {o : HO} (h : H a = some o) : (hideL [] H) a = some o := by
  rw [hide0]
  exact h
theorem Rp.hide_nil {H : Hp} {v : V} {d : PyData} (h : Rp H v d) : Rp (hideL [] H) v d := by
  rw [hide0]
  exact h
theorem Sep.startM {M : List Addr} {G H : Hp} (e : Same G H) (hM : ∀ a ∈ M, H a ≠ none) (hG : ∀ a ∈ M, G a = none) : Sep M H G G H M :=
  ⟨fun _ _ e _ => e, hM, e, Same.refl _, fun _ _ e => e, fun a ha => ⟨hG a ha, hM a ha, .inl ha⟩⟩
theorem Sep.gno {M : List Addr} {H0 G0 G H : Hp} {O L : List Addr} (S : Sep M H0 G0 G H O) (h : ∀ a ∈ L, a ∈ O) : ∀ a ∈ L, G a = none := fun a ha => (S.ow a (h a ha)).1
theorem RpAll.ixD {α : Type} [Inhabited α] {f : α → PyData} {H : Hp} {vs : List V} {xs : List α} {k : Int} (r : RpAll H vs (xs.map f)) (h : -(xs.length : Int) ≤ k ∧ k < xs.length) : ∃ v, atI vs k = some v ∧ Rp H v (f (itD xs k)) := by
  obtain ⟨v, x, h1, h2, h3⟩ := RpAll.ix r h
  refine ⟨v, h1, ?_⟩
  unfold itD
  rw [h2]
  exact h3
theorem tru_all {α : Type} [DecidableEq α] {f : α → PyData} {H : Hp} {vs : List V} {xs : List α} (r : RpAll H vs (xs.map f)) : (!decide (xs = [])) = !vs.isEmpty := by
  have h := r.len
  rw [List.length_map] at h
  cases xs <;> cases vs <;> simp_all
theorem ix_nn {α : Type} {xs : List α} {k : Int} (h0 : 0 ≤ k) (h1 : k < xs.length) : -(xs.length : Int) ≤ k ∧ k < xs.length := ⟨by omega, h1⟩
theorem all_nilQ {α : Type} {P : α → Prop} : ∀ x ∈ ([] : List α), P x := fun x h => by cases h
theorem all_consQ {α : Type} {P : α → Prop} {a : α} {l : List α} (h : P a) (t : ∀ x ∈ l, P x) : ∀ x ∈ a :: l, P x := fun x hx => by
  rcases List.mem_cons.mp hx with rfl | hx
  · exact h
  · exact t x hx
theorem mem_one {a b : Nat} (h : a ∈ [b]) : a = b := by simpa using h
theorem mem_cons2 {a b : Nat} {l : List Nat} (h : a ∈ b :: l) : a = b ∨ a ∈ l := List.mem_cons.mp h
theorem len0 {α : Type} {l : List α} (h : l.length = 0) : l = [] := List.length_eq_zero_iff.mp h
theorem len1 {α : Type} {l : List α} (h : l.length = 1) : ∃ a, l = [a] := List.length_eq_one_iff.mp h
theorem len_s {α : Type} {l : List α} {n : Nat} (h : l.length = n + 1) : ∃ a r, l = a :: r ∧ r.length = n := by
  cases l with
  | nil => cases h
  | cons a r => exact ⟨a, r, rfl, Nat.succ.inj h⟩
theorem len2 {α : Type} {l : List α} (h : l.length = 2) : ∃ a b, l = [a, b] := by
  obtain ⟨a, r, rfl, h2⟩ := len_s h
  obtain ⟨b, rfl⟩ := len1 h2
  exact ⟨a, b, rfl⟩
theorem len3 {α : Type} {l : List α} (h : l.length = 3) : ∃ a b c, l = [a, b, c] := by
  obtain ⟨a, r, rfl, h2⟩ := len_s h
  obtain ⟨b, c, rfl⟩ := len2 h2
  exact ⟨a, b, c, rfl⟩
theorem len4 {α : Type} {l : List α} (h : l.length = 4) : ∃ a b c d, l = [a, b, c, d] := by
  obtain ⟨a, r, rfl, h2⟩ := len_s h
  obtain ⟨b, c, d, rfl⟩ := len3 h2
  exact ⟨a, b, c, d, rfl⟩
theorem len5 {α : Type} {l : List α} (h : l.length = 5) : ∃ a b c d e, l = [a, b, c, d, e] := by
  obtain ⟨a, r, rfl, h2⟩ := len_s h
  obtain ⟨b, c, d, e, rfl⟩ := len4 h2
  exact ⟨a, b, c, d, e, rfl⟩
theorem len6 {α : Type} {l : List α} (h : l.length = 6) : ∃ a b c d e f, l = [a, b, c, d, e, f] := by
  obtain ⟨a, r, rfl, h2⟩ := len_s h
  obtain ⟨b, c, d, e, f, rfl⟩ := len5 h2
  exact ⟨a, b, c, d, e, f, rfl⟩
theorem len7 {α : Type} {l : List α} (h : l.length = 7) : ∃ a b c d e f g, l = [a, b, c, d, e, f, g] := by
  obtain ⟨a, r, rfl, h2⟩ := len_s h
  obtain ⟨b, c, d, e, f, g, rfl⟩ := len6 h2
  exact ⟨a, b, c, d, e, f, g, rfl⟩
def rLenTK (K : PySem.W.Frag) : List V → Hp → VK → Prop := fun xs H Q => ∃ (p : Addr) (vs : List V) (n : Nat), xs = [.ref p] ∧ SqT K H p vs ∧ vs.length = n ∧ Q (.int (n : Int)) H
theorem call_lenTK {X : Cx} {K : PySem.W.Frag} (hK : X.K = K := by rfl) : CallR X (.builtin "len") (rLenTK K) := by
  subst hK
  intro pins s σ H xs us Q I r h
  obtain ⟨p, vs, n, rfl, hs, hn, q⟩ := h
  exact call_len_seq pins s σ H _ us Q I r ⟨p, _, rfl, Or.inr hs, by rw [hn]; exact q⟩
theorem exm_mk {K : PySem.W.Frag} {S C : Addr} (h1 : PySem.W.subIn K (.ref C) (.type "BaseException") = some true) (h2 : PySem.W.isClsIn K C = true) (h3 : PySem.W.typeIn K (.ref C) = some (.type "type")) (h4 : PySem.W.subIn K (.ref S) (.ref C) = some true) :
    PySem.W.exmOne K (.ref S) (.ref C) = some true := by
  unfold PySem.W.isClsIn at h2
  unfold PySem.W.exmOne
  unfold PySem.W.kitCls
  simp only [h1, h2, h3, h4, beq_self_eq_true, Bool.and_self, if_true]
theorem kit_mk {K : PySem.W.Frag} {S C : Addr} (h2 : PySem.W.isClsIn K C = true) (h3 : PySem.W.typeIn K (.ref C) = some (.type "type")) (h4 : PySem.W.subIn K (.ref S) (.ref C) = some true) :
    PySem.W.kitOne K (.ref S) (.ref C) = some true := by
  unfold PySem.W.isClsIn at h2
  unfold PySem.W.kitOne
  split
  · rfl
  · unfold PySem.W.kitCls
    simp only [h2, h3, h4, beq_self_eq_true, Bool.and_self, if_true]
/-- isinstance(e, C) of the exception in hand -/
def rIsX (K : PySem.W.Frag) (a : Addr) (cls : Value) (d : Option Addr) : List V → Hp → VK → Prop := fun xs H Q => ∃ (D C : Addr) (b : Bool), cls = .ref D ∧ d = none ∧ ExcC K D ∧ xs = [.ref a, .ref C] ∧ PySem.W.kitOne K (.ref D) (.ref C) = some b ∧ Q (.bl b) H
theorem call_isX {X : Cx} {K : PySem.W.Frag} {a : Addr} {cls : Value} {d : Option Addr} {oe : Obj} {pn : List (Addr × Obj)} (hz : Zc cls d oe) (hf : ∃ vs, oe.data = .fields vs) (hK : X.K = K := by rfl) : CallR (X.suite a ((a, oe) :: pn)) (.builtin "isinstance") (rIsX K a cls d) := by
  subst hK
  intro pins s σ H xs us Q I r h
  obtain ⟨D, C, b, rfl, rfl, c, rfl, e, q⟩ := h
  exact call_isE c hz hf pins s σ H _ us Q I r ⟨_, _, b, rfl, fun u z => z, e, q⟩
/-! ### unpacking a list -/
section
variable {X : Cx} {K : PySem.W.Frag} {pos : Pos}
theorem pg_seqK {es : List Expr} {k : Nat} {t : TGs} {n : Nat} (h : PGs X es t) (hc : X.calm = true := by rfl) (hK : X.K = K := by rfl)
    (hn : (assignEach es X.env).length = n := by rfl) (hst : (assignEach es X.env).findIdx? (·.1) = none := by rfl) : PG X (.Tuple es k pos) (gLst K n t) := hK ▸ pg_lst hc h hn hst
end
theorem SqL.cast {K : PySem.W.Frag} {H : Hp} {a : Addr} {xs ys : List V} (h : SqL K H a xs) (e : xs = ys) : SqL K H a ys := e ▸ h
section
variable {α : Type} [Inhabited α] {f : α → V}
theorem unp2 {xs : List α} (h : xs.length = 2) : xs.map f = [f (itD xs 0), f (itD xs 1)] := by
  obtain ⟨a, b, rfl⟩ := len2 h
  rfl
theorem unp3 {xs : List α} (h : xs.length = 3) : xs.map f = [f (itD xs 0), f (itD xs 1), f (itD xs 2)] := by
  obtain ⟨a, b, c, rfl⟩ := len3 h
  rfl
theorem unp4 {xs : List α} (h : xs.length = 4) : xs.map f = [f (itD xs 0), f (itD xs 1), f (itD xs 2), f (itD xs 3)] := by
  obtain ⟨a, b, c, d, rfl⟩ := len4 h
  rfl
theorem unp6 {xs : List α} (h : xs.length = 6) : xs.map f = [f (itD xs 0), f (itD xs 1), f (itD xs 2), f (itD xs 3), f (itD xs 4), f (itD xs 5)] := by
  obtain ⟨a, b, c, d, e, g, rfl⟩ := len6 h
  rfl
theorem unp8 {xs : List α} (h : xs.length = 8) : xs.map f = [f (itD xs 0), f (itD xs 1), f (itD xs 2), f (itD xs 3), f (itD xs 4), f (itD xs 5), f (itD xs 6), f (itD xs 7)] := by
  obtain ⟨a, r, rfl, h2⟩ := len_s h
  obtain ⟨b, c, d, e, g, i, j, rfl⟩ := len7 h2
  rfl
end
/-! ### classes -/
section
variable {P : Program} {w : World} {K : PySem.W.Frag} {mg : Str → Option Value} {base : Heap}
structure MethX (K : PySem.W.Frag) (C : Addr) (q m : Str) (st : Stmt) (ps : List Str) (pats : List Pat) : Prop where
  ex : ∃ (f : Addr) (fd : FuncData) (dvs : List V) (kws : List (Str × V)), FunD K m q (defArgs st) (defBody st) (defScope st) dvs kws f fd ∧ Meth K C m f ∧ ∀ p ∈ pats, Bnd1 K fd ps p
structure InitX (K : PySem.W.Frag) (mg : Str → Option Value) (C : Addr) (cn q : Str) (st : Stmt) (ps : List Str) (pats : List Pat) : Prop where
  ex : ∃ (f : Addr) (fd : FuncData) (dvs : List V) (kws : List (Str × V)), FunD K "__init__" q (defArgs st) (defBody st) (defScope st) dvs kws f fd ∧ Mk K C f ∧ mg cn = some (.ref C) ∧ ∀ p ∈ pats, Bnd1 K fd ps p
structure PropX (K : PySem.W.Frag) (C : Addr) (q m : Str) (st : Stmt) (ps : List Str) (pats : List Pat) : Prop where
  ex : ∃ (r f : Addr) (fd : FuncData) (dvs : List V) (kws : List (Str × V)), FunD K m q (defArgs st) (defBody st) (defScope st) dvs kws f fd ∧ PropOf K C m r f ∧ Binds K fd ps []
structure MetX (P : Program) (w : World) (K : PySem.W.Frag) (mg : Str → Option Value) (base : Heap) (k : Nat) (C : Addr) (m : Str) (sp : Sp) (pats : List Pat) : Prop where
  ex : ∃ (f : Addr) (fd : FuncData) (ps : List Str), Cls K C ∧ Meth K C m f ∧ FnOk P w K mg base (L2.CX P w) k f fd ps sp ∧ ∀ p ∈ pats, Bnd1 K fd ps p
structure PropY (P : Program) (w : World) (K : PySem.W.Frag) (mg : Str → Option Value) (base : Heap) (k : Nat) (C : Addr) (m : Str) (sp : Sp) (pats : List Pat) : Prop where
  ex : ∃ (q f : Addr) (fd : FuncData) (ps : List Str), Cls K C ∧ PropOf K C m q f ∧ FnOk P w K mg base (L2.CX P w) k f fd ps sp ∧ Binds K fd ps []
structure MakX (P : Program) (w : World) (K : PySem.W.Frag) (mg : Str → Option Value) (base : Heap) (k : Nat) (cn : Str) (C : Addr) (sp : Sp) (pats : List Pat) : Prop where
  ex : ∃ (f : Addr) (fd : FuncData) (ps : List Str), Mk K C f ∧ FnOk P w K mg base (L2.CX P w) k f fd ps sp ∧ mg cn = some (.ref C) ∧ ∀ p ∈ pats, Bnd1 K fd ps p
theorem MethX.ok {C : Addr} {q m : Str} {st : Stmt} {N ps : List Str} {pats : List Pat} {k : Nat} {sp : Sp} (D : MethX K C q m st ps pats) (c : Cls K C) (S : FnScope N ps (defScope st)) (len : ∀ vs H Q E, sp vs H Q E → vs.length = ps.length)
    (hbody : BodyX P w K mg base q st N k sp) : MetX P w K mg base (k + 1) C m sp pats := by
  obtain ⟨f, fd, dvs, kws, F, me, b⟩ := D.ex
  exact ⟨f, fd, ps, c, me, F.ok S len (fun cdv A outer s H vs Q E hr h => hbody f cdv A outer s H vs Q E hr h), b⟩
theorem PropX.ok {C : Addr} {q m : Str} {st : Stmt} {N ps : List Str} {pats : List Pat} {k : Nat} {sp : Sp} (D : PropX K C q m st ps pats) (c : Cls K C) (S : FnScope N ps (defScope st)) (len : ∀ vs H Q E, sp vs H Q E → vs.length = ps.length)
    (hbody : BodyX P w K mg base q st N k sp) : PropY P w K mg base (k + 1) C m sp pats := by
  obtain ⟨r, f, fd, dvs, kws, F, me, b⟩ := D.ex
  exact ⟨r, f, fd, ps, c, me, F.ok S len (fun cdv A outer s H vs Q E hr h => hbody f cdv A outer s H vs Q E hr h), b⟩
theorem InitX.ok {C : Addr} {cn q : Str} {st : Stmt} {N ps : List Str} {pats : List Pat} {k : Nat} {sp : Sp} (D : InitX K mg C cn q st ps pats) (S : FnScope N ps (defScope st)) (len : ∀ vs H Q E, sp vs H Q E → vs.length = ps.length)
    (hbody : BodyX P w K mg base q st N k sp) : MakX P w K mg base (k + 1) cn C sp pats := by
  obtain ⟨f, fd, dvs, kws, F, me, hm, b⟩ := D.ex
  exact ⟨f, fd, ps, me, F.ok S len (fun cdv A outer s H vs Q E hr h => hbody f cdv A outer s H vs Q E hr h), hm, b⟩
end
theorem cW_callN {α β : Type} {m : Rx β} {f : β → Rx α} {K : α → Prop} {E : Nat → Prop} {K2 : β → Prop} {E2 : Nat → Prop} (h : cW ((noEr m).bind f) K E) (ho : ∀ v, cW (f v) K E → K2 v) (_ : True) : cW m K2 E2 := by
  cases m with
  | ok a => exact ho a h
  | er e => exact h.elim
  | bad => exact h.elim
section
variable {X : Cx} {k j n : Nat} {f C : Addr} {fd : FuncData} {ps ks : List Str} {g : List V → List V → List V} {sp : Sp} {x m : Str} {pos p apos : Pos} {e o : Expr} {es : List Expr} {kws : List Keyword} {ta : TE} {t tk : TA} {W : WX}
theorem run_mkX {pins : List (Addr × Obj)} {σ : L2.St} {H : Hp} {s : Shared} {Q : VK} {us ws : List Value} {vs zs : List V} (M : Mk X.K C f) (F : FnOk X.prog X.w X.K X.mg X.base (L2.CX X.prog X.w) k f fd ps sp) (hr : Room (k + 1) X.A) (hb : Bnd X.K fd ps n ks g) (tkW : Takes X W)
    (I : Inv X pins σ H s) (r : Vals vs us) (rz : Vals zs ws) (l1 : vs.length + 1 = n) (l2 : zs.length = ks.length)
    (h : ∀ x dx, H x = none → H dx = none → dx ≠ x → sp (g (.ref x :: vs) zs) (upd (upd H dx (.own x)) x (.ins C dx [])) (fun v H2 => v = .non ∧ Q (.ref x) H2) (WE W σ)) :
    wpAny (model X.prog X.w) X.A (call (.ref C) us (ks.zip ws)) (EP X pins σ Q) X.xe s := by
  have hq := h (s.heap.objs.size + 1) s.heap.objs.size (I.hok.fresh (Nat.le_succ _)) (I.hok.fresh (Nat.le_refl _)) (Nat.ne_of_lt (Nat.lt_succ_self _))
  have I2 := Inv.made (C := C) I
  have r1 : Vals (V.ref (s.heap.objs.size + 1) :: vs) (Value.ref (s.heap.objs.size + 1) :: us) := .cons rfl r
  obtain ⟨vv, b, r2⟩ := hb.to _ (Value.ref (s.heap.objs.size + 1) :: us) ws (V.ref (s.heap.objs.size + 1) :: vs) zs I2.kIn (by rw [List.length_cons, l1]) l2 r1 rz
  refine wpAny_call (make_map (f := f) I.kIn M.makes M.init (beq_iff_eq.mp M.fn) (codeAny_mono (F.run _ X.stack _ _ ⟨Value.ref (s.heap.objs.size + 1) :: us, ks.zip ws⟩ vv _ _ (WE W σ) (hr.make C us (ks.zip ws))
    (I2.env0.make C us (ks.zip ws)) b r2 hq) fun r s' hq' => ?_))
  cases r with
  | error e => exact passAt tkW σ pins _ _ e s' I2 hq'
  | ok fl =>
    cases fl with
    | ret u =>
      obtain ⟨v, H', I3, rv, ev, q3⟩ := I2.after hq'
      subst ev
      exact ⟨rv, ⟨V.ref (s.heap.objs.size + 1), H', I3, rfl, q3⟩⟩
    | next => exact False.elim hq'
    | brk => exact False.elim hq'
    | cont => exact False.elim hq'
/-- C(e, .., k = v, ..) -/
def tMakeX (C : Addr) (n m : Nat) (sp : Sp) (g : List V → List V → List V) (W : WX) (t tk : TA) : TE := fun σ H Q => t σ H fun vs H1 => tk σ H1 fun zs H2 => vs.length + 1 = n ∧ zs.length = m ∧ ∀ x dx, H2 x = none → H2 dx = none → dx ≠ x →
  sp (g (.ref x :: vs) zs) (upd (upd H2 dx (.own x)) x (.ins C dx [])) (fun v H3 => v = .non ∧ Q (.ref x) H3) (WE W σ)
theorem vx_makeX {pats : List Pat} (c : MakX X.prog X.w X.K X.mg X.base k x C sp pats) (pt : Pat) (hpt : pt ∈ pats) (hr : Room j X.A) (hk : k + 1 ≤ j) (tkW : Takes X W) (hg : Gl X x) (ha : PA X (e :: es) t) (hkw : PK X kws tk)
    (hall : (backToKw pos (keywordEach kws X.env)).all (·.1.isSome) = true := by rfl) (hks : (backToKw pos (keywordEach kws X.env)).filterMap (·.1) = pt.2.1 := by rfl) (hdb : (x == ("__debug__" : Str)) = false := by decide)
    (he : starEach (e :: es) X.env = (false, eval e X.env) :: starEach es X.env := by rfl) (hpl : ((backTo pos (starEach (e :: es) X.env)).any (·.1) || (backToKw pos (keywordEach kws X.env)).any (·.1.isNone)) = false := by rfl) :
    PE X (.Call (.Name x p) (e :: es) kws pos) (tMakeX C pt.1 pt.2.1.length sp pt.2.2 W t tk) := by
  obtain ⟨f, fd, ps, M, F, hm, b⟩ := c.ex
  refine ⟨fun pins s σ H Q I h => ?_⟩
  refine wpAny_Call_Name_kw (ld_glob I hg hm ?_ hdb)
  refine PySem.W.callWith_KW (h₀ := X.base) I.ok.mod.kin M.kp hall (thn (ha.run pos pins s σ H _ I h) fun us s1 ⟨vs, H1, I1, r, q⟩ => ?_) hpl he
  refine thn (hkw.run pos pins s1 σ H1 _ I1 q) fun ws s2 ⟨zs, H2, I2, rz, l1, l2, q2⟩ => ⟨I2.kIn, ?_⟩
  rw [hks]
  exact run_mkX M F (hr.mono hk) (b pt hpt) tkW I2 r rz l1 l2 q2
theorem vx_makeX0 {pats : List Pat} (c : MakX X.prog X.w X.K X.mg X.base k x C sp pats) (pt : Pat) (hpt : pt ∈ pats) (hr : Room j X.A) (hk : k + 1 ≤ j) (tkW : Takes X W) (hg : Gl X x) (hks : pt.2.1 = [] := by rfl)
    (hdb : (x == ("__debug__" : Str)) = false := by decide) : PE X (.Call (.Name x p) [] [] pos) (tMakeX C pt.1 pt.2.1.length sp pt.2.2 W tNil tNil) := by
  obtain ⟨f, fd, ps, M, F, hm, b⟩ := c.ex
  refine ⟨fun pins s σ H Q I h => ?_⟩
  refine wpAny_Call_Name_kw (ld_glob I hg hm ?_ hdb)
  obtain ⟨l1, l2, q2⟩ := h
  have hz := run_mkX (us := []) (ws := []) M F (hr.mono hk) (b pt hpt) tkW I .nil .nil l1 l2 q2
  rw [hks] at hz
  exact PySem.W.callWith_K0 I.kIn M.kp hz
/-- o.m(e, .., k = v, ..) -/
def tMethX (C : Addr) (m : Str) (n mm : Nat) (sp : Sp) (g : List V → List V → List V) (W : WX) (ta : TE) (t tk : TA) : TE := fun σ H Q => ta σ H fun x H1 => ∃ a dx fs, x = .ref a ∧ H1 a = some (.ins C dx fs) ∧ fs.lookup m = none ∧
  t σ H1 fun vs H2 => tk σ H2 fun zs H3 => (x :: vs).length = n ∧ zs.length = mm ∧ sp (g (x :: vs) zs) H3 Q (WE W σ)
theorem vx_methX {pats : List Pat} {pl : Sem Bool} (c : MetX X.prog X.w X.K X.mg X.base k C m sp pats) (pt : Pat) (hpt : pt ∈ pats) (hr : Room j X.A) (hk : k ≤ j) (tkW : Takes X W) (he : PE X o ta) (ha : PA X (e :: es) t) (hkw : PK X kws tk)
    (hall : (backToKw pos (keywordEach kws X.env)).all (·.1.isSome) = true := by rfl) (hks : (backToKw pos (keywordEach kws X.env)).filterMap (·.1) = pt.2.1 := by rfl)
    (hst : starEach (e :: es) X.env = (false, eval e X.env) :: starEach es X.env := by rfl) (hpl : ((backTo pos (starEach (e :: es) X.env)).any (·.1) || (backToKw pos (keywordEach kws X.env)).any (·.1.isNone)) = false := by rfl)
    (ht : eval (.Call (.Attribute o m apos) (e :: es) kws pos) X.env = (do
      let ov ← eval o X.env
      standAt apos.atName
      let (f, first) ← holding [ov] (getMethod ov m pl)
      callWith pos f first (backTo pos (starEach (e :: es) X.env)) (backToKw pos (keywordEach kws X.env))) := by rfl) :
    PE X (.Call (.Attribute o m apos) (e :: es) kws pos) (tMethX C m pt.1 pt.2.1.length sp pt.2.2 W ta t tk) := by
  obtain ⟨f, fd, ps, hc, hm, F, b⟩ := c.ex
  refine ⟨fun pins s σ H Q I h => ?_⟩
  refine PySem.W.methodCall_KW (pl := pl) (thn (he.run pins s σ H _ I h) fun u s1 ⟨x, H1, I1, rx, a, dx, fs, ex, ea, l, q⟩ => ?_) ht
  subst ex
  obtain rfl : u = Value.ref a := rx
  refine getmeth_ok I1 ea hc hm l ?_
  refine PySem.W.callWith_KW (first := [.ref a]) (h₀ := X.base) I.ok.mod.kin hm.kp hall (thn (ha.run pos pins s1 σ H1 _ I1 q) fun us s2 ⟨vs, H2, I2, r, q2⟩ => ?_) hpl hst
  refine thn (hkw.run pos pins s2 σ H2 _ I2 q2) fun ws s3 ⟨zs, H3, I3, rz, l1, l2, q3⟩ => ⟨I3.kIn, ?_⟩
  rw [hks]
  exact run_X (us := .ref a :: us) (vs := .ref a :: vs) F (hr.mono hk) (b pt hpt) tkW I3 (.cons rfl r) rz l1 l2 q3
theorem vx_methX0 {pats : List Pat} {pl : Sem Bool} (c : MetX X.prog X.w X.K X.mg X.base k C m sp pats) (pt : Pat) (hpt : pt ∈ pats) (hr : Room j X.A) (hk : k ≤ j) (tkW : Takes X W) (he : PE X o ta) (hks : pt.2.1 = [] := by rfl)
    (ht : eval (.Call (.Attribute o m apos) [] [] pos) X.env = (do
      let ov ← eval o X.env
      standAt apos.atName
      let (f, first) ← holding [ov] (getMethod ov m pl)
      callWith pos f first (backTo pos (starEach [] X.env)) (backToKw pos (keywordEach [] X.env))) := by rfl) :
    PE X (.Call (.Attribute o m apos) [] [] pos) (tMethX C m pt.1 pt.2.1.length sp pt.2.2 W ta tNil tNil) := by
  obtain ⟨f, fd, ps, hc, hm, F, b⟩ := c.ex
  refine ⟨fun pins s σ H Q I h => ?_⟩
  refine PySem.W.methodCall_KW (pl := pl) (thn (he.run pins s σ H _ I h) fun u s1 ⟨x, H1, I1, rx, a, dx, fs, ex, ea, l, q⟩ => ?_) ht
  subst ex
  obtain rfl : u = Value.ref a := rx
  refine getmeth_ok I1 ea hc hm l ?_
  obtain ⟨l1, l2, q3⟩ := q
  have hz := run_X (us := [.ref a]) (vs := [.ref a]) (ws := []) F (hr.mono hk) (b pt hpt) tkW I1 (.cons rfl .nil) .nil l1 l2 q3
  rw [hks] at hz
  exact PySem.W.callWith_K0 (first := [.ref a]) I1.kIn hm.kp hz
theorem vx_propX {pats : List Pat} (c : PropY X.prog X.w X.K X.mg X.base k C m sp pats) (hr : Room j X.A) (hk : k + 1 ≤ j) (he : PE X o ta) (hab : attributeBase o m X.env (eval o X.env) = eval o X.env := by rfl) : PE X (.Attribute o m pos) (tProp C sp [] E0 ta) := by
  obtain ⟨q, f, fd, ps, hc, hp, F, b⟩ := c.ex
  exact pe_prop he hc hp F (hr.mono hk) b .nil (passL (X := X.nox)) hab
end
theorem Sep.news {M : List Addr} {H0 G0 G H H' : Hp} {O : List Addr} (S : Sep M H0 G0 G H O) (e : Same H H') (L : List Addr) (hL : ∀ a ∈ L, H a = none ∧ H' a ≠ none ∧ H0 a = none) : Sep M H0 G0 G H' (L ++ O) := by
  have S2 := S.same e
  refine ⟨S2.base, S2.pm, S2.sG, S2.g0, S2.gn, fun a ha => ?_⟩
  rcases List.mem_append.mp ha with h | h
  · obtain ⟨h1, h2, h3⟩ := hL a h
    exact ⟨S.gfree h1, h2, .inr h3⟩
  · exact S2.ow a h
theorem vv_chain {r r' : R2} {ta tb tc : TE} {σ : L2.St} {H : Hp} {x y z : V} {a b : Bool} (ha : Val ta σ H x) (hb : Val tb σ H y) (hc : Val tc σ H z) (h1 : ∀ Q : VK, Q (.bl a) H → r x y H Q) (h2 : ∀ Q : VK, Q (.bl b) H → r' y z H Q) :
    Val (tChain r r' ta tb tc) σ H (.bl (a && b)) := fun Q q => ha _ (hb _ (h1 _ ⟨a, rfl, by
  cases a with
  | true =>
    rw [if_pos rfl]
    exact hc _ (h2 _ q)
  | false =>
    rw [if_neg Bool.false_ne_true]
    exact q⟩))
/-! ### constants that are tuples, lists backwards, zip -/
theorem inV_ints (x : Int) : ∀ xs : List Int, inV (V.int x) (xs.map V.int) = decide (x ∈ xs)
  | [] => by simp [inV]
  | y :: r => by
    have h := inV_ints x r
    unfold inV at h ⊢
    rw [List.map_cons, List.any_cons, h]
    by_cases c : x = y
    · subst c
      simp [eqV]
    · simp [eqV, c, Ne.symm c]
theorem flat_ints : ∀ xs : List Int, (xs.map V.int).all flatV = true
  | [] => rfl
  | _ :: r => flat_ints r
def rInI (K : PySem.W.Frag) : R2 := fun x y H Q => ∃ (i : Int) (p : Addr) (xs : List Int), x = .int i ∧ y = .ref p ∧ (SqL K H p (xs.map V.int) ∨ SqT K H p (xs.map V.int)) ∧ Q (.bl (decide (i ∈ xs))) H
def rNotInI (K : PySem.W.Frag) : R2 := fun x y H Q => ∃ (i : Int) (p : Addr) (xs : List Int), x = .int i ∧ y = .ref p ∧ (SqL K H p (xs.map V.int) ∨ SqT K H p (xs.map V.int)) ∧ Q (.bl (!decide (i ∈ xs))) H
theorem op_inI {X : Cx} {K : PySem.W.Frag} (hK : X.K = K := by rfl) : OpR X (compareOp .In) (rInI K) := by
  subst hK
  intro pins s σ H x y v u Q I rx ry h
  obtain ⟨i, p, xs, rfl, rfl, hs, q⟩ := h
  refine op_in_seq pins s σ H _ _ v u Q I rx ry ⟨p, _, rfl, hs, rfl, flat_ints xs, ?_⟩
  rw [if_neg Bool.false_ne_true, inV_ints]
  exact q
theorem op_notInI {X : Cx} {K : PySem.W.Frag} (hK : X.K = K := by rfl) : OpR X (compareOp .NotIn) (rNotInI K) := by
  subst hK
  intro pins s σ H x y v u Q I rx ry h
  obtain ⟨i, p, xs, rfl, rfl, hs, q⟩ := h
  refine op_notIn_seq pins s σ H _ _ v u Q I rx ry ⟨p, _, rfl, hs, rfl, flat_ints xs, ?_⟩
  rw [if_pos rfl, inV_ints]
  exact q
theorem pe_revLK {X : Cx} {K : PySem.W.Frag} {e : Expr} {te : TE} {k : Nat} {p1 p2 p3 pos : Pos} (he : PE X e te) (hK : X.K = K := by rfl) : PE X (.Subscript e (.Slice none none (some (.UnaryOp .USub (.Constant (.int 1) k p1) p2)) p3) pos) (tRevL K te) := hK ▸ pe_revL he
theorem rev_map {α : Type} {f : α → V} {xs : List α} {H : Hp} {p : Addr} (h : H p = some (.lst (xs.map f).reverse)) : H p = some (.lst (xs.reverse.map f)) := by
  rw [List.map_reverse]
  exact h
theorem RpAll.rev {G : Hp} : ∀ {vs : List V} {ds : List PyData}, RpAll G vs ds → RpAll G vs.reverse ds.reverse
  | _, _, .nil => .nil
  | _, _, .cons h t => by
    rw [List.reverse_cons, List.reverse_cons]
    exact (RpAll.rev t).append (.one h)
theorem rev_all {α : Type} {f : α → PyData} {xs : List α} {G : Hp} {vs : List V} (a : RpAll G vs (xs.map f)) : RpAll G vs.reverse (xs.reverse.map f) := by
  rw [List.map_reverse]
  exact a.rev
theorem pi_zipK {X : Cx} {K : PySem.W.Frag} {e e2 : Expr} {ta : TA} {p pos tpos : Pos} {elts : List Expr} {kk : Nat} (hg : Gl X "zip") (hm : X.mg "zip" = none) (ha : PA X [e, e2] ta) (hK : X.K = K := by rfl)
    (hs : starEach [e, e2] X.env = (false, eval e X.env) :: starEach [e2] X.env := by rfl) (hpl : (backTo pos (starEach [e2] X.env)).any (·.1) = false := by rfl) :
    PI X (.Tuple elts kk tpos) (.Call (.Name "zip" p) [e, e2] [] pos) (RZ.iZipA K ta) := hK ▸ RZ.pi_zipA hg hm ha hs hpl
/-- a comprehension over zip of two lists of one length -/
theorem lc_zipL {K : PySem.W.Frag} {a b : Addr} {xs ys : List V} {g : TG} {tt : TT} {te : TE} {vs : List Nat} {σ : L2.St} {H1 : Hp} {D : Addr} {Qd : Hp → Prop} (hl : xs.length = ys.length) (Pv : Nat → Hp → Prop) (h0 : Pv 0 (upd H1 D (.lst []))) (hq : ∀ i H, i ≤ xs.length → Pv i H → SqL K H a xs ∧ SqL K H b ys)
    (hs : ∀ (i : Nat) (x y : V) (T : Addr) (H : Hp), xs[i]? = some x → ys[i]? = some y → H T = none → Pv i H → g (.ref T) (wipe σ vs) (upd H T (.tup [x, y])) fun σ2 H2 => wipe σ2 vs = wipe σ vs ∧ tt σ2 H2 fun b H3 =>
      if b = true then te σ2 H3 fun y H4 => ∃ acc, H4 D = some (.lst acc) ∧ acc.length < sizeLine ∧ Pv (i + 1) (upd H4 D (.lst (acc ++ [y]))) else Pv (i + 1) H3) (hd : ∀ H, Pv xs.length H → Qd H) :
    ∃ W : Nat → Nat → Hp → Prop, (∃ m, W 0 m (upd H1 D (.lst []))) ∧ ∀ i m H, W i m H →
      ((Itz K a b).stop i H ∧ Qd H) ∨ ((Itz K a b).go i H ∧ ∃ Nx : Hp → Prop, (∀ H', Nx H' → ∃ m', m' < m ∧ W (i + 1) m' H') ∧ ∀ x H', (Itz K a b).yld i H x H' → g x (wipe σ vs) H' fun σ2 H2 => wipe σ2 vs = wipe σ vs ∧ tt σ2 H2 fun b H3 =>
        if b = true then te σ2 H3 fun y H4 => ∃ acc, H4 D = some (.lst acc) ∧ acc.length < sizeLine ∧ Nx (upd H4 D (.lst (acc ++ [y]))) else Nx H3) := by
  refine ⟨fun i m H => m = xs.length - i ∧ i ≤ xs.length ∧ Pv i H, ⟨xs.length, by simp, Nat.zero_le _, h0⟩, ?_⟩
  rintro i m H ⟨rfl, hi, p⟩
  obtain ⟨qx, qy⟩ := hq i H hi p
  by_cases hlt : i < xs.length
  · have hlt2 : i < ys.length := by omega
    refine .inr ⟨⟨xs, ys, xs[i], ys[i], qx, qy, List.getElem?_eq_getElem hlt, List.getElem?_eq_getElem hlt2⟩, Pv (i + 1), fun H' p' => ⟨xs.length - (i + 1), by omega, rfl, hlt, p'⟩, fun v H' y => ?_⟩
    obtain ⟨T, x', y', rfl, hT, rfl, f1, f2⟩ := y
    exact hs i x' y' T H (f1 xs qx) (f2 ys qy) hT p
  · have e : i = xs.length := by omega
    subst e
    exact .inl ⟨⟨xs, ys, qx, qy, Or.inl (Nat.le_refl _)⟩, hd H p⟩
theorem zip_get {α β : Type} {xs : List α} {ys : List β} {i : Nat} {x : α} {y : β} (h1 : xs[i]? = some x) (h2 : ys[i]? = some y) : (xs.zip ys)[i]? = some (x, y) := by
  rw [List.getElem?_zip_eq_some]
  exact ⟨h1, h2⟩
theorem zip_len {α β : Type} {xs : List α} {ys : List β} {n : Nat} (h : xs.length = ys.length) (e : n = xs.length) : n = (xs.zip ys).length := by
  rw [List.length_zip, ← h, Nat.min_self]
  exact e
theorem zlen {α β : Type} {vs ws : List V} {xs : List α} {ys : List β} (a : vs.length = xs.length) (b : ws.length = ys.length) (h : xs.length = ys.length) : vs.length = ws.length := by rw [a, b, h]
end Vx
/-! # fourth part: reckoning with functions that may refuse -/
namespace Vx
open PySem PySem.Spec PyProof.Rows L2
section
variable {α β σ ρ τ : Type}
theorem bind_ok (a : α) (f : α → Rx β) : (Rx.ok a).bind f = f a := rfl
theorem bind_er (e : Nat) (f : α → Rx β) : (Rx.er e : Rx α).bind f = .er e := rfl
theorem grd_pos {p : Prop} {dp : Decidable p} {m : Rx α} (h : p) : grd p m = m := if_pos h
theorem bnd_eq (a : α) (f : α → Rx β) : bnd a f = f a := rfl
theorem noEr_ok (a : α) : noEr (.ok a : Rx α) = .ok a := rfl
theorem tryR_ok {cs : List Nat} (a : α) (f : α → Rx β) (g : Nat → Rx β) : tryR (.ok a) cs f g = f a := rfl
theorem tryR_er {cs : List Nat} {e : Nat} (h : e ∈ cs) (f : α → Rx β) (g : Nat → Rx β) : tryR (.er e) cs f g = g e := if_pos h
theorem aft_go (s : σ) (kr : ρ → Rx τ) (k : σ → Rx τ) : (Lp.go s : Lp σ ρ).aft kr k = k s := rfl
theorem aft_rt (r : ρ) (kr : ρ → Rx τ) (k : σ → Rx τ) : (Lp.rt r : Lp σ ρ).aft kr k = kr r := rfl
/-- gives a value of which P holds -/
def Gv (m : Rx α) (P : α → Prop) : Prop := ∃ v, m = .ok v ∧ P v
theorem Gv.ok {a : α} {P : α → Prop} (h : P a) : Gv (.ok a) P := ⟨a, rfl, h⟩
theorem Gv.of_eq {m : Rx α} {a : α} {P : α → Prop} (e : m = .ok a) (h : P a) : Gv m P := ⟨a, e, h⟩
theorem Gv.bind {m : Rx α} {f : α → Rx β} {P : α → Prop} {Q : β → Prop} (h : Gv m P) (k : ∀ v, P v → Gv (f v) Q) : Gv (m.bind f) Q := by
  obtain ⟨v, rfl, p⟩ := h
  exact k v p
theorem Gv.bind_eq {m : Rx α} {f : α → Rx β} {a : α} {Q : β → Prop} (h : m = .ok a) (k : Gv (f a) Q) : Gv (m.bind f) Q := by
  subst h
  exact k
theorem Gv.grd {p : Prop} {dp : Decidable p} {m : Rx α} {Q : α → Prop} (h : p) (k : Gv m Q) : Gv (Vx.grd p m) Q := by
  rw [grd_pos h]
  exact k
theorem Gv.bnd {a : α} {f : α → Rx β} {Q : β → Prop} (k : ∀ x, x = a → Gv (f x) Q) : Gv (Vx.bnd a f) Q := k a rfl
theorem Gv.ite {p : Prop} {dp : Decidable p} {a b : Rx α} {Q : α → Prop} (h1 : p → Gv a Q) (h2 : ¬ p → Gv b Q) : Gv (if p then a else b) Q := by
  split
  · exact h1 ‹_›
  · exact h2 ‹_›
theorem Gv.pos {p : Prop} {dp : Decidable p} {a b : Rx α} {Q : α → Prop} (h : p) (k : Gv a Q) : Gv (if p then a else b) Q := by rwa [if_pos h]
theorem Gv.neg {p : Prop} {dp : Decidable p} {a b : Rx α} {Q : α → Prop} (h : ¬ p) (k : Gv b Q) : Gv (if p then a else b) Q := by rwa [if_neg h]
theorem Gv.imp {m : Rx α} {P Q : α → Prop} (h : Gv m P) (k : ∀ v, P v → Q v) : Gv m Q := by
  obtain ⟨v, e, p⟩ := h
  exact ⟨v, e, k v p⟩
theorem Gv.noEr {m : Rx α} {P : α → Prop} (h : Gv m P) : Gv (Vx.noEr m) P := by
  obtain ⟨v, rfl, p⟩ := h
  exact ⟨v, rfl, p⟩
theorem Gv.tryOk {m : Rx α} {cs : List Nat} {f : α → Rx β} {g : Nat → Rx β} {P : α → Prop} {Q : β → Prop} (h : Gv m P) (k : ∀ v, P v → Gv (f v) Q) : Gv (tryR m cs f g) Q := by
  obtain ⟨v, rfl, p⟩ := h
  exact k v p
theorem Gv.tryEr {m : Rx α} {cs : List Nat} {e : Nat} {f : α → Rx β} {g : Nat → Rx β} {Q : β → Prop} (h : m = .er e) (hm : e ∈ cs) (k : Gv (g e) Q) : Gv (tryR m cs f g) Q := by
  subst h
  rw [tryR_er hm]
  exact k
theorem Gv.get {m : Rx α} {a : α} (h : Gv m (fun v => v = a)) : m = .ok a := by
  obtain ⟨v, e, rfl⟩ := h
  exact e
theorem Gv.eq {m : Rx α} {P : α → Prop} (h : Gv m P) : ∃ v, m = .ok v ∧ P v := h
/-- a loop that keeps P -/
theorem Gv.forS {P : Nat → σ → Prop} {xs : List α} {s : σ} {f : σ → α → Rx σ} (h0 : P 0 s) (hs : ∀ i x s, xs[i]? = some x → P i s → Gv (f s x) (P (i + 1))) : Gv (Vx.forS xs s f) (P xs.length) := by
  induction xs generalizing s P with
  | nil => exact .ok h0
  | cons x r ih =>
    refine Gv.bind (hs 0 x s rfl h0) fun s' p => ?_
    exact ih (P := fun i => P (i + 1)) p fun i y s hy q => hs (i + 1) y s (by simpa using hy) q
theorem Gv.forR {P : Nat → σ → Prop} {xs : List α} {s : σ} {f : σ → α → Rx (Lp σ ρ)} (h0 : P 0 s) (hs : ∀ i x s, xs[i]? = some x → P i s → Gv (f s x) (fun l => ∃ s', l = .go s' ∧ P (i + 1) s')) : Gv (Vx.forR xs s f) (fun l => ∃ s', l = .go s' ∧ P xs.length s') := by
  induction xs generalizing s P with
  | nil => exact .ok ⟨s, rfl, h0⟩
  | cons x r ih =>
    refine Gv.bind (hs 0 x s rfl h0) ?_
    rintro _ ⟨s', rfl, p⟩
    exact ih (P := fun i => P (i + 1)) p fun i y s hy q => hs (i + 1) y s (by simpa using hy) q
/-- a loop that carries nothing -/
theorem forR_unit {xs : List α} {f : Unit → α → Rx (Lp Unit ρ)} (h : ∀ x ∈ xs, f () x = .ok (.go ())) : Vx.forR xs () f = .ok (.go ()) := by
  induction xs with
  | nil => rfl
  | cons x r ih =>
    show (f () x).bind _ = _
    rw [h x List.mem_cons_self]
    exact ih fun y hy => h y (List.mem_cons_of_mem _ hy)
theorem forS_pure {xs : List α} {s : σ} {f : σ → α → Rx σ} {g : σ → α → σ} (h : ∀ s x, x ∈ xs → f s x = .ok (g s x)) : Vx.forS xs s f = .ok (xs.foldl g s) := by
  induction xs generalizing s with
  | nil => rfl
  | cons x r ih =>
    show (f s x).bind _ = _
    rw [h s x List.mem_cons_self]
    exact ih fun s y hy => h s y (List.mem_cons_of_mem _ hy)
theorem mapA_pure {xs : List α} {acc : List β} {f : α → Rx β} {g : α → β} (h : ∀ x ∈ xs, f x = .ok (g x)) (hl : acc.length + xs.length ≤ 1000000) : mapA xs acc f = .ok (acc ++ xs.map g) := by
  induction xs generalizing acc with
  | nil => simp [mapA]
  | cons x r ih =>
    rw [List.length_cons] at hl
    unfold mapA
    rw [grd_pos (by omega), h x List.mem_cons_self, bind_ok, ih (fun y hy => h y (List.mem_cons_of_mem _ hy)) (by rw [List.length_append, List.length_cons, List.length_nil]; omega)]
    simp
theorem mapA_pure0 {xs : List α} {f : α → Rx β} {g : α → β} (h : ∀ x ∈ xs, f x = .ok (g x)) (hl : xs.length ≤ 1000000) : mapA xs [] f = .ok (xs.map g) := by
  rw [mapA_pure h (by simpa using hl)]
  rfl
theorem mapF_pure {xs : List α} {acc : List β} {f : α → Rx (Option β)} {g : α → Option β} (h : ∀ x ∈ xs, f x = .ok (g x)) (hl : acc.length + xs.length ≤ 1000000) : mapF xs acc f = .ok (acc ++ xs.filterMap g) := by
  induction xs generalizing acc with
  | nil => simp [mapF]
  | cons x r ih =>
    rw [List.length_cons] at hl
    unfold mapF
    rw [grd_pos (by omega), h x List.mem_cons_self, bind_ok]
    cases e : g x with
    | none =>
      show mapF r acc f = _
      rw [ih (fun y hy => h y (List.mem_cons_of_mem _ hy)) (by omega), List.filterMap_cons, e]
    | some z =>
      show mapF r (acc ++ [z]) f = _
      rw [ih (fun y hy => h y (List.mem_cons_of_mem _ hy)) (by rw [List.length_append, List.length_cons, List.length_nil]; omega), List.filterMap_cons, e]
      simp
/-- a while that ends: m falls -/
theorem Gv.whileR {P : σ → Prop} {R : σ → Prop} (m : σ → Nat) {f : σ → Rx (Lp σ ρ)} (hs : ∀ s, P s → Gv (f s) (fun l => (∃ s', l = .go s' ∧ P s' ∧ m s' < m s) ∨ ∃ s', l = .bk s' ∧ R s')) : ∀ {n : Nat} {s : σ}, P s → m s < n → Gv (Vx.whileR n s f) (fun l => ∃ s', l = .go s' ∧ R s') := by
  intro n
  induction n with
  | zero => intro s _ h; exact absurd h (Nat.not_lt_zero _)
  | succ n ih =>
    intro s p h
    refine Gv.bind (hs s p) ?_
    rintro _ (⟨s', rfl, p', l⟩ | ⟨s', rfl, r⟩)
    · exact ih p' (by omega)
    · exact .ok ⟨s', rfl, r⟩
end
theorem rng_mem {lo x : Int} {n : Nat} (h : x ∈ rng lo n) : lo ≤ x ∧ x < lo + n := by
  unfold rng at h
  obtain ⟨j, hj, rfl⟩ := List.mem_map.mp h
  have := List.mem_range.mp hj
  omega
theorem rng_at {lo x : Int} {n i : Nat} (h : (rng lo n)[i]? = some x) : x = lo + i ∧ i < n := by
  have hl := get_len h
  rw [rng_len] at hl
  rw [rng_get hl] at h
  exact ⟨(Option.some.inj h).symm, hl⟩
end Vx
namespace Vx
open PySem PySem.Spec PyProof.Rows L2
def F__law_digits_b1 (base_12 : Int) (large_13 : Bool) (cell_25 : Int) (digits_26 : (List Int)) (it29 : Int) : Rx (Int × (List Int)) :=
  (if large_13 = true then grd (0 < base_12) <| grd ((digits_26).length ≤ 1000000) <| bnd ((digits_26) ++ [(cell_25 % base_12)]) fun y39 => grd (0 < base_12 ∧ base_12 < 2 ^ 128) <| bnd ((cell_25 / base_12)) fun cell_41 => .ok ((cell_41), (y39)) else grd ((-(2 ^ 64) < (it29 + 1) ∧ (it29 + 1) < 2 ^ 64) ∨ (-(2 ^ 64) < (it29 + 5) ∧ (it29 + 5) < 2 ^ 64)) <| grd ((-(2 ^ 64) < (cell_25 / 97) ∧ (cell_25 / 97) < 2 ^ 64) ∨ (-(2 ^ 64) < it29 ∧ it29 < 2 ^ 64)) <| grd (0 < base_12) <| grd ((digits_26).length ≤ 1000000) <| bnd ((digits_26) ++ [(((((cell_25 * 48271) + (((it29 + 1) * (it29 + 5)) * 69621)) + ((cell_25 / 97) * it29)) % 2147483647) % base_12)]) fun y52 => .ok ((cell_25), (y52)))

def F__law_digits_r1 (cell_58 : Int) (digits_59 : (List Int)) : Rx (List Int) :=
  .ok (digits_59)

def F__law_digits (cell' : Int) (base' : Int) (most' : Int) : Rx (List Int) :=
  bnd (decide (((10 : Int) ^ Int.toNat 18) ≤ cell')) fun large_10 => grd (-(2 ^ 62) ≤ most' ∧ most' < 2 ^ 62) <| Rx.bind (forS (rng (0) (Int.toNat (most'))) ((cell'), ([])) (fun s x => F__law_digits_b1 (base') (large_10) (s.1) (s.2) x)) fun s => F__law_digits_r1  (s.1) (s.2)

def F__law_values_c1 (it104 : Int) : Rx Int :=
  grd ((-(2 ^ 64) < (it104 - 1073741823) ∧ (it104 - 1073741823) < 2 ^ 64) ∨ (-(2 ^ 64) < ((10 : Int) ^ Int.toNat 20) ∧ ((10 : Int) ^ Int.toNat 20) < 2 ^ 64)) <| .ok ((((it104 - 1073741823) * ((10 : Int) ^ Int.toNat 20)) + it104))

def F__law_values_c2 (base_142 : Int) (it177 : Int) : Rx Int :=
  .ok ((it177 - base_142))

def F__law_values (cell' : Int) (count' : Int) : Rx (List Int) :=
  (if (((cell' / 11) % 3) : Int) = 2 then Rx.bind (F__law_digits cell' 2147483647 count') fun v61 => Rx.bind (mapA (v61) [] (fun x => noEr (F__law_values_c1  x))) fun v70 => .ok (v70) else grd (-(([7, 8191]).length : Int) ≤ ((cell' / 11) % 3) ∧ ((cell' / 11) % 3) < (([7, 8191]).length : Int)) <| bnd ((itD ([7, 8191]) (((cell' / 11) % 3)))) fun base_132 => Rx.bind (F__law_digits cell' (((2 * base_132) + 1)) count') fun v133 => Rx.bind (mapA (v133) [] (fun x => noEr (F__law_values_c2 (base_132) x))) fun v143 => .ok (v143))

def F__law_turned (first' : Int) (second' : Int) (outer' : Int) (inner' : Int) : Rx (List Int) :=
  grd ((-(2 ^ 64) < outer' ∧ outer' < 2 ^ 64) ∨ (-(2 ^ 64) < first' ∧ first' < 2 ^ 64)) <| bnd ((second' + (((outer' * first') + 16) / 32))) fun high_195 => grd ((-(2 ^ 64) < inner' ∧ inner' < 2 ^ 64) ∨ (-(2 ^ 64) < high_195 ∧ high_195 < 2 ^ 64)) <| bnd ((first' - (((inner' * high_195) + 16) / 32))) fun low_197 => grd ((-(2 ^ 64) < outer' ∧ outer' < 2 ^ 64) ∨ (-(2 ^ 64) < low_197 ∧ low_197 < 2 ^ 64)) <| .ok ([low_197, (high_195 + (((outer' * low_197) + 16) / 32))])

def F__law_four (x' : (List Int)) : Rx (List Int) :=
  grd (-((x').length : Int) ≤ 0 ∧ 0 < ((x').length : Int)) <| grd (-((x').length : Int) ≤ 3 ∧ 3 < ((x').length : Int)) <| grd (-((x').length : Int) ≤ 1 ∧ 1 < ((x').length : Int)) <| grd (-((x').length : Int) ≤ 2 ∧ 2 < ((x').length : Int)) <| grd (-((x').length : Int) ≤ 0 ∧ 0 < ((x').length : Int)) <| grd (-((x').length : Int) ≤ 3 ∧ 3 < ((x').length : Int)) <| grd (-((x').length : Int) ≤ 1 ∧ 1 < ((x').length : Int)) <| grd (-((x').length : Int) ≤ 2 ∧ 2 < ((x').length : Int)) <| Rx.bind (F__law_turned (((itD (x') (0)) - (itD (x') (3)))) (((itD (x') (1)) - (itD (x') (2)))) 6 12) fun v225 => grd (-(([(((itD (x') (0)) + (itD (x') (3))) / 2), (((itD (x') (1)) + (itD (x') (2))) / 2)]).length : Int) ≤ 0 ∧ 0 < (([(((itD (x') (0)) + (itD (x') (3))) / 2), (((itD (x') (1)) + (itD (x') (2))) / 2)]).length : Int)) <| grd (-(([(((itD (x') (0)) + (itD (x') (3))) / 2), (((itD (x') (1)) + (itD (x') (2))) / 2)]).length : Int) ≤ 1 ∧ 1 < (([(((itD (x') (0)) + (itD (x') (3))) / 2), (((itD (x') (1)) + (itD (x') (2))) / 2)]).length : Int)) <| grd (-((v225).length : Int) ≤ 0 ∧ 0 < ((v225).length : Int)) <| grd (-(([(((itD (x') (0)) + (itD (x') (3))) / 2), (((itD (x') (1)) + (itD (x') (2))) / 2)]).length : Int) ≤ 0 ∧ 0 < (([(((itD (x') (0)) + (itD (x') (3))) / 2), (((itD (x') (1)) + (itD (x') (2))) / 2)]).length : Int)) <| grd (-(([(((itD (x') (0)) + (itD (x') (3))) / 2), (((itD (x') (1)) + (itD (x') (2))) / 2)]).length : Int) ≤ 1 ∧ 1 < (([(((itD (x') (0)) + (itD (x') (3))) / 2), (((itD (x') (1)) + (itD (x') (2))) / 2)]).length : Int)) <| grd (-((v225).length : Int) ≤ 1 ∧ 1 < ((v225).length : Int)) <| .ok ([(((itD ([(((itD (x') (0)) + (itD (x') (3))) / 2), (((itD (x') (1)) + (itD (x') (2))) / 2)]) (0)) + (itD ([(((itD (x') (0)) + (itD (x') (3))) / 2), (((itD (x') (1)) + (itD (x') (2))) / 2)]) (1))) / 2), (itD (v225) (0)), ((itD ([(((itD (x') (0)) + (itD (x') (3))) / 2), (((itD (x') (1)) + (itD (x') (2))) / 2)]) (0)) - (itD ([(((itD (x') (0)) + (itD (x') (3))) / 2), (((itD (x') (1)) + (itD (x') (2))) / 2)]) (1))), (itD (v225) (1))])

def F_check_size (size' : Int) : Rx Unit :=
  (if (size' : Int) ∈ ([4, 8] : List Int) then .ok (()) else .er 1)

def F_split_pair (first' : Int) (second' : Int) : Rx (Int × Int) :=
  .ok ((((first' + second') / 2), (first' - second')))

def F_turn_pair (first' : Int) (second' : Int) (outer' : Int) (inner' : Int) : Rx (Int × Int) :=
  grd ((-(2 ^ 64) < outer' ∧ outer' < 2 ^ 64) ∨ (-(2 ^ 64) < first' ∧ first' < 2 ^ 64)) <| bnd ((second' + (((outer' * first') + 16) / 32))) fun second_264 => grd ((-(2 ^ 64) < inner' ∧ inner' < 2 ^ 64) ∨ (-(2 ^ 64) < second_264 ∧ second_264 < 2 ^ 64)) <| bnd ((first' - (((inner' * second_264) + 16) / 32))) fun first_266 => grd ((-(2 ^ 64) < outer' ∧ outer' < 2 ^ 64) ∨ (-(2 ^ 64) < first_266 ∧ first_266 < 2 ^ 64)) <| bnd ((second_264 + (((outer' * first_266) + 16) / 32))) fun second_268 => .ok ((first_266, second_268))

def F__forward_four_k5 (c0_384 : Int) (c2_385 : Int) (c1_386 : Int) (c3_387 : Int) : Rx (List Int) :=
  .ok ([c0_384, c1_386, c2_385, c3_387])

def F__forward_four_k4 (h0_356 : Int) (h1_357 : Int) (c0_358 : Int) (c2_359 : Int) : Rx (List Int) :=
  Rx.bind ((Rx.bind (F_turn_pair h0_356 h1_357 6 12) fun v392 => .ok ((v392.1), (v392.2)) : Rx (Int × Int))) fun s => F__forward_four_k5 (c0_358) (c2_359) (s.1) (s.2)

def F__forward_four_k3 (l0_328 : Int) (h0_329 : Int) (l1_330 : Int) (h1_331 : Int) : Rx (List Int) :=
  Rx.bind ((Rx.bind (F_split_pair l0_328 l1_330) fun v364 => .ok ((v364.1), (v364.2)) : Rx (Int × Int))) fun s => F__forward_four_k4 (h0_329) (h1_331) (s.1) (s.2)

def F__forward_four_k2 (x1_300 : Int) (x2_301 : Int) (l0_302 : Int) (h0_303 : Int) : Rx (List Int) :=
  Rx.bind ((Rx.bind (F_split_pair x1_300 x2_301) fun v336 => .ok ((v336.1), (v336.2)) : Rx (Int × Int))) fun s => F__forward_four_k3 (l0_302) (h0_303) (s.1) (s.2)

def F__forward_four_k1 (x0_281 : Int) (x1_282 : Int) (x2_283 : Int) (x3_284 : Int) : Rx (List Int) :=
  Rx.bind ((Rx.bind (F_split_pair x0_281 x3_284) fun v308 => .ok ((v308.1), (v308.2)) : Rx (Int × Int))) fun s => F__forward_four_k2 (x1_282) (x2_283) (s.1) (s.2)

def F__forward_four (values' : (List Int)) : Rx (List Int) :=
  Rx.bind ((grd ((values').length = 4) <| bnd ((itD (values') 0)) fun x0_292 => bnd ((itD (values') 1)) fun x1_293 => bnd ((itD (values') 2)) fun x2_294 => bnd ((itD (values') 3)) fun x3_295 => .ok ((x0_292), (x1_293), (x2_294), (x3_295)) : Rx (Int × Int × Int × Int))) fun s => F__forward_four_k1  (s.1) (s.2.1) (s.2.2.1) (s.2.2.2)

def F__forward_eight_c2 (values_427 : (List Int)) (it451 : Int) : Rx (Int × Int) :=
  grd (-((values_427).length : Int) ≤ it451 ∧ it451 < ((values_427).length : Int)) <| grd (-((values_427).length : Int) ≤ (7 - it451) ∧ (7 - it451) < ((values_427).length : Int)) <| Rx.bind (F_split_pair ((itD (values_427) (it451))) ((itD (values_427) ((7 - it451))))) fun v454 => .ok v454

def F__forward_eight_c4 (it544 : (Int × Int)) : Rx Int :=
  .ok it544.2

def F__forward_eight_c6 (it626 : (Int × Int)) : Rx Int :=
  .ok it626.1

def F__forward_eight_k10 (e0_765 : Int) (e1_766 : Int) (e2_767 : Int) (e3_768 : Int) (f0_769 : Int) (f1_770 : Int) (f2_771 : Int) (f3_772 : Int) : Rx (List Int) :=
  .ok ([e0_765, f0_769, e1_766, f2_771, e2_767, f1_770, e3_768, f3_772])

def F__forward_eight_k9 (e0_731 : Int) (e1_732 : Int) (e2_733 : Int) (e3_734 : Int) (d3_735 : Int) (d2_736 : Int) (f0_737 : Int) (f1_738 : Int) : Rx (List Int) :=
  Rx.bind ((Rx.bind (F_split_pair d2_736 d3_735) fun v777 => .ok ((v777.1), (v777.2)) : Rx (Int × Int))) fun s => F__forward_eight_k10 (e0_731) (e1_732) (e2_733) (e3_734) (f0_737) (f1_738) (s.1) (s.2)

def F__forward_eight_k8 (e0_697 : Int) (e1_698 : Int) (e2_699 : Int) (e3_700 : Int) (d0_701 : Int) (d3_702 : Int) (d1_703 : Int) (d2_704 : Int) : Rx (List Int) :=
  Rx.bind ((Rx.bind (F_split_pair d0_701 d1_703) fun v743 => .ok ((v743.1), (v743.2)) : Rx (Int × Int))) fun s => F__forward_eight_k9 (e0_697) (e1_698) (e2_699) (e3_700) (d3_702) (d2_704) (s.1) (s.2)

def F__forward_eight_k7 (h1_663 : Int) (h2_664 : Int) (e0_665 : Int) (e1_666 : Int) (e2_667 : Int) (e3_668 : Int) (d0_669 : Int) (d3_670 : Int) : Rx (List Int) :=
  Rx.bind ((Rx.bind (F_turn_pair h1_663 h2_664 10 18) fun v709 => .ok ((v709.1), (v709.2)) : Rx (Int × Int))) fun s => F__forward_eight_k8 (e0_665) (e1_666) (e2_667) (e3_668) (d0_669) (d3_670) (s.1) (s.2)

def F__forward_eight_k5 (h0_571 : Int) (h1_572 : Int) (h2_573 : Int) (h3_574 : Int) (e0_575 : Int) (e1_576 : Int) (e2_577 : Int) (e3_578 : Int) : Rx (List Int) :=
  Rx.bind ((Rx.bind (F_turn_pair h0_571 h3_574 3 6) fun v675 => .ok ((v675.1), (v675.2)) : Rx (Int × Int))) fun s => F__forward_eight_k7 (h1_572) (h2_573) (e0_575) (e1_576) (e2_577) (e3_578) (s.1) (s.2)

def F__forward_eight_k3 (pairs_492 : (List (Int × Int))) (h0_493 : Int) (h1_494 : Int) (h2_495 : Int) (h3_496 : Int) : Rx (List Int) :=
  Rx.bind ((Rx.bind (mapA (pairs_492) [] (fun x => noEr (F__forward_eight_c6  x))) fun v585 => Rx.bind (F__forward_four (v585)) fun v643 => grd ((v643).length = 4) <| bnd ((itD (v643) 0)) fun e0_653 => bnd ((itD (v643) 1)) fun e1_654 => bnd ((itD (v643) 2)) fun e2_655 => bnd ((itD (v643) 3)) fun e3_656 => .ok ((e0_653), (e1_654), (e2_655), (e3_656)) : Rx (Int × Int × Int × Int))) fun s => F__forward_eight_k5 (h0_493) (h1_494) (h2_495) (h3_496) (s.1) (s.2.1) (s.2.2.1) (s.2.2.2)

def F__forward_eight_k1 (pairs_421 : (List (Int × Int))) : Rx (List Int) :=
  Rx.bind ((Rx.bind (mapA (pairs_421) [] (fun x => noEr (F__forward_eight_c4  x))) fun v503 => grd ((v503).length = 4) <| bnd ((itD (v503) 0)) fun h0_562 => bnd ((itD (v503) 1)) fun h1_563 => bnd ((itD (v503) 2)) fun h2_564 => bnd ((itD (v503) 3)) fun h3_565 => .ok ((h0_562), (h1_563), (h2_564), (h3_565)) : Rx (Int × Int × Int × Int))) fun s => F__forward_eight_k3 (pairs_421) (s.1) (s.2.1) (s.2.2.1) (s.2.2.2)

def F__forward_eight (values' : (List Int)) : Rx (List Int) :=
  Rx.bind ((Rx.bind (mapA (rng (0) (Int.toNat (4))) [] (fun x => noEr (F__forward_eight_c2 (values') x))) fun v428 => .ok (v428) : Rx ((List (Int × Int))))) fun s => F__forward_eight_k1  s

def F_forward (values' : (List Int)) : Rx (List Int) :=
  Rx.bind (F_check_size ((((values') : (List Int)).length : Int))) fun v808 => (if ((((values') : (List Int)).length : Int) : Int) = 4 then Rx.bind (F__forward_four (values')) fun v810 => .ok (v810) else Rx.bind (F__forward_eight (values')) fun v819 => .ok (v819))

def F_turn_back (first' : Int) (second' : Int) (outer' : Int) (inner' : Int) : Rx (Int × Int) :=
  grd ((-(2 ^ 64) < outer' ∧ outer' < 2 ^ 64) ∨ (-(2 ^ 64) < first' ∧ first' < 2 ^ 64)) <| bnd ((second' - (((outer' * first') + 16) / 32))) fun second_829 => grd ((-(2 ^ 64) < inner' ∧ inner' < 2 ^ 64) ∨ (-(2 ^ 64) < second_829 ∧ second_829 < 2 ^ 64)) <| bnd ((first' + (((inner' * second_829) + 16) / 32))) fun first_831 => grd ((-(2 ^ 64) < outer' ∧ outer' < 2 ^ 64) ∨ (-(2 ^ 64) < first_831 ∧ first_831 < 2 ^ 64)) <| bnd ((second_829 - (((outer' * first_831) + 16) / 32))) fun second_833 => .ok ((first_831, second_833))

def F_join_pair (low' : Int) (high' : Int) : Rx (Int × Int) :=
  bnd ((low' + ((high' + 1) / 2))) fun first_846 => .ok ((first_846, (first_846 - high')))

def F__inverse_four_k5 (x1_962 : Int) (x2_963 : Int) (x0_964 : Int) (x3_965 : Int) : Rx (List Int) :=
  .ok ([x0_964, x1_962, x2_963, x3_965])

def F__inverse_four_k4 (h0_934 : Int) (l0_935 : Int) (x1_936 : Int) (x2_937 : Int) : Rx (List Int) :=
  Rx.bind ((Rx.bind (F_join_pair l0_935 h0_934) fun v970 => .ok ((v970.1), (v970.2)) : Rx (Int × Int))) fun s => F__inverse_four_k5 (x1_936) (x2_937) (s.1) (s.2)

def F__inverse_four_k3 (h0_906 : Int) (h1_907 : Int) (l0_908 : Int) (l1_909 : Int) : Rx (List Int) :=
  Rx.bind ((Rx.bind (F_join_pair l1_909 h1_907) fun v942 => .ok ((v942.1), (v942.2)) : Rx (Int × Int))) fun s => F__inverse_four_k4 (h0_906) (l0_908) (s.1) (s.2)

def F__inverse_four_k2 (c0_878 : Int) (c2_879 : Int) (h0_880 : Int) (h1_881 : Int) : Rx (List Int) :=
  Rx.bind ((Rx.bind (F_join_pair c0_878 c2_879) fun v914 => .ok ((v914.1), (v914.2)) : Rx (Int × Int))) fun s => F__inverse_four_k3 (h0_880) (h1_881) (s.1) (s.2)

def F__inverse_four_k1 (c0_859 : Int) (c1_860 : Int) (c2_861 : Int) (c3_862 : Int) : Rx (List Int) :=
  Rx.bind ((Rx.bind (F_turn_back c1_860 c3_862 6 12) fun v886 => .ok ((v886.1), (v886.2)) : Rx (Int × Int))) fun s => F__inverse_four_k2 (c0_859) (c2_861) (s.1) (s.2)

def F__inverse_four (values' : (List Int)) : Rx (List Int) :=
  Rx.bind ((grd ((values').length = 4) <| bnd ((itD (values') 0)) fun c0_870 => bnd ((itD (values') 1)) fun c1_871 => bnd ((itD (values') 2)) fun c2_872 => bnd ((itD (values') 3)) fun c3_873 => .ok ((c0_870), (c1_871), (c2_872), (c3_873)) : Rx (Int × Int × Int × Int))) fun s => F__inverse_four_k1  (s.1) (s.2.1) (s.2.2.1) (s.2.2.2)

def F__inverse_eight_c8 (it1259 : (Int × Int)) : Rx (Int × Int) :=
  Rx.bind (F_join_pair it1259.1 it1259.2) fun v1260 => .ok v1260

def F__inverse_eight_c9 (it1348 : (Int × Int)) : Rx Int :=
  .ok it1348.1

def F__inverse_eight_c10 (it1428 : (Int × Int)) : Rx Int :=
  .ok it1428.2

def F__inverse_eight_k7 (pairs_1191 : (List (Int × Int))) : Rx (List Int) :=
  Rx.bind (mapA (pairs_1191) [] (fun x => noEr (F__inverse_eight_c9  x))) fun v1304 => Rx.bind (mapA ((pairs_1191).reverse) [] (fun x => noEr (F__inverse_eight_c10  x))) fun v1381 => grd ((v1304).length + (v1381).length ≤ 1000000) <| .ok ((v1304) ++ (v1381))

def F__inverse_eight_k6 (h1_1158 : Int) (h2_1159 : Int) (h0_1160 : Int) (h3_1161 : Int) (lows_1162 : (List Int)) : Rx (List Int) :=
  Rx.bind ((grd ((lows_1162).length = ([h0_1160, h1_1158, h2_1159, h3_1161]).length) <| Rx.bind (mapA (List.zip (lows_1162) ([h0_1160, h1_1158, h2_1159, h3_1161])) [] (fun x => noEr (F__inverse_eight_c8  x))) fun v1208 => .ok (v1208) : Rx ((List (Int × Int))))) fun s => F__inverse_eight_k7  s

def F__inverse_eight_k5 (e0_1126 : Int) (e1_1127 : Int) (e2_1128 : Int) (e3_1129 : Int) (h1_1130 : Int) (h2_1131 : Int) (h0_1132 : Int) (h3_1133 : Int) : Rx (List Int) :=
  Rx.bind ((Rx.bind (F__inverse_four ([e0_1126, e1_1127, e2_1128, e3_1129])) fun v1176 => .ok (v1176) : Rx ((List Int)))) fun s => F__inverse_eight_k6 (h1_1130) (h2_1131) (h0_1132) (h3_1133) s

def F__inverse_eight_k4 (e0_1094 : Int) (e1_1095 : Int) (e2_1096 : Int) (e3_1097 : Int) (d3_1098 : Int) (d0_1099 : Int) (h1_1100 : Int) (h2_1101 : Int) : Rx (List Int) :=
  Rx.bind ((Rx.bind (F_turn_back d0_1099 d3_1098 3 6) fun v1138 => .ok ((v1138.1), (v1138.2)) : Rx (Int × Int))) fun s => F__inverse_eight_k5 (e0_1094) (e1_1095) (e2_1096) (e3_1097) (h1_1100) (h2_1101) (s.1) (s.2)

def F__inverse_eight_k3 (e0_1062 : Int) (e1_1063 : Int) (e2_1064 : Int) (e3_1065 : Int) (d2_1066 : Int) (d3_1067 : Int) (d0_1068 : Int) (d1_1069 : Int) : Rx (List Int) :=
  Rx.bind ((Rx.bind (F_turn_back d1_1069 d2_1066 10 18) fun v1106 => .ok ((v1106.1), (v1106.2)) : Rx (Int × Int))) fun s => F__inverse_eight_k4 (e0_1062) (e1_1063) (e2_1064) (e3_1065) (d3_1067) (d0_1068) (s.1) (s.2)

def F__inverse_eight_k2 (e0_1030 : Int) (f0_1031 : Int) (e1_1032 : Int) (e2_1033 : Int) (f1_1034 : Int) (e3_1035 : Int) (d2_1036 : Int) (d3_1037 : Int) : Rx (List Int) :=
  Rx.bind ((Rx.bind (F_join_pair f0_1031 f1_1034) fun v1074 => .ok ((v1074.1), (v1074.2)) : Rx (Int × Int))) fun s => F__inverse_eight_k3 (e0_1030) (e1_1032) (e2_1033) (e3_1035) (d2_1036) (d3_1037) (s.1) (s.2)

def F__inverse_eight_k1 (e0_999 : Int) (f0_1000 : Int) (e1_1001 : Int) (f2_1002 : Int) (e2_1003 : Int) (f1_1004 : Int) (e3_1005 : Int) (f3_1006 : Int) : Rx (List Int) :=
  Rx.bind ((Rx.bind (F_join_pair f2_1002 f3_1006) fun v1042 => .ok ((v1042.1), (v1042.2)) : Rx (Int × Int))) fun s => F__inverse_eight_k2 (e0_999) (f0_1000) (e1_1001) (e2_1003) (f1_1004) (e3_1005) (s.1) (s.2)

def F__inverse_eight (values' : (List Int)) : Rx (List Int) :=
  Rx.bind ((grd ((values').length = 8) <| bnd ((itD (values') 0)) fun e0_1018 => bnd ((itD (values') 1)) fun f0_1019 => bnd ((itD (values') 2)) fun e1_1020 => bnd ((itD (values') 3)) fun f2_1021 => bnd ((itD (values') 4)) fun e2_1022 => bnd ((itD (values') 5)) fun f1_1023 => bnd ((itD (values') 6)) fun e3_1024 => bnd ((itD (values') 7)) fun f3_1025 => .ok ((e0_1018), (f0_1019), (e1_1020), (f2_1021), (e2_1022), (f1_1023), (e3_1024), (f3_1025)) : Rx (Int × Int × Int × Int × Int × Int × Int × Int))) fun s => F__inverse_eight_k1  (s.1) (s.2.1) (s.2.2.1) (s.2.2.2.1) (s.2.2.2.2.1) (s.2.2.2.2.2.1) (s.2.2.2.2.2.2.1) (s.2.2.2.2.2.2.2)

def F_inverse (values' : (List Int)) : Rx (List Int) :=
  Rx.bind (F_check_size ((((values') : (List Int)).length : Int))) fun v1459 => (if ((((values') : (List Int)).length : Int) : Int) = 4 then Rx.bind (F__inverse_four (values')) fun v1461 => .ok (v1461) else Rx.bind (F__inverse_eight (values')) fun v1470 => .ok (v1470))

def F__law_cell (script' : (List Int)) (k' : Int) : Rx Int :=
  (if k' < (((script') : (List Int)).length : Int) then grd (-((script').length : Int) ≤ k' ∧ k' < ((script').length : Int)) <| .ok ((if (itD (script') (k')) < 0 then -(itD (script') (k')) else (itD (script') (k')))) else .ok (0))

def F__law_eight_c1 (x_1481 : (List Int)) (it1505 : Int) : Rx Int :=
  grd (-((x_1481).length : Int) ≤ it1505 ∧ it1505 < ((x_1481).length : Int)) <| grd (-((x_1481).length : Int) ≤ (7 - it1505) ∧ (7 - it1505) < ((x_1481).length : Int)) <| .ok ((((itD (x_1481) (it1505)) + (itD (x_1481) ((7 - it1505)))) / 2))

def F__law_eight_c2 (x_1531 : (List Int)) (it1557 : Int) : Rx Int :=
  grd (-((x_1531).length : Int) ≤ it1557 ∧ it1557 < ((x_1531).length : Int)) <| grd (-((x_1531).length : Int) ≤ (7 - it1557) ∧ (7 - it1557) < ((x_1531).length : Int)) <| .ok (((itD (x_1531) (it1557)) - (itD (x_1531) ((7 - it1557)))))

def F__law_eight (x' : (List Int)) : Rx (List Int) :=
  Rx.bind (mapA (rng (0) (Int.toNat (4))) [] (fun x => noEr (F__law_eight_c1 (x') x))) fun v1482 => Rx.bind (F__law_four (v1482)) fun v1522 => Rx.bind (mapA (rng (0) (Int.toNat (4))) [] (fun x => noEr (F__law_eight_c2 (x') x))) fun v1532 => grd (-((v1532).length : Int) ≤ 0 ∧ 0 < ((v1532).length : Int)) <| grd (-((v1532).length : Int) ≤ 3 ∧ 3 < ((v1532).length : Int)) <| Rx.bind (F__law_turned ((itD (v1532) (0))) ((itD (v1532) (3))) 3 6) fun v1578 => grd (-((v1532).length : Int) ≤ 1 ∧ 1 < ((v1532).length : Int)) <| grd (-((v1532).length : Int) ≤ 2 ∧ 2 < ((v1532).length : Int)) <| Rx.bind (F__law_turned ((itD (v1532) (1))) ((itD (v1532) (2))) 10 18) fun v1590 => grd (-((v1578).length : Int) ≤ 0 ∧ 0 < ((v1578).length : Int)) <| grd (-((v1590).length : Int) ≤ 0 ∧ 0 < ((v1590).length : Int)) <| grd (-((v1578).length : Int) ≤ 0 ∧ 0 < ((v1578).length : Int)) <| grd (-((v1590).length : Int) ≤ 0 ∧ 0 < ((v1590).length : Int)) <| grd (-((v1590).length : Int) ≤ 1 ∧ 1 < ((v1590).length : Int)) <| grd (-((v1578).length : Int) ≤ 1 ∧ 1 < ((v1578).length : Int)) <| grd (-((v1590).length : Int) ≤ 1 ∧ 1 < ((v1590).length : Int)) <| grd (-((v1578).length : Int) ≤ 1 ∧ 1 < ((v1578).length : Int)) <| grd (-((v1522).length : Int) ≤ 0 ∧ 0 < ((v1522).length : Int)) <| grd (-(([(((itD (v1578) (0)) + (itD (v1590) (0))) / 2), ((itD (v1578) (0)) - (itD (v1590) (0)))]).length : Int) ≤ 0 ∧ 0 < (([(((itD (v1578) (0)) + (itD (v1590) (0))) / 2), ((itD (v1578) (0)) - (itD (v1590) (0)))]).length : Int)) <| grd (-((v1522).length : Int) ≤ 1 ∧ 1 < ((v1522).length : Int)) <| grd (-(([(((itD (v1590) (1)) + (itD (v1578) (1))) / 2), ((itD (v1590) (1)) - (itD (v1578) (1)))]).length : Int) ≤ 0 ∧ 0 < (([(((itD (v1590) (1)) + (itD (v1578) (1))) / 2), ((itD (v1590) (1)) - (itD (v1578) (1)))]).length : Int)) <| grd (-((v1522).length : Int) ≤ 2 ∧ 2 < ((v1522).length : Int)) <| grd (-(([(((itD (v1578) (0)) + (itD (v1590) (0))) / 2), ((itD (v1578) (0)) - (itD (v1590) (0)))]).length : Int) ≤ 1 ∧ 1 < (([(((itD (v1578) (0)) + (itD (v1590) (0))) / 2), ((itD (v1578) (0)) - (itD (v1590) (0)))]).length : Int)) <| grd (-((v1522).length : Int) ≤ 3 ∧ 3 < ((v1522).length : Int)) <| grd (-(([(((itD (v1590) (1)) + (itD (v1578) (1))) / 2), ((itD (v1590) (1)) - (itD (v1578) (1)))]).length : Int) ≤ 1 ∧ 1 < (([(((itD (v1590) (1)) + (itD (v1578) (1))) / 2), ((itD (v1590) (1)) - (itD (v1578) (1)))]).length : Int)) <| .ok ([(itD (v1522) (0)), (itD ([(((itD (v1578) (0)) + (itD (v1590) (0))) / 2), ((itD (v1578) (0)) - (itD (v1590) (0)))]) (0)), (itD (v1522) (1)), (itD ([(((itD (v1590) (1)) + (itD (v1578) (1))) / 2), ((itD (v1590) (1)) - (itD (v1578) (1)))]) (0)), (itD (v1522) (2)), (itD ([(((itD (v1578) (0)) + (itD (v1590) (0))) / 2), ((itD (v1578) (0)) - (itD (v1590) (0)))]) (1)), (itD (v1522) (3)), (itD ([(((itD (v1590) (1)) + (itD (v1578) (1))) / 2), ((itD (v1590) (1)) - (itD (v1578) (1)))]) (1))])

def F__law_is_integers_b1 (it1662 : Int) : Rx (Lp Unit Bool) :=
  .ok (.go ())

def F__law_is_integers_r1  : Rx Bool :=
  .ok (true)

def F__law_is_integers (actual' : (List Int)) (count' : Int) : Rx Bool :=
  (if ((((actual') : (List Int)).length : Int) : Int) = count' then Rx.bind (forR (actual') () (fun s x => F__law_is_integers_b1   x)) fun l => l.aft Rx.ok fun s => F__law_is_integers_r1   else .ok (false))

def F__law_refused_k2 (told_1692 : Int) : Rx Bool :=
  .ok (decide ((told_1692 : Int) = 2))

def F__law_refused_k1 (values_1667 : (List Int)) (told_1668 : Int) : Rx Bool :=
  Rx.bind ((tryR (F_inverse (values_1667)) [1] (fun v1696 => .ok (told_1668)) (fun _ => bnd ((told_1668 + 1)) fun told_1708 => .ok (told_1708)) : Rx (Int))) fun s => F__law_refused_k2  s

def F__law_refused (values' : (List Int)) : Rx Bool :=
  Rx.bind ((tryR (F_forward (values')) [1] (fun v1673 => .ok (0)) (fun _ => bnd ((0 + 1)) fun told_1687 => .ok (told_1687)) : Rx (Int))) fun s => F__law_refused_k1 (values') s

def F_law_k3 (cell_1774 : Int) (count_1775 : Int) (values_1776 : (List Int)) (kept_1777 : (List Int)) (due_1778 : (List Int)) : Rx (Lp Unit Bool) :=
  Rx.bind (F_forward (values_1776)) fun v1808 => Rx.bind (F__law_is_integers (v1808) count_1775) fun v1817 => (if v1817 = true then (if (v1808 : (List Int)) = due_1778 then (if (values_1776 : (List Int)) = kept_1777 then Rx.bind (F_inverse (v1808)) fun v1828 => Rx.bind (F__law_is_integers (v1828) count_1775) fun v1837 => (if v1837 = true then (if (v1828 : (List Int)) = kept_1777 then (if (v1808 : (List Int)) = due_1778 then Rx.bind (F_inverse (values_1776)) fun v1849 => Rx.bind (F__law_is_integers (v1849) count_1775) fun v1858 => (if v1858 = true then (if (values_1776 : (List Int)) = kept_1777 then Rx.bind (F_forward (v1849)) fun v1867 => (if (v1867 : (List Int)) = kept_1777 then bnd (((cell_1774 / 5) % 11)) fun length_1878 => (if (length_1878 : Int) = 4 then .ok (.go ()) else (if (length_1878 : Int) = 8 then .ok (.go ()) else grd (-(2 ^ 63) ≤ length_1878 ∧ length_1878 < 2 ^ 63 ∧ ([0]).length * Int.toNat (length_1878) ≤ 1000000) <| Rx.bind (F__law_refused (repL ([0]) (length_1878))) fun v1900 => (if v1900 = true then .ok (.go ()) else .ok (.rt (false))))) else .ok (.rt (false))) else .ok (.rt (false))) else .ok (.rt (false))) else .ok (.rt (false))) else .ok (.rt (false))) else .ok (.rt (false))) else .ok (.rt (false))) else .ok (.rt (false))) else .ok (.rt (false)))

def F_law_k2 (cell_1737 : Int) (count_1738 : Int) : Rx (Lp Unit Bool) :=
  Rx.bind (F__law_values ((cell_1737 / 2)) count_1738) fun v1747 => Rx.bind (F__law_four (v1747)) fun v1765 => Rx.bind (((if (count_1738 : Int) = 8 then Rx.bind (F__law_eight (v1747)) fun v1785 => .ok (v1785) else .ok (v1765)) : Rx ((List Int)))) fun s => F_law_k3 (cell_1737) (count_1738) (v1747) (v1747) s

def F_law_b1 (script_1714 : (List Int)) (it1734 : Int) : Rx (Lp Unit Bool) :=
  Rx.bind (F__law_cell (script_1714) it1734) fun v1735 => bnd ((v1735 + it1734)) fun cell_1736 => Rx.bind (((if ((cell_1736 % 2) : Int) = 1 then .ok (8) else .ok (4)) : Rx (Int))) fun s => F_law_k2 (cell_1736) s

def F_law_r1  : Rx Bool :=
  .ok (true)

def F_law (script' : (List Int)) : Rx Bool :=
  grd (-(2 ^ 62) ≤ (if 12 < (1 + (((script') : (List Int)).length : Int)) then 12 else (1 + (((script') : (List Int)).length : Int))) ∧ (if 12 < (1 + (((script') : (List Int)).length : Int)) then 12 else (1 + (((script') : (List Int)).length : Int))) < 2 ^ 62) <| Rx.bind (forR (rng (0) (Int.toNat ((if 12 < (1 + (((script') : (List Int)).length : Int)) then 12 else (1 + (((script') : (List Int)).length : Int)))))) () (fun s x => F_law_b1 (script')  x)) fun l => l.aft Rx.ok fun s => F_law_r1  
theorem cell_gv (s : List Int) (k : Int) (h : 0 ≤ k) : Gv (F__law_cell s k) (fun v => 0 ≤ v) := by
  unfold F__law_cell
  refine Gv.ite (fun c => Gv.grd ⟨by omega, c⟩ (.ok ?_)) fun _ => .ok (by decide)
  split <;> omega
theorem all_snoc {P : Int → Prop} {xs : List Int} {y : Int} (h : ∀ x ∈ xs, P x) (hy : P y) : ∀ x ∈ xs ++ [y], P x := fun x hx => by
  rcases List.mem_append.mp hx with q | q
  · exact h x q
  · rw [List.mem_singleton.mp q]
    exact hy
theorem digits_gv (cell base most : Int) (h0 : 0 < base) (h1 : base < 2 ^ 64) (hm : 0 ≤ most) (hm2 : most ≤ 1000) : Gv (F__law_digits cell base most) (fun v => (v.length : Int) = most ∧ ∀ x ∈ v, 0 ≤ x ∧ x < base) := by
  unfold F__law_digits
  refine Gv.bnd fun large _ => Gv.grd ⟨by omega, by omega⟩ (Gv.bind (Gv.forS (P := fun i s => s.2.length = i ∧ ∀ x ∈ s.2, 0 ≤ x ∧ x < base) ⟨rfl, fun x hx => by cases hx⟩ fun i x s hx p => ?_) fun s p => .ok ⟨?_, p.2⟩)
  · obtain ⟨rfl, hi⟩ := rng_at hx
    have hl := p.1
    unfold F__law_digits_b1
    refine Gv.ite (fun _ => Gv.grd h0 (Gv.grd (by omega) (Gv.bnd fun y hy => Gv.grd ⟨h0, by omega⟩ (Gv.bnd fun c _ => .ok ?_)))) fun _ => Gv.grd ?_ (Gv.grd ?_ (Gv.grd h0 (Gv.grd (by omega) (Gv.bnd fun y hy => .ok ?_))))
    · subst hy
      exact ⟨by rw [List.length_append, hl]; rfl, all_snoc p.2 ⟨Int.emod_nonneg _ (by omega), Int.emod_lt_of_pos _ h0⟩⟩
    · left
      omega
    · right
      omega
    · subst hy
      exact ⟨by rw [List.length_append, hl]; rfl, all_snoc p.2 ⟨Int.emod_nonneg _ (by omega), Int.emod_lt_of_pos _ h0⟩⟩
  · have := p.1
    rw [rng_len] at this
    omega
theorem itD_lit {xs : List Int} {a k : Int} (n : Nat) (e : k = (n : Int)) (h : xs[n]? = some a) : itD xs k = a := by
  subst e
  have hl := get_len h
  unfold itD atI ixN
  rw [if_pos (by omega), if_pos (by omega)]
  show (xs[n]?).getD default = a
  rw [h]
  rfl
theorem ixl {xs : List Int} {k : Int} (n : Nat) (e : xs.length = n) (h0 : 0 ≤ k) (h : k < n) : -(xs.length : Int) ≤ k ∧ k < xs.length := by
  rw [e]
  omega
def sl (a b : Int) : Int := (a + b) / 2
def sh (a b : Int) : Int := a - b
def j0 (l h : Int) : Int := l + (h + 1) / 2
def j1 (l h : Int) : Int := j0 l h - h
def tS (f s o : Int) : Int := s + (o * f + 16) / 32
def t1 (f s o i : Int) : Int := f - (i * tS f s o + 16) / 32
def t2 (f s o i : Int) : Int := tS (t1 f s o i) (tS f s o) o
def bS (f s o : Int) : Int := s - (o * f + 16) / 32
def b1 (f s o i : Int) : Int := f + (i * bS f s o + 16) / 32
def b2 (f s o i : Int) : Int := bS (b1 f s o i) (bS f s o) o
theorem js0 (a b : Int) : j0 (sl a b) (sh a b) = a := by unfold j0 sl sh; omega
theorem js1 (a b : Int) : j1 (sl a b) (sh a b) = b := by unfold j1 j0 sl sh; omega
theorem sj0 (l h : Int) : sl (j0 l h) (j1 l h) = l := by unfold j1 j0 sl; omega
theorem sj1 (l h : Int) : sh (j0 l h) (j1 l h) = h := by unfold j1 j0 sh; omega
theorem bt (f s o : Int) : bS f (tS f s o) o = s := by unfold bS tS; omega
theorem tb (f s o : Int) : tS f (bS f s o) o = s := by unfold bS tS; omega
theorem bt1 (f s o i : Int) : b1 (t1 f s o i) (t2 f s o i) o i = f := by
  unfold b1 t2
  rw [bt]
  unfold t1
  omega
theorem bt2 (f s o i : Int) : b2 (t1 f s o i) (t2 f s o i) o i = s := by
  unfold b2
  rw [bt1]
  unfold t2
  rw [bt, bt]
theorem tb1 (f s o i : Int) : t1 (b1 f s o i) (b2 f s o i) o i = f := by
  unfold t1 b2
  rw [tb]
  unfold b1
  omega
theorem tb2 (f s o i : Int) : t2 (b1 f s o i) (b2 f s o i) o i = s := by
  unfold t2
  rw [tb1]
  unfold b2
  rw [tb, tb]
def f4 (a b c d : Int) : List Int := [sl (sl a d) (sl b c), t1 (sh a d) (sh b c) 6 12, sh (sl a d) (sl b c), t2 (sh a d) (sh b c) 6 12]
def i4 (c0 c1 c2 c3 : Int) : List Int := [j0 (j0 c0 c2) (b1 c1 c3 6 12), j0 (j1 c0 c2) (b2 c1 c3 6 12), j1 (j1 c0 c2) (b2 c1 c3 6 12), j1 (j0 c0 c2) (b1 c1 c3 6 12)]
theorem split_eq (a b : Int) : F_split_pair a b = .ok (sl a b, sh a b) := rfl
theorem join_eq (l h : Int) : F_join_pair l h = .ok (j0 l h, j1 l h) := rfl
theorem sm {o : Int} {p : Prop} (h0 : 0 ≤ o) (h1 : o < 64) : (-(2 ^ 64) < o ∧ o < 2 ^ 64) ∨ p := .inl ⟨by omega, by omega⟩
theorem turn_eq {o i : Int} (f s : Int) (ho : 0 ≤ o ∧ o < 64) (hi : 0 ≤ i ∧ i < 64) : F_turn_pair f s o i = .ok (t1 f s o i, t2 f s o i) := by
  unfold F_turn_pair
  rw [grd_pos (sm ho.1 ho.2), bnd_eq, grd_pos (sm hi.1 hi.2), bnd_eq, grd_pos (sm ho.1 ho.2), bnd_eq]
  rfl
theorem back_eq {o i : Int} (f s : Int) (ho : 0 ≤ o ∧ o < 64) (hi : 0 ≤ i ∧ i < 64) : F_turn_back f s o i = .ok (b1 f s o i, b2 f s o i) := by
  unfold F_turn_back
  rw [grd_pos (sm ho.1 ho.2), bnd_eq, grd_pos (sm hi.1 hi.2), bnd_eq, grd_pos (sm ho.1 ho.2), bnd_eq]
  rfl
theorem lturn_eq {o i : Int} (f s : Int) (ho : 0 ≤ o ∧ o < 64) (hi : 0 ≤ i ∧ i < 64) : F__law_turned f s o i = .ok [t1 f s o i, t2 f s o i] := by
  unfold F__law_turned
  rw [grd_pos (sm ho.1 ho.2), bnd_eq, grd_pos (sm hi.1 hi.2), bnd_eq, grd_pos (sm ho.1 ho.2)]
  rfl
theorem four_eq (a b c d : Int) : F__forward_four [a, b, c, d] = .ok (f4 a b c d) := by
  unfold F__forward_four
  rw [grd_pos (show [a, b, c, d].length = 4 from rfl), itD_lit (k := 0) (a := a) 0 rfl rfl, itD_lit (k := 1) (a := b) 1 rfl rfl, itD_lit (k := 2) (a := c) 2 rfl rfl, itD_lit (k := 3) (a := d) 3 rfl rfl]
  show F__forward_four_k1 a b c d = _
  unfold F__forward_four_k1
  rw [split_eq]
  show F__forward_four_k2 b c (sl a d) (sh a d) = _
  unfold F__forward_four_k2
  rw [split_eq]
  show F__forward_four_k3 (sl a d) (sh a d) (sl b c) (sh b c) = _
  unfold F__forward_four_k3
  rw [split_eq]
  show F__forward_four_k4 (sh a d) (sh b c) (sl (sl a d) (sl b c)) (sh (sl a d) (sl b c)) = _
  unfold F__forward_four_k4
  rw [turn_eq _ _ ⟨by decide, by decide⟩ ⟨by decide, by decide⟩]
  rfl
theorem inv4_eq (a b c d : Int) : F__inverse_four [a, b, c, d] = .ok (i4 a b c d) := by
  unfold F__inverse_four
  rw [grd_pos (show [a, b, c, d].length = 4 from rfl), itD_lit (k := 0) (a := a) 0 rfl rfl, itD_lit (k := 1) (a := b) 1 rfl rfl, itD_lit (k := 2) (a := c) 2 rfl rfl, itD_lit (k := 3) (a := d) 3 rfl rfl]
  show F__inverse_four_k1 a b c d = _
  unfold F__inverse_four_k1
  rw [back_eq _ _ ⟨by decide, by decide⟩ ⟨by decide, by decide⟩]
  show F__inverse_four_k2 a c (b1 b d 6 12) (b2 b d 6 12) = _
  unfold F__inverse_four_k2
  rw [join_eq]
  show F__inverse_four_k3 (b1 b d 6 12) (b2 b d 6 12) (j0 a c) (j1 a c) = _
  unfold F__inverse_four_k3
  rw [join_eq]
  show F__inverse_four_k4 (b1 b d 6 12) (j0 a c) (j0 (j1 a c) (b2 b d 6 12)) (j1 (j1 a c) (b2 b d 6 12)) = _
  unfold F__inverse_four_k4
  rw [join_eq]
  rfl
theorem due4 {xs : List Int} {a b c d : Int} {n : Nat} (hn : xs.length = n) (h4 : 4 ≤ n) (ha : itD xs 0 = a) (hb : itD xs 1 = b) (hc : itD xs 2 = c) (hd : itD xs 3 = d) : F__law_four xs = .ok (f4 a b c d) := by
  refine Gv.get ?_
  unfold F__law_four
  have g : ∀ k : Int, 0 ≤ k → k < 4 → -(xs.length : Int) ≤ k ∧ k < xs.length := fun k h0 h1 => ixl n hn h0 (by omega)
  have g2 : ∀ (p q k : Int), 0 ≤ k → k < 2 → -(([p, q] : List Int).length : Int) ≤ k ∧ k < ([p, q] : List Int).length := fun p q k h0 h1 => ixl 2 rfl h0 h1
  refine Gv.grd (g 0 (by decide) (by decide)) (Gv.grd (g 3 (by decide) (by decide)) (Gv.grd (g 1 (by decide) (by decide)) (Gv.grd (g 2 (by decide) (by decide)) (Gv.grd (g 0 (by decide) (by decide)) (Gv.grd (g 3 (by decide) (by decide)) (Gv.grd (g 1 (by decide) (by decide)) (Gv.grd (g 2 (by decide) (by decide)) ?_)))))))
  rw [ha, hb, hc, hd]
  refine Gv.bind_eq (lturn_eq _ _ ⟨by decide, by decide⟩ ⟨by decide, by decide⟩) ?_
  refine Gv.grd (g2 _ _ 0 (by decide) (by decide)) (Gv.grd (g2 _ _ 1 (by decide) (by decide)) (Gv.grd (g2 _ _ 0 (by decide) (by decide)) (Gv.grd (g2 _ _ 0 (by decide) (by decide)) (Gv.grd (g2 _ _ 1 (by decide) (by decide)) (Gv.grd (g2 _ _ 1 (by decide) (by decide)) (.ok ?_))))))
  rw [itD_lit (k := 0) (a := (a + d) / 2) 0 rfl rfl, itD_lit (k := 1) (a := (b + c) / 2) 1 rfl rfl, itD_lit (k := 0) (a := t1 (a - d) (b - c) 6 12) 0 rfl rfl, itD_lit (k := 1) (a := t2 (a - d) (b - c) 6 12) 1 rfl rfl]
  rfl
theorem mapA4 {α β : Type} {f : α → Rx β} {a b c d : α} {p q r s : β} (h1 : f a = .ok p) (h2 : f b = .ok q) (h3 : f c = .ok r) (h4 : f d = .ok s) : mapA [a, b, c, d] [] f = .ok [p, q, r, s] := by
  simp [mapA, grd, h1, h2, h3, h4, Rx.bind]
theorem noE {α : Type} {m : Rx α} {a : α} (h : m = .ok a) : noEr m = .ok a := by rw [h]; rfl
theorem rng4 : rng 0 (Int.toNat 4) = [0, 1, 2, 3] := by decide
def f8 (x0 x1 x2 x3 x4 x5 x6 x7 : Int) : List Int :=
  [sl (sl (sl x0 x7) (sl x3 x4)) (sl (sl x1 x6) (sl x2 x5)),
   sl (t1 (sh x0 x7) (sh x3 x4) 3 6) (t1 (sh x1 x6) (sh x2 x5) 10 18),
   t1 (sh (sl x0 x7) (sl x3 x4)) (sh (sl x1 x6) (sl x2 x5)) 6 12,
   sl (t2 (sh x1 x6) (sh x2 x5) 10 18) (t2 (sh x0 x7) (sh x3 x4) 3 6),
   sh (sl (sl x0 x7) (sl x3 x4)) (sl (sl x1 x6) (sl x2 x5)),
   sh (t1 (sh x0 x7) (sh x3 x4) 3 6) (t1 (sh x1 x6) (sh x2 x5) 10 18),
   t2 (sh (sl x0 x7) (sl x3 x4)) (sh (sl x1 x6) (sl x2 x5)) 6 12,
   sh (t2 (sh x1 x6) (sh x2 x5) 10 18) (t2 (sh x0 x7) (sh x3 x4) 3 6)]
section
variable (x0 x1 x2 x3 x4 x5 x6 x7 : Int)
theorem c2_eq {L : List Int} {k a b : Int} (n m : Nat) (hl : L.length = 8) (hk : k = n) (hm : 7 - k = m) (h1 : L[n]? = some a) (h2 : L[m]? = some b) : F__forward_eight_c2 L k = .ok (sl a b, sh a b) := by
  unfold F__forward_eight_c2
  have g1 := get_len h1
  have g2 := get_len h2
  rw [grd_pos (ixl 8 hl (by omega) (by omega)), grd_pos (ixl 8 hl (by omega) (by omega)), itD_lit n hk h1, itD_lit m hm h2]
  rfl
theorem lc1_eq {L : List Int} {k a b : Int} (n m : Nat) (hl : L.length = 8) (hk : k = n) (hm : 7 - k = m) (h1 : L[n]? = some a) (h2 : L[m]? = some b) : F__law_eight_c1 L k = .ok (sl a b) := by
  unfold F__law_eight_c1
  have g1 := get_len h1
  have g2 := get_len h2
  rw [grd_pos (ixl 8 hl (by omega) (by omega)), grd_pos (ixl 8 hl (by omega) (by omega)), itD_lit n hk h1, itD_lit m hm h2]
  rfl
theorem lc2_eq {L : List Int} {k a b : Int} (n m : Nat) (hl : L.length = 8) (hk : k = n) (hm : 7 - k = m) (h1 : L[n]? = some a) (h2 : L[m]? = some b) : F__law_eight_c2 L k = .ok (sh a b) := by
  unfold F__law_eight_c2
  have g1 := get_len h1
  have g2 := get_len h2
  rw [grd_pos (ixl 8 hl (by omega) (by omega)), grd_pos (ixl 8 hl (by omega) (by omega)), itD_lit n hk h1, itD_lit m hm h2]
  rfl
theorem eight_eq : F__forward_eight [x0, x1, x2, x3, x4, x5, x6, x7] = .ok (f8 x0 x1 x2 x3 x4 x5 x6 x7) := by
  unfold F__forward_eight
  rw [rng4, mapA4 (f := fun x => noEr (F__forward_eight_c2 [x0, x1, x2, x3, x4, x5, x6, x7] x)) (a := (0 : Int)) (b := 1) (c := 2) (d := 3) (p := (sl x0 x7, sh x0 x7)) (q := (sl x1 x6, sh x1 x6)) (r := (sl x2 x5, sh x2 x5)) (s := (sl x3 x4, sh x3 x4)) (noE (c2_eq 0 7 rfl rfl rfl rfl rfl)) (noE (c2_eq 1 6 rfl rfl rfl rfl rfl)) (noE (c2_eq 2 5 rfl rfl rfl rfl rfl)) (noE (c2_eq 3 4 rfl rfl rfl rfl rfl))]
  show F__forward_eight_k1 [(sl x0 x7, sh x0 x7), (sl x1 x6, sh x1 x6), (sl x2 x5, sh x2 x5), (sl x3 x4, sh x3 x4)] = _
  unfold F__forward_eight_k1
  rw [mapA4 (f := fun x => noEr (F__forward_eight_c4 x)) (p := sh x0 x7) (q := sh x1 x6) (r := sh x2 x5) (s := sh x3 x4) rfl rfl rfl rfl, bind_ok, grd_pos (show [sh x0 x7, sh x1 x6, sh x2 x5, sh x3 x4].length = 4 from rfl)]
  rw [itD_lit (k := 0) (a := sh x0 x7) 0 rfl rfl, itD_lit (k := 1) (a := sh x1 x6) 1 rfl rfl, itD_lit (k := 2) (a := sh x2 x5) 2 rfl rfl, itD_lit (k := 3) (a := sh x3 x4) 3 rfl rfl]
  show F__forward_eight_k3 [(sl x0 x7, sh x0 x7), (sl x1 x6, sh x1 x6), (sl x2 x5, sh x2 x5), (sl x3 x4, sh x3 x4)] (sh x0 x7) (sh x1 x6) (sh x2 x5) (sh x3 x4) = _
  unfold F__forward_eight_k3
  rw [mapA4 (f := fun x => noEr (F__forward_eight_c6 x)) (p := sl x0 x7) (q := sl x1 x6) (r := sl x2 x5) (s := sl x3 x4) rfl rfl rfl rfl, bind_ok, four_eq, bind_ok]
  unfold f4
  generalize h0 : sh x0 x7 = y0
  generalize h1 : sh x1 x6 = y1
  generalize h2 : sh x2 x5 = y2
  generalize h3 : sh x3 x4 = y3
  generalize g0 : sl x0 x7 = z0
  generalize g1 : sl x1 x6 = z1
  generalize g2 : sl x2 x5 = z2
  generalize g3 : sl x3 x4 = z3
  rw [grd_pos (show [sl (sl z0 z3) (sl z1 z2), t1 (sh z0 z3) (sh z1 z2) 6 12, sh (sl z0 z3) (sl z1 z2), t2 (sh z0 z3) (sh z1 z2) 6 12].length = 4 from rfl)]
  rw [itD_lit (k := 0) (a := sl (sl z0 z3) (sl z1 z2)) 0 rfl rfl, itD_lit (k := 1) (a := t1 (sh z0 z3) (sh z1 z2) 6 12) 1 rfl rfl, itD_lit (k := 2) (a := sh (sl z0 z3) (sl z1 z2)) 2 rfl rfl, itD_lit (k := 3) (a := t2 (sh z0 z3) (sh z1 z2) 6 12) 3 rfl rfl]
  show F__forward_eight_k5 y0 y1 y2 y3 (sl (sl z0 z3) (sl z1 z2)) (t1 (sh z0 z3) (sh z1 z2) 6 12) (sh (sl z0 z3) (sl z1 z2)) (t2 (sh z0 z3) (sh z1 z2) 6 12) = _
  unfold F__forward_eight_k5
  rw [turn_eq _ _ ⟨by decide, by decide⟩ ⟨by decide, by decide⟩]
  show F__forward_eight_k7 y1 y2 _ _ _ _ (t1 y0 y3 3 6) (t2 y0 y3 3 6) = _
  unfold F__forward_eight_k7
  rw [turn_eq _ _ ⟨by decide, by decide⟩ ⟨by decide, by decide⟩]
  show F__forward_eight_k8 _ _ _ _ (t1 y0 y3 3 6) (t2 y0 y3 3 6) (t1 y1 y2 10 18) (t2 y1 y2 10 18) = _
  unfold F__forward_eight_k8
  rw [split_eq]
  show F__forward_eight_k9 _ _ _ _ (t2 y0 y3 3 6) (t2 y1 y2 10 18) (sl (t1 y0 y3 3 6) (t1 y1 y2 10 18)) (sh (t1 y0 y3 3 6) (t1 y1 y2 10 18)) = _
  unfold F__forward_eight_k9
  rw [split_eq]
  show Rx.ok [_, _, _, _, _, _, _, _] = _
  unfold f8
  rw [h0, h1, h2, h3, g0, g1, g2, g3]
theorem due8 : F__law_eight [x0, x1, x2, x3, x4, x5, x6, x7] = .ok (f8 x0 x1 x2 x3 x4 x5 x6 x7) := by
  refine Gv.get ?_
  unfold F__law_eight
  rw [rng4, mapA4 (f := fun x => noEr (F__law_eight_c1 [x0, x1, x2, x3, x4, x5, x6, x7] x)) (a := (0 : Int)) (b := 1) (c := 2) (d := 3) (p := sl x0 x7) (q := sl x1 x6) (r := sl x2 x5) (s := sl x3 x4) (noE (lc1_eq 0 7 rfl rfl rfl rfl rfl)) (noE (lc1_eq 1 6 rfl rfl rfl rfl rfl)) (noE (lc1_eq 2 5 rfl rfl rfl rfl rfl)) (noE (lc1_eq 3 4 rfl rfl rfl rfl rfl)), bind_ok,
    due4 (n := 4) rfl (by decide) (itD_lit 0 rfl rfl) (itD_lit 1 rfl rfl) (itD_lit 2 rfl rfl) (itD_lit 3 rfl rfl), bind_ok,
    mapA4 (f := fun x => noEr (F__law_eight_c2 [x0, x1, x2, x3, x4, x5, x6, x7] x)) (a := (0 : Int)) (b := 1) (c := 2) (d := 3) (p := sh x0 x7) (q := sh x1 x6) (r := sh x2 x5) (s := sh x3 x4) (noE (lc2_eq 0 7 rfl rfl rfl rfl rfl)) (noE (lc2_eq 1 6 rfl rfl rfl rfl rfl)) (noE (lc2_eq 2 5 rfl rfl rfl rfl rfl)) (noE (lc2_eq 3 4 rfl rfl rfl rfl rfl)), bind_ok]
  unfold f4 f8
  generalize sh x0 x7 = y0
  generalize sh x1 x6 = y1
  generalize sh x2 x5 = y2
  generalize sh x3 x4 = y3
  generalize sl x0 x7 = z0
  generalize sl x1 x6 = z1
  generalize sl x2 x5 = z2
  generalize sl x3 x4 = z3
  have g4 : ∀ (p q r s k : Int), 0 ≤ k → k < 4 → -(([p, q, r, s] : List Int).length : Int) ≤ k ∧ k < ([p, q, r, s] : List Int).length := fun p q r s k h0 h1 => ixl 4 rfl h0 h1
  have g2 : ∀ (p q k : Int), 0 ≤ k → k < 2 → -(([p, q] : List Int).length : Int) ≤ k ∧ k < ([p, q] : List Int).length := fun p q k h0 h1 => ixl 2 rfl h0 h1
  refine Gv.grd (g4 _ _ _ _ _ (by decide) (by decide)) (Gv.grd (g4 _ _ _ _ _ (by decide) (by decide)) ?_)
  rw [itD_lit (k := 0) (a := y0) 0 rfl rfl, itD_lit (k := 3) (a := y3) 3 rfl rfl]
  refine Gv.bind_eq (lturn_eq _ _ ⟨by decide, by decide⟩ ⟨by decide, by decide⟩) (Gv.grd (g4 _ _ _ _ _ (by decide) (by decide)) (Gv.grd (g4 _ _ _ _ _ (by decide) (by decide)) ?_))
  rw [itD_lit (k := 1) (a := y1) 1 rfl rfl, itD_lit (k := 2) (a := y2) 2 rfl rfl]
  refine Gv.bind_eq (lturn_eq _ _ ⟨by decide, by decide⟩ ⟨by decide, by decide⟩) ?_
  rw [itD_lit (xs := [t1 y0 y3 3 6, t2 y0 y3 3 6]) (k := 0) (a := t1 y0 y3 3 6) 0 rfl rfl, itD_lit (xs := [t1 y0 y3 3 6, t2 y0 y3 3 6]) (k := 1) (a := t2 y0 y3 3 6) 1 rfl rfl, itD_lit (xs := [t1 y1 y2 10 18, t2 y1 y2 10 18]) (k := 0) (a := t1 y1 y2 10 18) 0 rfl rfl, itD_lit (xs := [t1 y1 y2 10 18, t2 y1 y2 10 18]) (k := 1) (a := t2 y1 y2 10 18) 1 rfl rfl]
  repeat' refine Gv.grd (by first | exact g2 _ _ _ (by decide) (by decide) | exact g4 _ _ _ _ _ (by decide) (by decide)) ?_
  refine .ok ?_
  rw [itD_lit (k := 0) (a := sl (sl z0 z3) (sl z1 z2)) 0 rfl rfl, itD_lit (k := 1) (a := t1 (sh z0 z3) (sh z1 z2) 6 12) 1 rfl rfl, itD_lit (k := 2) (a := sh (sl z0 z3) (sl z1 z2)) 2 rfl rfl, itD_lit (k := 3) (a := t2 (sh z0 z3) (sh z1 z2) 6 12) 3 rfl rfl,
    itD_lit (k := 0) (a := sl (t1 y0 y3 3 6) (t1 y1 y2 10 18)) 0 rfl rfl, itD_lit (k := 1) (a := sh (t1 y0 y3 3 6) (t1 y1 y2 10 18)) 1 rfl rfl, itD_lit (k := 0) (a := sl (t2 y1 y2 10 18) (t2 y0 y3 3 6)) 0 rfl rfl, itD_lit (k := 1) (a := sh (t2 y1 y2 10 18) (t2 y0 y3 3 6)) 1 rfl rfl]
end
def i8 (e0 f0 e1 f2 e2 f1 e3 f3 : Int) : List Int :=
  [j0 (j0 (j0 e0 e2) (b1 e1 e3 6 12)) (b1 (j0 f0 f1) (j1 f2 f3) 3 6), j0 (j0 (j1 e0 e2) (b2 e1 e3 6 12)) (b1 (j1 f0 f1) (j0 f2 f3) 10 18),
   j0 (j1 (j1 e0 e2) (b2 e1 e3 6 12)) (b2 (j1 f0 f1) (j0 f2 f3) 10 18), j0 (j1 (j0 e0 e2) (b1 e1 e3 6 12)) (b2 (j0 f0 f1) (j1 f2 f3) 3 6),
   j1 (j1 (j0 e0 e2) (b1 e1 e3 6 12)) (b2 (j0 f0 f1) (j1 f2 f3) 3 6), j1 (j1 (j1 e0 e2) (b2 e1 e3 6 12)) (b2 (j1 f0 f1) (j0 f2 f3) 10 18),
   j1 (j0 (j1 e0 e2) (b2 e1 e3 6 12)) (b1 (j1 f0 f1) (j0 f2 f3) 10 18), j1 (j0 (j0 e0 e2) (b1 e1 e3 6 12)) (b1 (j0 f0 f1) (j1 f2 f3) 3 6)]
theorem inv8_eq (e0 f0 e1 f2 e2 f1 e3 f3 : Int) : F__inverse_eight [e0, f0, e1, f2, e2, f1, e3, f3] = .ok (i8 e0 f0 e1 f2 e2 f1 e3 f3) := by
  unfold F__inverse_eight
  rw [grd_pos (show [e0, f0, e1, f2, e2, f1, e3, f3].length = 8 from rfl), itD_lit (k := 0) (a := e0) 0 rfl rfl, itD_lit (k := 1) (a := f0) 1 rfl rfl, itD_lit (k := 2) (a := e1) 2 rfl rfl, itD_lit (k := 3) (a := f2) 3 rfl rfl,
    itD_lit (k := 4) (a := e2) 4 rfl rfl, itD_lit (k := 5) (a := f1) 5 rfl rfl, itD_lit (k := 6) (a := e3) 6 rfl rfl, itD_lit (k := 7) (a := f3) 7 rfl rfl]
  show F__inverse_eight_k1 e0 f0 e1 f2 e2 f1 e3 f3 = _
  unfold F__inverse_eight_k1
  rw [join_eq]
  show F__inverse_eight_k2 e0 f0 e1 e2 f1 e3 (j0 f2 f3) (j1 f2 f3) = _
  unfold F__inverse_eight_k2
  rw [join_eq]
  show F__inverse_eight_k3 e0 e1 e2 e3 (j0 f2 f3) (j1 f2 f3) (j0 f0 f1) (j1 f0 f1) = _
  unfold F__inverse_eight_k3
  rw [back_eq _ _ ⟨by decide, by decide⟩ ⟨by decide, by decide⟩]
  unfold i8
  generalize j0 f2 f3 = d2
  generalize j1 f2 f3 = d3
  generalize j0 f0 f1 = d0
  generalize j1 f0 f1 = d1
  generalize b1 d1 d2 10 18 = h1
  generalize b2 d1 d2 10 18 = h2
  show F__inverse_eight_k4 e0 e1 e2 e3 d3 d0 h1 h2 = _
  unfold F__inverse_eight_k4
  rw [back_eq _ _ ⟨by decide, by decide⟩ ⟨by decide, by decide⟩]
  generalize b1 d0 d3 3 6 = h0
  generalize b2 d0 d3 3 6 = h3
  show F__inverse_eight_k5 e0 e1 e2 e3 h1 h2 h0 h3 = _
  unfold F__inverse_eight_k5
  rw [inv4_eq]
  unfold i4
  generalize j0 (j0 e0 e2) (b1 e1 e3 6 12) = z0
  generalize j0 (j1 e0 e2) (b2 e1 e3 6 12) = z1
  generalize j1 (j1 e0 e2) (b2 e1 e3 6 12) = z2
  generalize j1 (j0 e0 e2) (b1 e1 e3 6 12) = z3
  show F__inverse_eight_k6 h1 h2 h0 h3 [z0, z1, z2, z3] = _
  unfold F__inverse_eight_k6
  rw [grd_pos (show [z0, z1, z2, z3].length = [h0, h1, h2, h3].length from rfl), show List.zip [z0, z1, z2, z3] [h0, h1, h2, h3] = [(z0, h0), (z1, h1), (z2, h2), (z3, h3)] from rfl,
    mapA4 (f := fun x => noEr (F__inverse_eight_c8 x)) (p := (j0 z0 h0, j1 z0 h0)) (q := (j0 z1 h1, j1 z1 h1)) (r := (j0 z2 h2, j1 z2 h2)) (s := (j0 z3 h3, j1 z3 h3)) rfl rfl rfl rfl]
  show F__inverse_eight_k7 [(j0 z0 h0, j1 z0 h0), (j0 z1 h1, j1 z1 h1), (j0 z2 h2, j1 z2 h2), (j0 z3 h3, j1 z3 h3)] = _
  unfold F__inverse_eight_k7
  rw [mapA4 (f := fun x => noEr (F__inverse_eight_c9 x)) (p := j0 z0 h0) (q := j0 z1 h1) (r := j0 z2 h2) (s := j0 z3 h3) rfl rfl rfl rfl, bind_ok,
    show [(j0 z0 h0, j1 z0 h0), (j0 z1 h1, j1 z1 h1), (j0 z2 h2, j1 z2 h2), (j0 z3 h3, j1 z3 h3)].reverse = [(j0 z3 h3, j1 z3 h3), (j0 z2 h2, j1 z2 h2), (j0 z1 h1, j1 z1 h1), (j0 z0 h0, j1 z0 h0)] from rfl,
    mapA4 (f := fun x => noEr (F__inverse_eight_c10 x)) (p := j1 z3 h3) (q := j1 z2 h2) (r := j1 z1 h1) (s := j1 z0 h0) rfl rfl rfl rfl, bind_ok, grd_pos (show [j0 z0 h0, j0 z1 h1, j0 z2 h2, j0 z3 h3].length + [j1 z3 h3, j1 z2 h2, j1 z1 h1, j1 z0 h0].length ≤ 1000000 from by show 4 + 4 ≤ 1000000; decide)]
  rfl
theorem size4 : F_check_size (4 : Int) = .ok () := by
  unfold F_check_size
  rw [if_pos (by decide)]
theorem size8 : F_check_size (8 : Int) = .ok () := by
  unfold F_check_size
  rw [if_pos (by decide)]
theorem size_er {n : Int} (h4 : n ≠ 4) (h8 : n ≠ 8) : F_check_size n = .er 1 := by
  unfold F_check_size
  rw [if_neg (by simp [h4, h8])]
theorem F4 (a b c d : Int) : F_forward [a, b, c, d] = .ok (f4 a b c d) := by
  unfold F_forward
  show (F_check_size (4 : Int)).bind _ = _
  rw [size4, bind_ok, if_pos (show ((([a, b, c, d] : List Int).length : Nat) : Int) = 4 from rfl), four_eq, bind_ok]
theorem I4 (a b c d : Int) : F_inverse [a, b, c, d] = .ok (i4 a b c d) := by
  unfold F_inverse
  show (F_check_size (4 : Int)).bind _ = _
  rw [size4, bind_ok, if_pos (show ((([a, b, c, d] : List Int).length : Nat) : Int) = 4 from rfl), inv4_eq, bind_ok]
theorem F8 (x0 x1 x2 x3 x4 x5 x6 x7 : Int) : F_forward [x0, x1, x2, x3, x4, x5, x6, x7] = .ok (f8 x0 x1 x2 x3 x4 x5 x6 x7) := by
  unfold F_forward
  show (F_check_size (8 : Int)).bind _ = _
  rw [size8, bind_ok, if_neg (show ¬ (((([x0, x1, x2, x3, x4, x5, x6, x7] : List Int).length : Nat) : Int) = 4) by show ¬ ((8 : Int) = 4); decide), eight_eq, bind_ok]
theorem I8 (x0 x1 x2 x3 x4 x5 x6 x7 : Int) : F_inverse [x0, x1, x2, x3, x4, x5, x6, x7] = .ok (i8 x0 x1 x2 x3 x4 x5 x6 x7) := by
  unfold F_inverse
  show (F_check_size (8 : Int)).bind _ = _
  rw [size8, bind_ok, if_neg (show ¬ (((([x0, x1, x2, x3, x4, x5, x6, x7] : List Int).length : Nat) : Int) = 4) by show ¬ ((8 : Int) = 4); decide), inv8_eq, bind_ok]
theorem IF4 (a b c d : Int) : F_inverse (f4 a b c d) = .ok [a, b, c, d] := by
  unfold f4
  rw [I4]
  unfold i4
  rw [bt1, bt2, js0, js1, js0, js1, js0, js1]
theorem FI4 (a b c d : Int) : F_forward (i4 a b c d) = .ok [a, b, c, d] := by
  unfold i4
  rw [F4]
  unfold f4
  rw [sj0, sj1, sj0, sj1, sj0, sj1, tb1, tb2]
theorem IF8 (x0 x1 x2 x3 x4 x5 x6 x7 : Int) : F_inverse (f8 x0 x1 x2 x3 x4 x5 x6 x7) = .ok [x0, x1, x2, x3, x4, x5, x6, x7] := by
  unfold f8
  rw [I8]
  unfold i8
  simp only [bt1, bt2, js0, js1]
theorem FI8 (x0 x1 x2 x3 x4 x5 x6 x7 : Int) : F_forward (i8 x0 x1 x2 x3 x4 x5 x6 x7) = .ok [x0, x1, x2, x3, x4, x5, x6, x7] := by
  unfold i8
  rw [F8]
  unfold f8
  simp only [sj0, sj1, tb1, tb2]
theorem values_gv (cell count : Int) (h0 : 0 ≤ count) (h1 : count ≤ 8) : Gv (F__law_values cell count) (fun v => (v.length : Int) = count) := by
  unfold F__law_values
  refine Gv.ite (fun _ => Gv.bind (digits_gv _ _ _ (by decide) (by decide) h0 (by omega)) fun v hv => Gv.bind_eq (mapA_pure0 (g := fun x => (x - 1073741823) * ((10 : Int) ^ Int.toNat 20) + x) (fun x hx => ?_) (by omega)) (.ok ?_)) fun c => ?_
  · have b := hv.2 x hx
    unfold F__law_values_c1
    rw [grd_pos (.inl ⟨by omega, by omega⟩)]
    rfl
  · rw [List.length_map]
    exact hv.1
  · have hb : itD ([7, 8191] : List Int) (cell / 11 % 3) = 7 ∨ itD ([7, 8191] : List Int) (cell / 11 % 3) = 8191 := by
      have : cell / 11 % 3 = 0 ∨ cell / 11 % 3 = 1 := by omega
      rcases this with e | e
      · exact .inl (itD_lit (xs := [7, 8191]) 0 e rfl)
      · exact .inr (itD_lit (xs := [7, 8191]) 1 e rfl)
    refine Gv.grd (ixl (xs := [7, 8191]) (k := cell / 11 % 3) 2 rfl (by omega) (by omega)) (Gv.bnd fun base hbase => ?_)
    rw [← hbase] at hb
    refine (Gv.bind (digits_gv _ _ _ (by omega) (by omega) h0 (by omega)) fun v hv => Gv.bind_eq (mapA_pure0 (g := fun x => x - base) (fun x _ => rfl) (by omega)) (.ok ?_))
    rw [List.length_map]
    exact hv.1
theorem ints_ok {v : List Int} {n : Int} (h : (v.length : Int) = n) : F__law_is_integers v n = .ok true := by
  unfold F__law_is_integers
  rw [if_pos h, forR_unit (fun x _ => rfl)]
  rfl
theorem refused_ok {n : Int} (h0 : 0 ≤ n) (h4 : n ≠ 4) (h8 : n ≠ 8) : F__law_refused (repL [0] n) = .ok true := by
  have hl : (((repL ([0] : List Int) n).length : Nat) : Int) = n := by
    rw [repL_len]
    show ((n.toNat * 1 : Nat) : Int) = n
    omega
  have e1 : F_forward (repL [0] n) = .er 1 := by
    unfold F_forward
    rw [size_er (by omega) (by omega)]
    rfl
  have e2 : F_inverse (repL [0] n) = .er 1 := by
    unfold F_inverse
    rw [size_er (by omega) (by omega)]
    rfl
  unfold F__law_refused
  rw [e1, tryR_er (by simp)]
  show F__law_refused_k1 (repL [0] n) (0 + 1) = _
  unfold F__law_refused_k1
  rw [e2, tryR_er (by simp)]
  rfl
theorem k3_ok {cell count : Int} {v due back : List Int} (hc : 0 ≤ cell) (hv : (v.length : Int) = count) (hd : F_forward v = .ok due) (hdl : (due.length : Int) = count) (hi : F_inverse due = .ok v) (ho : F_inverse v = .ok back) (hbl : (back.length : Int) = count) (hf : F_forward back = .ok v) :
    F_law_k3 cell count v v due = .ok (.go ()) := by
  refine Gv.get ?_
  unfold F_law_k3
  refine Gv.bind_eq hd (Gv.bind_eq (ints_ok hdl) (Gv.pos rfl (Gv.pos rfl (Gv.pos rfl (Gv.bind_eq hi (Gv.bind_eq (ints_ok hv) (Gv.pos rfl (Gv.pos rfl (Gv.pos rfl (Gv.bind_eq ho (Gv.bind_eq (ints_ok hbl) (Gv.pos rfl (Gv.pos rfl (Gv.bind_eq hf (Gv.pos rfl (Gv.bnd fun n hn => ?_))))))))))))))))
  have n0 : 0 ≤ n := by omega
  have n1 : n < 11 := by omega
  refine Gv.ite (fun _ => .ok rfl) fun c4 => Gv.ite (fun _ => .ok rfl) fun c8 => Gv.grd ⟨by omega, by omega, ?_⟩ (Gv.bind_eq (refused_ok n0 c4 c8) (Gv.pos rfl (.ok rfl)))
  show 1 * n.toNat ≤ 1000000
  omega
theorem len8 {α : Type} {l : List α} (h : l.length = 8) : ∃ a b c d e f g i, l = [a, b, c, d, e, f, g, i] := by
  obtain ⟨a, r, rfl, h2⟩ := len_s h
  obtain ⟨b, c, d, e, g, i, j, rfl⟩ := len7 h2
  exact ⟨a, b, c, d, e, g, i, j, rfl⟩
theorem k2_ok {cell count : Int} (hc : 0 ≤ cell) (h : count = 4 ∨ count = 8) : F_law_k2 cell count = .ok (.go ()) := by
  refine Gv.get ?_
  unfold F_law_k2
  refine Gv.bind (values_gv _ _ (by omega) (by omega)) fun v hv => ?_
  rcases h with rfl | rfl
  · obtain ⟨a, b, c, d, rfl⟩ := len4 (show v.length = 4 by omega)
    refine Gv.bind_eq (due4 (n := 4) rfl (by decide) (itD_lit 0 rfl rfl) (itD_lit 1 rfl rfl) (itD_lit 2 rfl rfl) (itD_lit 3 rfl rfl)) (Gv.bind_eq (a := f4 a b c d) ?_ ?_)
    · rw [if_neg (by decide)]
    · exact .of_eq (k3_ok hc rfl (F4 a b c d) rfl (IF4 a b c d) (I4 a b c d) rfl (FI4 a b c d)) rfl
  · obtain ⟨x0, x1, x2, x3, x4, x5, x6, x7, rfl⟩ := len8 (show v.length = 8 by omega)
    refine Gv.bind_eq (due4 (n := 8) rfl (by decide) (itD_lit 0 rfl rfl) (itD_lit 1 rfl rfl) (itD_lit 2 rfl rfl) (itD_lit 3 rfl rfl)) (Gv.bind_eq (a := f8 x0 x1 x2 x3 x4 x5 x6 x7) ?_ ?_)
    · rw [if_pos rfl, due8, bind_ok]
    · exact .of_eq (k3_ok hc rfl (F8 x0 x1 x2 x3 x4 x5 x6 x7) rfl (IF8 x0 x1 x2 x3 x4 x5 x6 x7) (I8 x0 x1 x2 x3 x4 x5 x6 x7) rfl (FI8 x0 x1 x2 x3 x4 x5 x6 x7)) rfl
theorem b1_ok (s : List Int) (k : Int) (h : 0 ≤ k) : F_law_b1 s k = .ok (.go ()) := by
  refine Gv.get ?_
  unfold F_law_b1
  refine Gv.bind (cell_gv s k h) fun c0 hc0 => Gv.bnd fun cell hcell => Gv.bind (P := fun n => n = 4 ∨ n = 8) (Gv.ite (fun _ => .ok (.inr rfl)) fun _ => .ok (.inl rfl)) fun n hn => .of_eq (k2_ok (by omega) hn) rfl
theorem law_true (xs : List Int) (h : xs.length ≤ 63) : F_law xs = .ok true := by
  unfold F_law
  rw [grd_pos (by split <;> omega), forR_unit (fun x hx => b1_ok xs x (rng_mem hx).1)]
  rfl

end Vx
namespace Vx
open PySem PySem.Spec PyProof.Rows L2
def topS (i : Nat) : Stmt := PySem.Challenge.pw_thaumatrope_k42_lists_transformed.main.body.getD i (.Pass ⟨0, 0, 0, 0⟩)
abbrev s__law_digits : Stmt := topS 19
abbrev s__law_values : Stmt := topS 21
abbrev s__law_turned : Stmt := topS 22
abbrev s__law_four : Stmt := topS 23
abbrev s_check_size : Stmt := topS 5
abbrev s_split_pair : Stmt := topS 7
abbrev s_turn_pair : Stmt := topS 9
abbrev s__forward_four : Stmt := topS 13
abbrev s__forward_eight : Stmt := topS 15
abbrev s_forward : Stmt := topS 11
abbrev s_turn_back : Stmt := topS 10
abbrev s_join_pair : Stmt := topS 8
abbrev s__inverse_four : Stmt := topS 14
abbrev s__inverse_eight : Stmt := topS 16
abbrev s_inverse : Stmt := topS 12
abbrev s__law_cell : Stmt := topS 18
abbrev s__law_eight : Stmt := topS 24
abbrev s__law_is_integers : Stmt := topS 20
abbrev s__law_refused : Stmt := topS 25
abbrev s_law : Stmt := topS 26
structure Ads where
  x_CodecError : Addr
  x_OutOfRange : Addr
  t_SIZES : Addr
  z0 : Addr
def excA (AD : Ads) : Nat → Addr
  | 0 => AD.x_CodecError
  | 1 => AD.x_OutOfRange
  | _ => AD.z0
structure Txt (K : PySem.W.Frag) (mg : Str → Option Value) (AD : Ads) : Prop where
  b_int : mg "int" = none
  b_range : mg "range" = none
  g_SIZES : ∃ u, mg "SIZES" = some u ∧ RelV (V.ref AD.t_SIZES) u
  ts_SIZES : ∀ H, SqT K H AD.t_SIZES (([4, 8] : List Int).map V.int)
  b_len : mg "len" = none
  b_zip : mg "zip" = none
  b_abs : mg "abs" = none
  b_isinstance : mg "isinstance" = none
  b_list : mg "list" = none
  b_bool : mg "bool" = none
  b_min : mg "min" = none
  xg_OutOfRange : mg "OutOfRange" = some (.ref AD.x_OutOfRange)
  xx_OutOfRange : PySem.W.excIn K AD.x_OutOfRange [.type "ValueError", .type "Exception", .type "BaseException", .type "object"] "ValueError.__new__" = true
  xk_OutOfRange : PySem.W.keepIn K (.ref AD.x_OutOfRange) = true
  xb_OutOfRange : PySem.W.subIn K (.ref AD.x_OutOfRange) (.type "BaseException") = some true
  xt_OutOfRange : PySem.W.typeIn K (.ref AD.x_OutOfRange) = some (.type "type")
  xg_CodecError : mg "CodecError" = some (.ref AD.x_CodecError)
  xx_CodecError : PySem.W.excIn K AD.x_CodecError [.type "ValueError", .type "Exception", .type "BaseException", .type "object"] "ValueError.__new__" = true
  xk_CodecError : PySem.W.keepIn K (.ref AD.x_CodecError) = true
  xb_CodecError : PySem.W.subIn K (.ref AD.x_CodecError) (.type "BaseException") = some true
  xt_CodecError : PySem.W.typeIn K (.ref AD.x_CodecError) = some (.type "type")
  xm_OutOfRange_OutOfRange : PySem.W.exmOne K (.ref AD.x_OutOfRange) (.ref AD.x_OutOfRange) = some true
  xo_OutOfRange_CodecError : PySem.W.kitOne K (.ref AD.x_OutOfRange) (.ref AD.x_CodecError) = some true
  xc_OutOfRange : ExcC K AD.x_OutOfRange
abbrev pat__law_digits_0 : Pat := (3, [], fun vs _ => vs)
abbrev pats__law_digits : List Pat := [pat__law_digits_0]
abbrev pat__law_values_0 : Pat := (2, [], fun vs _ => vs)
abbrev pats__law_values : List Pat := [pat__law_values_0]
abbrev pat__law_turned_0 : Pat := (4, [], fun vs _ => vs)
abbrev pats__law_turned : List Pat := [pat__law_turned_0]
abbrev pat__law_four_0 : Pat := (1, [], fun vs _ => vs)
abbrev pats__law_four : List Pat := [pat__law_four_0]
abbrev pat_check_size_0 : Pat := (1, [], fun vs _ => vs)
abbrev pats_check_size : List Pat := [pat_check_size_0]
abbrev pat_split_pair_0 : Pat := (2, [], fun vs _ => vs)
abbrev pats_split_pair : List Pat := [pat_split_pair_0]
abbrev pat_turn_pair_0 : Pat := (2, ["outer", "inner"], fun vs zs => match vs, zs with | [a0, a1], [b0, b1] => [a0, a1, b0, b1] | _, _ => [])
abbrev pats_turn_pair : List Pat := [pat_turn_pair_0]
abbrev pat__forward_four_0 : Pat := (1, [], fun vs _ => vs)
abbrev pats__forward_four : List Pat := [pat__forward_four_0]
abbrev pat__forward_eight_0 : Pat := (1, [], fun vs _ => vs)
abbrev pats__forward_eight : List Pat := [pat__forward_eight_0]
abbrev pat_forward_0 : Pat := (1, [], fun vs _ => vs)
abbrev pats_forward : List Pat := [pat_forward_0]
abbrev pat_turn_back_0 : Pat := (2, ["outer", "inner"], fun vs zs => match vs, zs with | [a0, a1], [b0, b1] => [a0, a1, b0, b1] | _, _ => [])
abbrev pats_turn_back : List Pat := [pat_turn_back_0]
abbrev pat_join_pair_0 : Pat := (2, [], fun vs _ => vs)
abbrev pats_join_pair : List Pat := [pat_join_pair_0]
abbrev pat__inverse_four_0 : Pat := (1, [], fun vs _ => vs)
abbrev pats__inverse_four : List Pat := [pat__inverse_four_0]
abbrev pat__inverse_eight_0 : Pat := (1, [], fun vs _ => vs)
abbrev pats__inverse_eight : List Pat := [pat__inverse_eight_0]
abbrev pat_inverse_0 : Pat := (1, [], fun vs _ => vs)
abbrev pats_inverse : List Pat := [pat_inverse_0]
abbrev pat__law_cell_0 : Pat := (2, [], fun vs _ => vs)
abbrev pats__law_cell : List Pat := [pat__law_cell_0]
abbrev pat__law_eight_0 : Pat := (1, [], fun vs _ => vs)
abbrev pats__law_eight : List Pat := [pat__law_eight_0]
abbrev pat__law_is_integers_0 : Pat := (2, [], fun vs _ => vs)
abbrev pats__law_is_integers : List Pat := [pat__law_is_integers_0]
abbrev pat__law_refused_0 : Pat := (1, [], fun vs _ => vs)
abbrev pats__law_refused : List Pat := [pat__law_refused_0]
abbrev pats_law : List Pat := []
def sp__law_digits (K : PySem.W.Frag) (AD : Ads) : Sp := fun vs H Q E => ∃ (G : Hp) (cell' : Int) (base' : Int) (most' : Int), vs = [.int cell', .int base', .int most'] ∧ Same G H ∧ cW (F__law_digits cell' base' most') (fun v => ∀ p H', H p = none → Same H H' → H' p = some (.lst (v.map V.int)) → Q (.ref p) H') (fun e => ∀ H', Same H H' → E (.ref (excA AD e)) none H')
def sp__law_values (K : PySem.W.Frag) (AD : Ads) : Sp := fun vs H Q E => ∃ (G : Hp) (cell' : Int) (count' : Int), vs = [.int cell', .int count'] ∧ Same G H ∧ cW (F__law_values cell' count') (fun v => ∀ p H', H p = none → Same H H' → H' p = some (.lst (v.map V.int)) → Q (.ref p) H') (fun e => ∀ H', Same H H' → E (.ref (excA AD e)) none H')
def sp__law_turned (K : PySem.W.Frag) (AD : Ads) : Sp := fun vs H Q E => ∃ (G : Hp) (first' : Int) (second' : Int) (outer' : Int) (inner' : Int), vs = [.int first', .int second', .int outer', .int inner'] ∧ Same G H ∧ cW (F__law_turned first' second' outer' inner') (fun v => ∀ p H', H p = none → Same H H' → H' p = some (.lst (v.map V.int)) → Q (.ref p) H') (fun e => ∀ H', Same H H' → E (.ref (excA AD e)) none H')
def sp__law_four (K : PySem.W.Frag) (AD : Ads) : Sp := fun vs H Q E => ∃ (G : Hp) (a_x : Addr) (x' : List Int), vs = [.ref a_x] ∧ Same G H ∧ (hideL [] H) a_x = some (.lst ((x' : List Int).map V.int)) ∧ cW (F__law_four x') (fun v => ∀ p H', H p = none → Same H H' → H' p = some (.lst (v.map V.int)) → Q (.ref p) H') (fun e => ∀ H', Same H H' → E (.ref (excA AD e)) none H')
def sp_check_size (K : PySem.W.Frag) (AD : Ads) : Sp := fun vs H Q E => ∃ (G : Hp) (size' : Int), vs = [.int size'] ∧ Same G H ∧ cW (F_check_size size') (fun v => Q .non H) (fun e => E (.ref (excA AD e)) none H)
def sp_split_pair (K : PySem.W.Frag) (AD : Ads) : Sp := fun vs H Q E => ∃ (G : Hp) (first' : Int) (second' : Int), vs = [.int first', .int second'] ∧ Same G H ∧ cW (F_split_pair first' second') (fun v => ∀ u H' G', Same H H' → Same G G' → Same G' H' → (∀ b, H b ≠ none → G b = none → G' b = none) → Rp G' u ((encT2 PyData.int PyData.int) v) → Q u H') (fun e => ∀ H', Same H H' → E (.ref (excA AD e)) none H')
def sp_turn_pair (K : PySem.W.Frag) (AD : Ads) : Sp := fun vs H Q E => ∃ (G : Hp) (first' : Int) (second' : Int) (outer' : Int) (inner' : Int), vs = [.int first', .int second', .int outer', .int inner'] ∧ Same G H ∧ cW (F_turn_pair first' second' outer' inner') (fun v => ∀ u H' G', Same H H' → Same G G' → Same G' H' → (∀ b, H b ≠ none → G b = none → G' b = none) → Rp G' u ((encT2 PyData.int PyData.int) v) → Q u H') (fun e => ∀ H', Same H H' → E (.ref (excA AD e)) none H')
def sp__forward_four (K : PySem.W.Frag) (AD : Ads) : Sp := fun vs H Q E => ∃ (G : Hp) (a_values : Addr) (values' : List Int), vs = [.ref a_values] ∧ Same G H ∧ (hideL [] H) a_values = some (.lst ((values' : List Int).map V.int)) ∧ cW (F__forward_four values') (fun v => ∀ p H', H p = none → Same H H' → H' p = some (.lst (v.map V.int)) → Q (.ref p) H') (fun e => ∀ H', Same H H' → E (.ref (excA AD e)) none H')
def sp__forward_eight (K : PySem.W.Frag) (AD : Ads) : Sp := fun vs H Q E => ∃ (G : Hp) (a_values : Addr) (values' : List Int), vs = [.ref a_values] ∧ Same G H ∧ (hideL [] H) a_values = some (.lst ((values' : List Int).map V.int)) ∧ cW (F__forward_eight values') (fun v => ∀ p H', H p = none → Same H H' → H' p = some (.lst (v.map V.int)) → Q (.ref p) H') (fun e => ∀ H', Same H H' → E (.ref (excA AD e)) none H')
def sp_forward (K : PySem.W.Frag) (AD : Ads) : Sp := fun vs H Q E => ∃ (G : Hp) (a_values : Addr) (values' : List Int), vs = [.ref a_values] ∧ Same G H ∧ (hideL [] H) a_values = some (.lst ((values' : List Int).map V.int)) ∧ cW (F_forward values') (fun v => ∀ p H', H p = none → Same H H' → H' p = some (.lst (v.map V.int)) → Q (.ref p) H') (fun e => ∀ H', Same H H' → E (.ref (excA AD e)) none H')
def sp_turn_back (K : PySem.W.Frag) (AD : Ads) : Sp := fun vs H Q E => ∃ (G : Hp) (first' : Int) (second' : Int) (outer' : Int) (inner' : Int), vs = [.int first', .int second', .int outer', .int inner'] ∧ Same G H ∧ cW (F_turn_back first' second' outer' inner') (fun v => ∀ u H' G', Same H H' → Same G G' → Same G' H' → (∀ b, H b ≠ none → G b = none → G' b = none) → Rp G' u ((encT2 PyData.int PyData.int) v) → Q u H') (fun e => ∀ H', Same H H' → E (.ref (excA AD e)) none H')
def sp_join_pair (K : PySem.W.Frag) (AD : Ads) : Sp := fun vs H Q E => ∃ (G : Hp) (low' : Int) (high' : Int), vs = [.int low', .int high'] ∧ Same G H ∧ cW (F_join_pair low' high') (fun v => ∀ u H' G', Same H H' → Same G G' → Same G' H' → (∀ b, H b ≠ none → G b = none → G' b = none) → Rp G' u ((encT2 PyData.int PyData.int) v) → Q u H') (fun e => ∀ H', Same H H' → E (.ref (excA AD e)) none H')
def sp__inverse_four (K : PySem.W.Frag) (AD : Ads) : Sp := fun vs H Q E => ∃ (G : Hp) (a_values : Addr) (values' : List Int), vs = [.ref a_values] ∧ Same G H ∧ (hideL [] H) a_values = some (.lst ((values' : List Int).map V.int)) ∧ cW (F__inverse_four values') (fun v => ∀ p H', H p = none → Same H H' → H' p = some (.lst (v.map V.int)) → Q (.ref p) H') (fun e => ∀ H', Same H H' → E (.ref (excA AD e)) none H')
def sp__inverse_eight (K : PySem.W.Frag) (AD : Ads) : Sp := fun vs H Q E => ∃ (G : Hp) (a_values : Addr) (values' : List Int), vs = [.ref a_values] ∧ Same G H ∧ (hideL [] H) a_values = some (.lst ((values' : List Int).map V.int)) ∧ cW (F__inverse_eight values') (fun v => ∀ p H', H p = none → Same H H' → H' p = some (.lst (v.map V.int)) → Q (.ref p) H') (fun e => ∀ H', Same H H' → E (.ref (excA AD e)) none H')
def sp_inverse (K : PySem.W.Frag) (AD : Ads) : Sp := fun vs H Q E => ∃ (G : Hp) (a_values : Addr) (values' : List Int), vs = [.ref a_values] ∧ Same G H ∧ (hideL [] H) a_values = some (.lst ((values' : List Int).map V.int)) ∧ cW (F_inverse values') (fun v => ∀ p H', H p = none → Same H H' → H' p = some (.lst (v.map V.int)) → Q (.ref p) H') (fun e => ∀ H', Same H H' → E (.ref (excA AD e)) none H')
def sp__law_cell (K : PySem.W.Frag) (AD : Ads) : Sp := fun vs H Q E => ∃ (G : Hp) (a_script : Addr) (script' : List Int) (k' : Int), vs = [.ref a_script, .int k'] ∧ Same G H ∧ SqL K H a_script ((script' : List Int).map V.int) ∧ cW (F__law_cell script' k') (fun v => Q (.int v) H) (fun e => E (.ref (excA AD e)) none H)
def sp__law_eight (K : PySem.W.Frag) (AD : Ads) : Sp := fun vs H Q E => ∃ (G : Hp) (a_x : Addr) (x' : List Int), vs = [.ref a_x] ∧ Same G H ∧ (hideL [] H) a_x = some (.lst ((x' : List Int).map V.int)) ∧ cW (F__law_eight x') (fun v => ∀ p H', H p = none → Same H H' → H' p = some (.lst (v.map V.int)) → Q (.ref p) H') (fun e => ∀ H', Same H H' → E (.ref (excA AD e)) none H')
def sp__law_is_integers (K : PySem.W.Frag) (AD : Ads) : Sp := fun vs H Q E => ∃ (G : Hp) (a_actual : Addr) (actual' : List Int) (count' : Int), vs = [.ref a_actual, .int count'] ∧ Same G H ∧ (hideL [] H) a_actual = some (.lst ((actual' : List Int).map V.int)) ∧ cW (F__law_is_integers actual' count') (fun v => ∀ H', Same H H' → Q (.bl v) H') (fun e => ∀ H', Same H H' → E (.ref (excA AD e)) none H')
def sp__law_refused (K : PySem.W.Frag) (AD : Ads) : Sp := fun vs H Q E => ∃ (G : Hp) (a_values : Addr) (values' : List Int), vs = [.ref a_values] ∧ Same G H ∧ (hideL [] H) a_values = some (.lst ((values' : List Int).map V.int)) ∧ cW (F__law_refused values') (fun v => ∀ H', Same H H' → Q (.bl v) H') (fun e => ∀ H', Same H H' → E (.ref (excA AD e)) none H')
def sp_law (K : PySem.W.Frag) (AD : Ads) : Sp := fun vs H Q E => ∃ (a_script : Addr) (script : List Int), vs = [.ref a_script] ∧ SqL K H a_script (script.map V.int) ∧ cW (F_law script) (fun v => v = true) (fun _ => False) ∧ ∀ H', Q (.bl true) H'
section
variable {P : Program} {w : World} {K : PySem.W.Frag} {mg : Str → Option Value} {base : Heap} {AD : Ads}
abbrev N__law_digits : List Str := ["cell", "base", "most", "digits", "large", "k"]
theorem sc__law_digits : FnScope N__law_digits ["cell", "base", "most"] (defScope s__law_digits) := ⟨rfl, rfl, rfl, by decide +kernel, rfl, by decide +kernel, by decide +kernel⟩
theorem ok__law_digits (D : DefX K mg "_law_digits" s__law_digits ["cell", "base", "most"] pats__law_digits) (T : Txt K mg AD)  : CalX P w K mg base 1 "_law_digits" (sp__law_digits K AD) pats__law_digits := by
  refine D.ok sc__law_digits (fun vs H Q E h => ?_) (fun f cdv A_ outer s H vs Q E hr h => ?_)
  · obtain ⟨G, cell', base', most', rfl, _⟩ := h
    rfl
  · obtain ⟨G, cell', base', most', rfl, sG, hw⟩ := h
    refine ⟨_, (pss_cons (ps_set (i := 3) sc__law_digits.nd rfl (Or.inl rfl) (pe_lst pa_nil))
      (pss_cons (ps_set (i := 4) sc__law_digits.nd rfl (Or.inl rfl) (pe_cmp (pc_ge (pv 0) (pe_op op_pow pe_int pe_int))))
      (pss_cons (ps_for (passes_of rfl) rfl (pi_range1 rfl T.b_range (pa_cons (pv 2) pa_nil)) (pg_name (i := 5) sc__law_digits.nd rfl (Or.inl rfl)) (pss_one (ps_if (pt_val (pv 4)) (pss_cons (ps_expr (pe_bm PySem.F.plainAttrs_list PySem.F.slot_list_append PySem.F.type_list_append mt_append (pv 3) (pa_cons (pe_op op_mod (pe_callTy call_int1 (by rfl) T.b_int (by decide +kernel) (pa_cons (pv 0) pa_nil)) (pv 1)) pa_nil)))
      (pss_one (ps_set (i := 0) sc__law_digits.nd rfl (Or.inl rfl) (pe_op op_fdivW (pv 0) (pv 1))))) (pss_one (ps_expr (pe_bm PySem.F.plainAttrs_list PySem.F.slot_list_append PySem.F.type_list_append mt_append (pv 3) (pa_cons (pe_op op_mod (pe_op op_mod (pe_callTy call_int1 (by rfl) T.b_int (by decide +kernel) (pa_cons (pe_op op_add (pe_op op_add (pe_op op_mul (pv 0) pe_int) (pe_op op_mul (pe_op op_mul (pe_op op_add (pv 5) pe_int) (pe_op op_add (pv 5) pe_int)) pe_int)) (pe_op op_mul (pe_op op_fdivW (pv 0) pe_int) (pv 5))) pa_nil)) pe_int) (pv 1)) pa_nil)))))))
      (pss_one (ps_ret (pv 3)))))), ?_⟩
    obtain ⟨KK, EE, hK0, hE, hw⟩ := cW_gen hw
    have S0 := Sep.startG sG
    unfold F__law_digits at hw
    refine ⟨(by show 0 ≤ sizeLine; decide), fun p1 n2 => ?_⟩
    generalize g3 : upd H p1 _ = H4
    obtain ⟨e5, h6⟩ := gen_new n2 g3
    have h7 : H4 p1 = some (.lst (([] : (List Int)).map V.int)) := h6
    have fr8 := S0.free n2
    have S9 := S0.new n2 e5 h7 fr8
    refine ⟨_, rfl, _, _, rfl, rfl, ⟨by decide, by decide, by decide⟩, _, _, rfl, rfl, ?_⟩
    have hw := cW_bnd hw
    obtain ⟨g11, hw⟩ := cW_grd hw
    obtain ⟨K14, hK15, hw⟩ := cW_push hw
    refine ⟨_, rfl, _, rfl, g11.1, g11.2, for_range (lo := 0) (n := Int.toNat (most')) (fun i σ H' => ∃ (cell_16 : Int) (digits_17 : (List Int)) (u18 : Option V) (G' : Hp), σ = [some (V.int cell_16), some (V.int (base')), some (V.int (most')), some (V.ref p1), some (V.bl (decide (((10 : Int) ^ Int.toNat 18) ≤ cell'))), u18] ∧ Same G G' ∧ Sep [] H G G' H' [p1] ∧ H' p1 = some (.lst ((digits_17 : (List Int)).map V.int)) ∧ cW (forS (List.drop i (rng (0) (Int.toNat (most')))) (cell_16, digits_17) (fun s x => F__law_digits_b1 (base') (decide (((10 : Int) ^ Int.toNat 18) ≤ cell')) (s.1) (s.2) x)) K14 EE) ?_ ?_ ?_⟩
    · exact ⟨(cell'), ([]), _, _, rfl, (Same.refl _), S9, h7, hw⟩
    · intro i σ H19 hi hw
      obtain ⟨cell_16, digits_17, u18, G22, rfl, eG23, S20, h21, hw⟩ := hw
      have hw := cW_forS (rng_get hi) hw
      generalize (0 + (i : Int)) = x24 at hw ⊢
      have hw : cW (F__law_digits_b1 (base') (decide (((10 : Int) ^ Int.toNat 18) ≤ cell')) (cell_16) (digits_17) (x24)) _ EE := hw
      unfold F__law_digits_b1 at hw
      obtain ⟨K27, hK28, hw⟩ := cW_name hw
      refine ⟨_, rfl, _, rfl, ?_⟩
      refine iteB (fun c30 => ?_) (fun c30 => ?_)
      · have hw := cW_pos c30 hw
        refine ⟨_, rfl, (.inl ⟨rfl, _, SqL.of h21⟩), _, rfl, .inl ⟨_, rfl, ?_⟩⟩
        obtain ⟨g31, hw⟩ := cW_grd hw
        obtain ⟨g32, hw⟩ := cW_grd hw
        refine ⟨_, rfl, _, _, rfl, rfl, g31, _, _, _, rfl, rfl, h21, (app_lenM g32), ?_⟩
        generalize g33 : upd H19 p1 _ = H34
        obtain ⟨x35, h36⟩ := gen_mut g33
        have h37 : H34 p1 = some (.lst (((digits_17) ++ [(cell_16 % base')] : (List Int)).map V.int)) := snoc_map h36
        have S38 := S20.mut1 x35 (.head _) h37
        have hw := cW_bnd hw
        obtain ⟨g40, hw⟩ := cW_grd hw
        refine ⟨_, rfl, _, rfl, _, _, rfl, rfl, (divW_small g40.1 g40.2), ?_⟩
        have hw := cW_bnd hw
        have hw := cW_ok hw
        have hw := hK28 _ hw
        exact ⟨((cell_16 / base')), ((digits_17) ++ [(cell_16 % base')]), _, _, rfl, eG23, S38, h37, hw⟩
      · have hw := cW_negB c30 hw
        obtain ⟨g42, hw⟩ := cW_grd hw
        obtain ⟨g43, hw⟩ := cW_grd hw
        refine ⟨_, rfl, (.inl ⟨rfl, _, SqL.of h21⟩), _, rfl, _, _, rfl, rfl, (.inr ⟨by decide, by decide⟩), _, rfl, _, _, rfl, rfl, _, rfl, _, _, rfl, rfl, _, _, rfl, rfl, g42, _, _, rfl, rfl, (.inr ⟨by decide, by decide⟩), _, _, rfl, rfl, _, rfl, _, _, rfl, rfl, (divW_lit (by decide) (by decide)), _, rfl, _, _, rfl, rfl, g43, _, _, rfl, rfl, .inl ⟨_, rfl, ?_⟩⟩
        obtain ⟨g44, hw⟩ := cW_grd hw
        obtain ⟨g45, hw⟩ := cW_grd hw
        refine ⟨_, _, rfl, rfl, (show (0 : Int) < 2147483647 by decide), _, rfl, _, _, rfl, rfl, g44, _, _, _, rfl, rfl, h21, (app_lenM g45), ?_⟩
        generalize g46 : upd H19 p1 _ = H47
        obtain ⟨x48, h49⟩ := gen_mut g46
        have h50 : H47 p1 = some (.lst (((digits_17) ++ [(((((cell_16 * 48271) + (((x24 + 1) * (x24 + 5)) * 69621)) + ((cell_16 / 97) * x24)) % 2147483647) % base')] : (List Int)).map V.int)) := snoc_map h49
        have S51 := S20.mut1 x48 (.head _) h50
        have hw := cW_bnd hw
        have hw := cW_ok hw
        have hw := hK28 _ hw
        exact ⟨(cell_16), ((digits_17) ++ [(((((cell_16 * 48271) + (((x24 + 1) * (x24 + 5)) * 69621)) + ((cell_16 / 97) * x24)) % 2147483647) % base')]), _, _, rfl, eG23, S51, h50, hw⟩
    · intro σ H53 hw
      obtain ⟨cell_16, digits_17, u18, G56, rfl, eG57, S54, h55, hw⟩ := hw
      have hw := hK15 _ (cW_forS0 (rng_len _ _).symm hw)
      have hw : cW (F__law_digits_r1  (cell_16) (digits_17)) _ EE := hw
      unfold F__law_digits_r1 at hw
      refine ⟨_, rfl, ?_⟩
      have hw := cW_ok hw
      exact hK0 _ hw _ _ fr8 S54.b0 h55

abbrev N__law_values : List Str := ["cell", "count", "digits", "base", "digit"]
theorem sc__law_values : FnScope N__law_values ["cell", "count"] (defScope s__law_values) := ⟨rfl, rfl, rfl, by decide +kernel, rfl, by decide +kernel, by decide +kernel⟩
theorem ok__law_values (D : DefX K mg "_law_values" s__law_values ["cell", "count"] pats__law_values) (T : Txt K mg AD) (c__law_digits : CalX P w K mg base 1 "_law_digits" (sp__law_digits K AD) pats__law_digits) : CalX P w K mg base 2 "_law_values" (sp__law_values K AD) pats__law_values := by
  refine D.ok sc__law_values (fun vs H Q E h => ?_) (fun f cdv A_ outer s H vs Q E hr h => ?_)
  · obtain ⟨G, cell', count', rfl, _⟩ := h
    rfl
  · obtain ⟨G, cell', count', rfl, sG, hw⟩ := h
    refine ⟨_, (pss_cons (ps_if (pt_cmp (pc_eqI (pe_op op_mod (pe_op op_fdivW (pv 0) pe_int) pe_int) pe_int)) (pss_cons (ps_set (i := 2) sc__law_values.nd rfl (Or.inl rfl) (vx_callX c__law_digits pat__law_digits_0 (.head _) hr (by decide) (takes_of rfl rfl rfl rfl) rfl (pa_cons (pv 0) (pa_cons pe_int (pa_cons (pv 1) pa_nil))) pk_nil))
      (pss_one (ps_ret (pe_lc (own := [("digit", 4)]) (g := gName 4) (by rfl) sc__law_values.nd (pi_listK (K := K) (pv 2)) (blkOk_by (own := [("digit", 4)]) (N := N__law_values) (sc := defScope s__law_values) (by decide +kernel)) (fun _ _ _ _ _ => (pg_name (i := 4) sc__law_values.nd rfl (Or.inl rfl))) (fun _ _ _ _ _ => pts_nil) (fun _ _ _ _ _ => (pe_op op_add (pe_op op_mul (pe_op op_sub (pv 4) pe_int) (pe_op op_pow pe_int pe_int)) (pv 4))))))) pss_nil)
      (pss_cons (ps_set (i := 3) sc__law_values.nd rfl (Or.inr rfl) (pe_ix (ix_listK (K := K)) (pe_lst (pa_cons pe_int (pa_cons pe_int pa_nil))) (pe_op op_mod (pe_op op_fdivW (pv 0) pe_int) pe_int) (fun _ _ => rfl)))
      (pss_cons (ps_set (i := 2) sc__law_values.nd rfl (Or.inl rfl) (vx_callX c__law_digits pat__law_digits_0 (.head _) hr (by decide) (takes_of rfl rfl rfl rfl) rfl (pa_cons (pv 0) (pa_cons (pe_op op_add (pe_op op_mul pe_int (pv 3)) pe_int) (pa_cons (pv 1) pa_nil))) pk_nil))
      (pss_one (ps_ret (pe_lc (own := [("digit", 4)]) (g := gName 4) (by rfl) sc__law_values.nd (pi_listK (K := K) (pv 2)) (blkOk_by (own := [("digit", 4)]) (N := N__law_values) (sc := defScope s__law_values) (by decide +kernel)) (fun _ _ _ _ _ => (pg_name (i := 4) sc__law_values.nd rfl (Or.inl rfl))) (fun _ _ _ _ _ => pts_nil) (fun _ _ _ _ _ => (pe_op op_sub (pv 4) (pv 3))))))))), ?_⟩
    obtain ⟨KK, EE, hK0, hE, hw⟩ := cW_gen hw
    have S0 := Sep.startG sG
    unfold F__law_values at hw
    refine ⟨_, rfl, _, _, rfl, rfl, (divW_lit (by decide) (by decide)), _, _, rfl, rfl, (show (0 : Int) < 3 by decide), _, _, rfl, rfl, _, rfl, ?_⟩
    refine iteD (fun c60 => ?_) (fun c60 => ?_)
    · have hw := cW_pos c60 hw
      refine ⟨_, rfl, _, rfl, rfl, rfl, G, _, _, _, rfl, S0.sG, cW_call hw (fun v61 hw p64 H62 n65 e63 h66 => ?_) (fun e he H2 e2 => hE e he H2 (Same.trans S0.b0 e2))⟩
      have h67 : H62 p64 = some (.lst ((v61 : (List Int)).map V.int)) := h66
      have fr68 := S0.free n65
      have S69 := S0.new n65 e63 h67 fr68
      obtain ⟨K71, hK72, hw⟩ := cW_push hw
      refine ⟨_, rfl, _, rfl, ⟨_, (SqL.of h67)⟩, fun D73 n74 => lc_list (K := K) (a := p64) (xs := (v61 : (List Int)).map V.int) (fun i H' => ∃ (G' : Hp) (acc75 : (List Int)), Same G G' ∧ Sep [] H G G' H' [D73, p64] ∧ H' p64 = some (.lst ((v61 : (List Int)).map V.int)) ∧ H' D73 = some (.lst ((acc75 : (List Int)).map V.int)) ∧ cW (mapA (List.drop i (v61)) acc75 (fun x => noEr (F__law_values_c1  x))) K71 EE) ?_ ?_ ?_ ?_⟩
      · generalize g77 : upd H62 D73 _ = H78
        obtain ⟨e79, h80⟩ := gen_new n74 g77
        have fr81 := S69.free n74
        have S82 := S69.new n74 e79 h80 fr81
        have h83 := (e79 _ _ h67)
        exact ⟨_, [], Same.refl _, S82, h83, h80, hw⟩
      · intro i H84 _ hw
        obtain ⟨G87, acc89, eG88, S85, h92, h86, hw⟩ := hw
        exact (SqL.of h92)
      · intro i x H93 hj hw
        obtain ⟨G96, acc98, eG97, S94, h101, h95, hw⟩ := hw
        obtain ⟨x102, hx, rfl⟩ := map_get hj
        obtain ⟨z103, hw⟩ := cW_mapA hx hw
        have hw := cW_noEr hw
        have hw : cW (F__law_values_c1  (x102)) _ (fun _ => False) := hw
        unfold F__law_values_c1 at hw
        refine ⟨rfl, ?_⟩
        refine tyes_go ?_
        obtain ⟨g105, hw⟩ := cW_grd hw
        refine ⟨_, rfl, _, _, rfl, rfl, _, _, rfl, rfl, ⟨by decide, by decide, by decide⟩, _, _, rfl, rfl, g105, _, rfl, _, _, rfl, rfl, _, h95, (app_lenM z103), ?_⟩
        generalize g106 : upd H93 D73 _ = H107
        obtain ⟨x108, h109⟩ := gen_mut g106
        have S110 := S94.mut1 x108 (.head _) h109
        have hw := cW_ok hw
        have h111 := (x108 _ _ h101 (ne_of_none h67 n74))
        exact ⟨_, (acc98 ++ [(((x102 - 1073741823) * ((10 : Int) ^ Int.toNat 20)) + x102)]), eG97, S110, h111, (snoc_map h109), hw⟩
      intro H112 hw
      obtain ⟨G115, acc117, eG116, S113, h120, h114, hw⟩ := hw
      have hw := hK72 _ (cW_mapA0 (by rw [List.length_map]) hw)
      have fr121 := S69.free n74
      have hw := cW_ok hw
      exact hK0 _ hw _ _ fr121 S113.b0 h114
    · have hw := cW_neg c60 hw
      refine ⟨(by show 2 ≤ sizeLine; decide), fun p122 n123 => ?_⟩
      generalize g124 : upd H p122 _ = H125
      obtain ⟨e126, h127⟩ := gen_new n123 g124
      have h128 : H125 p122 = some (.lst (([7, 8191] : (List Int)).map V.int)) := h127
      have fr129 := S0.free n123
      have S130 := S0.new n123 e126 h128 fr129
      obtain ⟨g131, hw⟩ := cW_grd hw
      refine ⟨_, rfl, _, _, rfl, rfl, (divW_lit (by decide) (by decide)), _, _, rfl, rfl, (show (0 : Int) < 3 by decide), _, _, _, _, rfl, rfl, (SqL.of h128), (atI_map g131), ?_⟩
      have hw := cW_bnd hw
      refine ⟨_, rfl, _, rfl, _, _, rfl, rfl, (.inl ⟨by decide, by decide⟩), _, _, rfl, rfl, _, rfl, rfl, rfl, G, _, _, _, rfl, S130.sG, cW_call hw (fun v133 hw p136 H134 n137 e135 h138 => ?_) (fun e he H2 e2 => hE e he H2 (Same.trans S130.b0 e2))⟩
      have h139 : H134 p136 = some (.lst ((v133 : (List Int)).map V.int)) := h138
      have fr140 := S130.free n137
      have S141 := S130.new n137 e135 h139 fr140
      obtain ⟨K144, hK145, hw⟩ := cW_push hw
      refine ⟨_, rfl, _, rfl, ⟨_, (SqL.of h139)⟩, fun D146 n147 => lc_list (K := K) (a := p136) (xs := (v133 : (List Int)).map V.int) (fun i H' => ∃ (G' : Hp) (acc148 : (List Int)), Same G G' ∧ Sep [] H G G' H' [D146, p136] ∧ H' p136 = some (.lst ((v133 : (List Int)).map V.int)) ∧ H' D146 = some (.lst ((acc148 : (List Int)).map V.int)) ∧ cW (mapA (List.drop i (v133)) acc148 (fun x => noEr (F__law_values_c2 ((itD ([7, 8191]) (((cell' / 11) % 3)))) x))) K144 EE) ?_ ?_ ?_ ?_⟩
      · generalize g150 : upd H134 D146 _ = H151
        obtain ⟨e152, h153⟩ := gen_new n147 g150
        have fr154 := S141.free n147
        have S155 := S141.new n147 e152 h153 fr154
        have h156 := (e152 _ _ h139)
        exact ⟨_, [], Same.refl _, (S155.sub (all_cons (.head _) (all_cons (.tail _ (.head _)) all_nil))), h156, h153, hw⟩
      · intro i H157 _ hw
        obtain ⟨G160, acc162, eG161, S158, h165, h159, hw⟩ := hw
        exact (SqL.of h165)
      · intro i x H166 hj hw
        obtain ⟨G169, acc171, eG170, S167, h174, h168, hw⟩ := hw
        obtain ⟨x175, hx, rfl⟩ := map_get hj
        obtain ⟨z176, hw⟩ := cW_mapA hx hw
        have hw := cW_noEr hw
        have hw : cW (F__law_values_c2 ((itD ([7, 8191]) (((cell' / 11) % 3)))) (x175)) _ (fun _ => False) := hw
        unfold F__law_values_c2 at hw
        refine ⟨rfl, ?_⟩
        refine tyes_go ?_
        refine ⟨_, rfl, _, rfl, _, _, rfl, rfl, _, h168, (app_lenM z176), ?_⟩
        generalize g178 : upd H166 D146 _ = H179
        obtain ⟨x180, h181⟩ := gen_mut g178
        have S182 := S167.mut1 x180 (.head _) h181
        have hw := cW_ok hw
        have h183 := (x180 _ _ h174 (ne_of_none h139 n147))
        exact ⟨_, (acc171 ++ [(x175 - (itD ([7, 8191]) (((cell' / 11) % 3))))]), eG170, S182, h183, (snoc_map h181), hw⟩
      intro H184 hw
      obtain ⟨G187, acc189, eG188, S185, h192, h186, hw⟩ := hw
      have hw := hK145 _ (cW_mapA0 (by rw [List.length_map]) hw)
      have fr193 := S141.free n147
      have hw := cW_ok hw
      exact hK0 _ hw _ _ fr193 S185.b0 h186

abbrev N__law_turned : List Str := ["first", "second", "outer", "inner", "high", "low"]
theorem sc__law_turned : FnScope N__law_turned ["first", "second", "outer", "inner"] (defScope s__law_turned) := ⟨rfl, rfl, rfl, by decide +kernel, rfl, by decide +kernel, by decide +kernel⟩
theorem ok__law_turned (D : DefX K mg "_law_turned" s__law_turned ["first", "second", "outer", "inner"] pats__law_turned) (T : Txt K mg AD)  : CalX P w K mg base 1 "_law_turned" (sp__law_turned K AD) pats__law_turned := by
  refine D.ok sc__law_turned (fun vs H Q E h => ?_) (fun f cdv A_ outer s H vs Q E hr h => ?_)
  · obtain ⟨G, first', second', outer', inner', rfl, _⟩ := h
    rfl
  · obtain ⟨G, first', second', outer', inner', rfl, sG, hw⟩ := h
    refine ⟨_, (pss_cons (ps_set (i := 4) sc__law_turned.nd rfl (Or.inl rfl) (pe_op op_add (pv 1) (pe_op op_shr (pe_op op_add (pe_op op_mul (pv 2) (pv 0)) pe_int) pe_int)))
      (pss_cons (ps_set (i := 5) sc__law_turned.nd rfl (Or.inl rfl) (pe_op op_sub (pv 0) (pe_op op_shr (pe_op op_add (pe_op op_mul (pv 3) (pv 4)) pe_int) pe_int)))
      (pss_one (ps_ret (pe_lst (pa_cons (pv 5) (pa_cons (pe_op op_add (pv 4) (pe_op op_shr (pe_op op_add (pe_op op_mul (pv 2) (pv 5)) pe_int) pe_int)) pa_nil))))))), ?_⟩
    obtain ⟨KK, EE, hK0, hE, hw⟩ := cW_gen hw
    have S0 := Sep.startG sG
    unfold F__law_turned at hw
    obtain ⟨g194, hw⟩ := cW_grd hw
    refine ⟨_, rfl, _, rfl, _, rfl, _, _, rfl, rfl, g194, _, _, rfl, rfl, _, _, rfl, rfl, (show (0 : Int) ≤ 5 by decide), _, _, rfl, rfl, ?_⟩
    have hw := cW_bnd hw
    obtain ⟨g196, hw⟩ := cW_grd hw
    refine ⟨_, rfl, _, rfl, _, rfl, _, _, rfl, rfl, g196, _, _, rfl, rfl, _, _, rfl, rfl, (show (0 : Int) ≤ 5 by decide), _, _, rfl, rfl, ?_⟩
    have hw := cW_bnd hw
    obtain ⟨g198, hw⟩ := cW_grd hw
    refine ⟨_, rfl, _, rfl, _, rfl, _, rfl, _, _, rfl, rfl, g198, _, _, rfl, rfl, _, _, rfl, rfl, (show (0 : Int) ≤ 5 by decide), _, _, rfl, rfl, (by show 2 ≤ sizeLine; decide), fun p199 n200 => ?_⟩
    generalize g201 : upd H p199 _ = H202
    obtain ⟨e203, h204⟩ := gen_new n200 g201
    have h205 : H202 p199 = some (.lst (([(first' - (((inner' * (second' + (((outer' * first') + 16) / 32))) + 16) / 32)), ((second' + (((outer' * first') + 16) / 32)) + (((outer' * (first' - (((inner' * (second' + (((outer' * first') + 16) / 32))) + 16) / 32))) + 16) / 32))] : (List Int)).map V.int)) := h204
    have fr206 := S0.free n200
    have S207 := S0.new n200 e203 h205 fr206
    have hw := cW_ok hw
    exact hK0 _ hw _ _ fr206 S207.b0 h205

abbrev N__law_four : List Str := ["x", "low", "odd"]
theorem sc__law_four : FnScope N__law_four ["x"] (defScope s__law_four) := ⟨rfl, rfl, rfl, by decide +kernel, rfl, by decide +kernel, by decide +kernel⟩
theorem ok__law_four (D : DefX K mg "_law_four" s__law_four ["x"] pats__law_four) (T : Txt K mg AD) (c__law_turned : CalX P w K mg base 1 "_law_turned" (sp__law_turned K AD) pats__law_turned) : CalX P w K mg base 2 "_law_four" (sp__law_four K AD) pats__law_four := by
  refine D.ok sc__law_four (fun vs H Q E h => ?_) (fun f cdv A_ outer s H vs Q E hr h => ?_)
  · obtain ⟨G, a_x, x', rfl, _⟩ := h
    rfl
  · obtain ⟨G, a_x, x', rfl, sG, q_x, hw⟩ := h
    refine ⟨_, (pss_cons (ps_set (i := 1) sc__law_four.nd rfl (Or.inl rfl) (pe_lst (pa_cons (pe_op op_shr (pe_op op_add (pe_ix (ix_listK (K := K)) (pv 0) pe_int (fun _ _ => rfl)) (pe_ix (ix_listK (K := K)) (pv 0) pe_int (fun _ _ => rfl))) pe_int) (pa_cons (pe_op op_shr (pe_op op_add (pe_ix (ix_listK (K := K)) (pv 0) pe_int (fun _ _ => rfl)) (pe_ix (ix_listK (K := K)) (pv 0) pe_int (fun _ _ => rfl))) pe_int) pa_nil))))
      (pss_cons (ps_set (i := 2) sc__law_four.nd rfl (Or.inl rfl) (vx_callX c__law_turned pat__law_turned_0 (.head _) hr (by decide) (takes_of rfl rfl rfl rfl) rfl (pa_cons (pe_op op_sub (pe_ix (ix_listK (K := K)) (pv 0) pe_int (fun _ _ => rfl)) (pe_ix (ix_listK (K := K)) (pv 0) pe_int (fun _ _ => rfl))) (pa_cons (pe_op op_sub (pe_ix (ix_listK (K := K)) (pv 0) pe_int (fun _ _ => rfl)) (pe_ix (ix_listK (K := K)) (pv 0) pe_int (fun _ _ => rfl))) (pa_cons pe_int (pa_cons pe_int pa_nil)))) pk_nil))
      (pss_one (ps_ret (pe_lst (pa_cons (pe_op op_shr (pe_op op_add (pe_ix (ix_listK (K := K)) (pv 1) pe_int (fun _ _ => rfl)) (pe_ix (ix_listK (K := K)) (pv 1) pe_int (fun _ _ => rfl))) pe_int) (pa_cons (pe_ix (ix_listK (K := K)) (pv 2) pe_int (fun _ _ => rfl)) (pa_cons (pe_op op_sub (pe_ix (ix_listK (K := K)) (pv 1) pe_int (fun _ _ => rfl)) (pe_ix (ix_listK (K := K)) (pv 1) pe_int (fun _ _ => rfl))) (pa_cons (pe_ix (ix_listK (K := K)) (pv 2) pe_int (fun _ _ => rfl)) pa_nil))))))))), ?_⟩
    obtain ⟨KK, EE, hK0, hE, hw⟩ := cW_gen hw
    have S0 := Sep.startG sG
    unfold F__law_four at hw
    obtain ⟨g208, hw⟩ := cW_grd hw
    obtain ⟨g209, hw⟩ := cW_grd hw
    obtain ⟨g210, hw⟩ := cW_grd hw
    obtain ⟨g211, hw⟩ := cW_grd hw
    refine ⟨_, rfl, _, _, _, _, rfl, rfl, (SqL.of (S0.bM _ _ q_x)), (atI_map g208), _, rfl, _, _, _, _, rfl, rfl, (SqL.of (S0.bM _ _ q_x)), (atI_map g209), _, _, rfl, rfl, _, _, rfl, rfl, (show (0 : Int) ≤ 1 by decide), _, rfl, _, _, _, _, rfl, rfl, (SqL.of (S0.bM _ _ q_x)), (atI_map g210), _, rfl, _, _, _, _, rfl, rfl, (SqL.of (S0.bM _ _ q_x)), (atI_map g211), _, _, rfl, rfl, _, _, rfl, rfl, (show (0 : Int) ≤ 1 by decide), (by show 2 ≤ sizeLine; decide), fun p212 n213 => ?_⟩
    generalize g214 : upd H p212 _ = H215
    obtain ⟨e216, h217⟩ := gen_new n213 g214
    have h218 : H215 p212 = some (.lst (([(((itD (x') (0)) + (itD (x') (3))) / 2), (((itD (x') (1)) + (itD (x') (2))) / 2)] : (List Int)).map V.int)) := h217
    have fr219 := S0.free n213
    have S220 := S0.new n213 e216 h218 fr219
    obtain ⟨g221, hw⟩ := cW_grd hw
    obtain ⟨g222, hw⟩ := cW_grd hw
    obtain ⟨g223, hw⟩ := cW_grd hw
    obtain ⟨g224, hw⟩ := cW_grd hw
    refine ⟨_, rfl, _, _, _, _, rfl, rfl, (SqL.of (S220.bM _ _ q_x)), (atI_map g221), _, rfl, _, _, _, _, rfl, rfl, (SqL.of (S220.bM _ _ q_x)), (atI_map g222), _, _, rfl, rfl, _, rfl, _, _, _, _, rfl, rfl, (SqL.of (S220.bM _ _ q_x)), (atI_map g223), _, rfl, _, _, _, _, rfl, rfl, (SqL.of (S220.bM _ _ q_x)), (atI_map g224), _, _, rfl, rfl, rfl, rfl, G, _, _, _, _, rfl, S220.sG, cW_call hw (fun v225 hw p228 H226 n229 e227 h230 => ?_) (fun e he H2 e2 => hE e he H2 (Same.trans S220.b0 e2))⟩
    have h231 : H226 p228 = some (.lst ((v225 : (List Int)).map V.int)) := h230
    have fr232 := S220.free n229
    have S233 := S220.new n229 e227 h231 fr232
    obtain ⟨g234, hw⟩ := cW_grd hw
    have h235 := (e227 _ _ h218)
    obtain ⟨g236, hw⟩ := cW_grd hw
    obtain ⟨g237, hw⟩ := cW_grd hw
    obtain ⟨g238, hw⟩ := cW_grd hw
    obtain ⟨g239, hw⟩ := cW_grd hw
    obtain ⟨g240, hw⟩ := cW_grd hw
    refine ⟨_, rfl, _, _, _, _, rfl, rfl, (SqL.of h235), (atI_map g234), _, rfl, _, _, _, _, rfl, rfl, (SqL.of h235), (atI_map g236), _, _, rfl, rfl, _, _, rfl, rfl, (show (0 : Int) ≤ 1 by decide), _, rfl, _, _, _, _, rfl, rfl, (SqL.of h231), (atI_map g237), _, rfl, _, _, _, _, rfl, rfl, (SqL.of h235), (atI_map g238), _, rfl, _, _, _, _, rfl, rfl, (SqL.of h235), (atI_map g239), _, _, rfl, rfl, _, rfl, _, _, _, _, rfl, rfl, (SqL.of h231), (atI_map g240), (by show 4 ≤ sizeLine; decide), fun p241 n242 => ?_⟩
    generalize g243 : upd H226 p241 _ = H244
    obtain ⟨e245, h246⟩ := gen_new n242 g243
    have h247 : H244 p241 = some (.lst (([(((itD ([(((itD (x') (0)) + (itD (x') (3))) / 2), (((itD (x') (1)) + (itD (x') (2))) / 2)]) (0)) + (itD ([(((itD (x') (0)) + (itD (x') (3))) / 2), (((itD (x') (1)) + (itD (x') (2))) / 2)]) (1))) / 2), (itD (v225) (0)), ((itD ([(((itD (x') (0)) + (itD (x') (3))) / 2), (((itD (x') (1)) + (itD (x') (2))) / 2)]) (0)) - (itD ([(((itD (x') (0)) + (itD (x') (3))) / 2), (((itD (x') (1)) + (itD (x') (2))) / 2)]) (1))), (itD (v225) (1))] : (List Int)).map V.int)) := h246
    have fr248 := S233.free n242
    have S249 := S233.new n242 e245 h247 fr248
    have hw := cW_ok hw
    exact hK0 _ hw _ _ fr248 S249.b0 h247

abbrev N_check_size : List Str := ["size"]
theorem sc_check_size : FnScope N_check_size ["size"] (defScope s_check_size) := ⟨rfl, rfl, rfl, by decide +kernel, rfl, by decide +kernel, by decide +kernel⟩
theorem ok_check_size (D : DefX K mg "check_size" s_check_size ["size"] pats_check_size) (T : Txt K mg AD)  : CalX P w K mg base 1 "check_size" (sp_check_size K AD) pats_check_size := by
  refine D.ok sc_check_size (fun vs H Q E h => ?_) (fun f cdv A_ outer s H vs Q E hr h => ?_)
  · obtain ⟨G, size', rfl, _⟩ := h
    rfl
  · obtain ⟨G, size', rfl, sG, hw⟩ := h
    refine ⟨_, (pss_one (ps_if (pt_cmpR (op_notInI (K := K)) (pv 0) (C8.pe_gc (v := V.ref AD.t_SIZES) rfl T.g_SIZES) (by with_unfolding_all rfl)) (pss_one (ps_raise rfl (takes_of rfl rfl rfl rfl) (pmk_own PySem.F.excBase_ValueError T.xx_OutOfRange T.xg_OutOfRange T.xk_OutOfRange (raises_own T.xb_OutOfRange T.xt_OutOfRange) rfl))) pss_nil)), ?_⟩
    obtain ⟨KK, EE, hK0, hE, hw⟩ := cW_gen hw
    have S0 := Sep.startG sG
    unfold F_check_size at hw
    refine ⟨_, rfl, _, _, ([4, 8] : List Int), rfl, rfl, (.inr (T.ts_SIZES _)), _, rfl, ?_⟩
    refine iteN (fun c250 => ?_) (fun c250 => ?_)
    · have hw := cW_neg c250 hw
      exact hE 1 (cW_er hw)
    · have hw := cW_pos c250 hw
      have hw := cW_ok hw
      exact hK0 _ hw

abbrev N_split_pair : List Str := ["first", "second"]
theorem sc_split_pair : FnScope N_split_pair ["first", "second"] (defScope s_split_pair) := ⟨rfl, rfl, rfl, by decide +kernel, rfl, by decide +kernel, by decide +kernel⟩
theorem ok_split_pair (D : DefX K mg "split_pair" s_split_pair ["first", "second"] pats_split_pair) (T : Txt K mg AD)  : CalX P w K mg base 1 "split_pair" (sp_split_pair K AD) pats_split_pair := by
  refine D.ok sc_split_pair (fun vs H Q E h => ?_) (fun f cdv A_ outer s H vs Q E hr h => ?_)
  · obtain ⟨G, first', second', rfl, _⟩ := h
    rfl
  · obtain ⟨G, first', second', rfl, sG, hw⟩ := h
    refine ⟨_, (pss_one (ps_ret (pe_tup (pa_cons (pe_op op_shr (pe_op op_add (pv 0) (pv 1)) pe_int) (pa_cons (pe_op op_sub (pv 0) (pv 1)) pa_nil))))), ?_⟩
    obtain ⟨KK, EE, hK0, hE, hw⟩ := cW_gen hw
    have S0 := Sep.startG sG
    unfold F_split_pair at hw
    refine ⟨_, rfl, _, rfl, _, _, rfl, rfl, _, _, rfl, rfl, (show (0 : Int) ≤ 1 by decide), _, rfl, _, rfl, _, _, rfl, rfl, (by show 2 ≤ sizeLine; decide), fun p251 n252 => ?_⟩
    generalize g253 : upd H p251 _ = H254
    obtain ⟨e255, h256⟩ := gen_new n252 g253
    have h257 : H254 p251 = some (.tup [V.int (((first' + second') / 2)), V.int ((first' - second'))]) := h256
    have fr258 := S0.free n252
    obtain ⟨G260, eG261, hg262, S259⟩ := S0.grow n252 e255 h257 fr258
    have hw := cW_ok hw
    exact hK0 _ hw _ _ _ S259.b0 S259.g0 S259.sG S259.gn (rp_mk2 hg262 (.int _) (.int _))

abbrev N_turn_pair : List Str := ["first", "second", "outer", "inner"]
theorem sc_turn_pair : FnScope N_turn_pair ["first", "second", "outer", "inner"] (defScope s_turn_pair) := ⟨rfl, rfl, rfl, by decide +kernel, rfl, by decide +kernel, by decide +kernel⟩
theorem ok_turn_pair (D : DefX K mg "turn_pair" s_turn_pair ["first", "second", "outer", "inner"] pats_turn_pair) (T : Txt K mg AD)  : CalX P w K mg base 1 "turn_pair" (sp_turn_pair K AD) pats_turn_pair := by
  refine D.ok sc_turn_pair (fun vs H Q E h => ?_) (fun f cdv A_ outer s H vs Q E hr h => ?_)
  · obtain ⟨G, first', second', outer', inner', rfl, _⟩ := h
    rfl
  · obtain ⟨G, first', second', outer', inner', rfl, sG, hw⟩ := h
    refine ⟨_, (pss_cons (ps_aug (i := 1) sc_turn_pair.nd rfl (Or.inl rfl) (pe_op op_shr (pe_op op_add (pe_op op_mul (pv 2) (pv 0)) pe_int) pe_int) (pip iop_add))
      (pss_cons (ps_aug (i := 0) sc_turn_pair.nd rfl (Or.inl rfl) (pe_op op_shr (pe_op op_add (pe_op op_mul (pv 3) (pv 1)) pe_int) pe_int) (pip iop_sub))
      (pss_cons (ps_aug (i := 1) sc_turn_pair.nd rfl (Or.inl rfl) (pe_op op_shr (pe_op op_add (pe_op op_mul (pv 2) (pv 0)) pe_int) pe_int) (pip iop_add))
      (pss_one (ps_ret (pe_tup (pa_cons (pv 0) (pa_cons (pv 1) pa_nil)))))))), ?_⟩
    obtain ⟨KK, EE, hK0, hE, hw⟩ := cW_gen hw
    have S0 := Sep.startG sG
    unfold F_turn_pair at hw
    obtain ⟨g263, hw⟩ := cW_grd hw
    refine ⟨_, rfl, _, rfl, _, rfl, _, _, rfl, rfl, g263, _, _, rfl, rfl, _, _, rfl, rfl, (show (0 : Int) ≤ 5 by decide), _, _, rfl, rfl, ?_⟩
    have hw := cW_bnd hw
    obtain ⟨g265, hw⟩ := cW_grd hw
    refine ⟨_, rfl, _, rfl, _, rfl, _, _, rfl, rfl, g265, _, _, rfl, rfl, _, _, rfl, rfl, (show (0 : Int) ≤ 5 by decide), _, _, rfl, rfl, ?_⟩
    have hw := cW_bnd hw
    obtain ⟨g267, hw⟩ := cW_grd hw
    refine ⟨_, rfl, _, rfl, _, rfl, _, _, rfl, rfl, g267, _, _, rfl, rfl, _, _, rfl, rfl, (show (0 : Int) ≤ 5 by decide), _, _, rfl, rfl, ?_⟩
    have hw := cW_bnd hw
    refine ⟨_, rfl, _, rfl, (by show 2 ≤ sizeLine; decide), fun p269 n270 => ?_⟩
    generalize g271 : upd H p269 _ = H272
    obtain ⟨e273, h274⟩ := gen_new n270 g271
    have h275 : H272 p269 = some (.tup [V.int ((first' - (((inner' * (second' + (((outer' * first') + 16) / 32))) + 16) / 32))), V.int (((second' + (((outer' * first') + 16) / 32)) + (((outer' * (first' - (((inner' * (second' + (((outer' * first') + 16) / 32))) + 16) / 32))) + 16) / 32)))]) := h274
    have fr276 := S0.free n270
    obtain ⟨G278, eG279, hg280, S277⟩ := S0.grow n270 e273 h275 fr276
    have hw := cW_ok hw
    exact hK0 _ hw _ _ _ S277.b0 S277.g0 S277.sG S277.gn (rp_mk2 hg280 (.int _) (.int _))

abbrev N__forward_four : List Str := ["values", "x0", "x1", "x2", "x3", "l0", "h0", "l1", "h1", "c0", "c2", "c1", "c3"]
theorem sc__forward_four : FnScope N__forward_four ["values"] (defScope s__forward_four) := ⟨rfl, rfl, rfl, by decide +kernel, rfl, by decide +kernel, by decide +kernel⟩
theorem ok__forward_four (D : DefX K mg "_forward_four" s__forward_four ["values"] pats__forward_four) (T : Txt K mg AD) (c_split_pair : CalX P w K mg base 1 "split_pair" (sp_split_pair K AD) pats_split_pair) (c_turn_pair : CalX P w K mg base 1 "turn_pair" (sp_turn_pair K AD) pats_turn_pair) : CalX P w K mg base 2 "_forward_four" (sp__forward_four K AD) pats__forward_four := by
  refine D.ok sc__forward_four (fun vs H Q E h => ?_) (fun f cdv A_ outer s H vs Q E hr h => ?_)
  · obtain ⟨G, a_values, values', rfl, _⟩ := h
    rfl
  · obtain ⟨G, a_values, values', rfl, sG, q_values, hw⟩ := h
    refine ⟨_, (C8.pss_cut (ps_asg (pv 0) (pg_seqK (K := K) (n := 4) (pgs_cons (pg_name (i := 1) sc__forward_four.nd rfl (Or.inl rfl)) (pgs_cons (pg_name (i := 2) sc__forward_four.nd rfl (Or.inl rfl)) (pgs_cons (pg_name (i := 3) sc__forward_four.nd rfl (Or.inl rfl)) (pgs_cons (pg_name (i := 4) sc__forward_four.nd rfl (Or.inl rfl)) pgs_nil))))))
      (C8.pss_cut (ps_asg (vx_callX c_split_pair pat_split_pair_0 (.head _) hr (by decide) (takes_of rfl rfl rfl rfl) rfl (pa_cons (pv 1) (pa_cons (pv 4) pa_nil)) pk_nil) (pg_tupK (K := K) (n := 2) (pgs_cons (pg_name (i := 5) sc__forward_four.nd rfl (Or.inl rfl)) (pgs_cons (pg_name (i := 6) sc__forward_four.nd rfl (Or.inl rfl)) pgs_nil))))
      (C8.pss_cut (ps_asg (vx_callX c_split_pair pat_split_pair_0 (.head _) hr (by decide) (takes_of rfl rfl rfl rfl) rfl (pa_cons (pv 2) (pa_cons (pv 3) pa_nil)) pk_nil) (pg_tupK (K := K) (n := 2) (pgs_cons (pg_name (i := 7) sc__forward_four.nd rfl (Or.inl rfl)) (pgs_cons (pg_name (i := 8) sc__forward_four.nd rfl (Or.inl rfl)) pgs_nil))))
      (C8.pss_cut (ps_asg (vx_callX c_split_pair pat_split_pair_0 (.head _) hr (by decide) (takes_of rfl rfl rfl rfl) rfl (pa_cons (pv 5) (pa_cons (pv 7) pa_nil)) pk_nil) (pg_tupK (K := K) (n := 2) (pgs_cons (pg_name (i := 9) sc__forward_four.nd rfl (Or.inl rfl)) (pgs_cons (pg_name (i := 10) sc__forward_four.nd rfl (Or.inl rfl)) pgs_nil))))
      (C8.pss_cut (ps_asg (vx_callX c_turn_pair pat_turn_pair_0 (.head _) hr (by decide) (takes_of rfl rfl rfl rfl) rfl (pa_cons (pv 6) (pa_cons (pv 8) pa_nil)) (pk_cons pe_int (pk_cons pe_int pk_nil))) (pg_tupK (K := K) (n := 2) (pgs_cons (pg_name (i := 11) sc__forward_four.nd rfl (Or.inl rfl)) (pgs_cons (pg_name (i := 12) sc__forward_four.nd rfl (Or.inl rfl)) pgs_nil))))
      (pss_one (ps_ret (pe_lst (pa_cons (pv 9) (pa_cons (pv 11) (pa_cons (pv 10) (pa_cons (pv 12) pa_nil)))))))))))), ?_⟩
    obtain ⟨KK, EE, hK0, hE, hw⟩ := cW_gen hw
    have S0 := Sep.startG sG
    unfold F__forward_four at hw
    refine ⟨fun σ H' => ∃ (x0_285 : Int) (x1_286 : Int) (x2_287 : Int) (x3_288 : Int) (G' : Hp), σ = [some (V.ref a_values), some (V.int x0_285), some (V.int x1_286), some (V.int x2_287), some (V.int x3_288), none, none, none, none, none, none, none, none] ∧ Same G G' ∧ Sep [] H G G' H' [] ∧ cW (F__forward_four_k1  x0_285 x1_286 x2_287 x3_288) KK EE, ?_, ?_⟩
    · obtain ⟨K289, hK290, hw⟩ := cW_push hw
      obtain ⟨g291, hw⟩ := cW_grd hw
      refine ⟨_, rfl, _, [V.int ((itD (values') 0)), V.int ((itD (values') 1)), V.int ((itD (values') 2)), V.int ((itD (values') 3))], rfl, (SqL.cast (SqL.of (S0.bM _ _ q_values)) (unp4 g291)), rfl, _, _, rfl, _, _, rfl, _, _, rfl, _, _, rfl, rfl, ?_⟩
      have hw := cW_bnd hw
      have hw := cW_bnd hw
      have hw := cW_bnd hw
      have hw := cW_bnd hw
      have hw := cW_ok hw
      have hw := hK290 _ hw
      exact ⟨((itD (values') 0)), ((itD (values') 1)), ((itD (values') 2)), ((itD (values') 3)), _, rfl, (Same.refl _), S0, hw⟩
    · intro σ H296 hw
      obtain ⟨x0_285, x1_286, x2_287, x3_288, G298, rfl, eG299, S297, hw⟩ := hw
      unfold F__forward_four_k1 at hw
      refine ⟨fun σ H' => ∃ (l0_304 : Int) (h0_305 : Int) (G' : Hp), σ = [some (V.ref a_values), some (V.int (x0_285)), some (V.int (x1_286)), some (V.int (x2_287)), some (V.int (x3_288)), some (V.int l0_304), some (V.int h0_305), none, none, none, none, none, none] ∧ Same G298 G' ∧ Sep [] H G G' H' [] ∧ cW (F__forward_four_k2 (x1_286) (x2_287) l0_304 h0_305) KK EE, ?_, ?_⟩
      · obtain ⟨K306, hK307, hw⟩ := cW_push hw
        refine ⟨_, rfl, _, rfl, rfl, rfl, G298, _, _, rfl, S297.sG, cW_call hw (fun v308 hw v311 H309 G312 e310 eG313 sG314 hn315 r316 => ?_) (fun e he H2 e2 => hE e he H2 (Same.trans S297.b0 e2))⟩
        have S317 := S297.step e310 eG313 sG314 hn315
        obtain ⟨a318, v320, v321, rfl, h319, r322, r323⟩ := rp_tup2 r316
        obtain rfl := rp_int r322
        obtain rfl := rp_int r323
        refine ⟨_, _, rfl, (SqT.of (S317.sG _ _ h319)), rfl, _, _, rfl, _, _, rfl, rfl, ?_⟩
        have hw := cW_ok hw
        have hw := hK307 _ hw
        exact ⟨(v308.1), (v308.2), _, rfl, eG313, S317, hw⟩
      · intro σ H324 hw
        obtain ⟨l0_304, h0_305, G326, rfl, eG327, S325, hw⟩ := hw
        unfold F__forward_four_k2 at hw
        refine ⟨fun σ H' => ∃ (l1_332 : Int) (h1_333 : Int) (G' : Hp), σ = [some (V.ref a_values), some (V.int (x0_285)), some (V.int (x1_286)), some (V.int (x2_287)), some (V.int (x3_288)), some (V.int (l0_304)), some (V.int (h0_305)), some (V.int l1_332), some (V.int h1_333), none, none, none, none] ∧ Same G326 G' ∧ Sep [] H G G' H' [] ∧ cW (F__forward_four_k3 (l0_304) (h0_305) l1_332 h1_333) KK EE, ?_, ?_⟩
        · obtain ⟨K334, hK335, hw⟩ := cW_push hw
          refine ⟨_, rfl, _, rfl, rfl, rfl, G326, _, _, rfl, S325.sG, cW_call hw (fun v336 hw v339 H337 G340 e338 eG341 sG342 hn343 r344 => ?_) (fun e he H2 e2 => hE e he H2 (Same.trans S325.b0 e2))⟩
          have S345 := S325.step e338 eG341 sG342 hn343
          obtain ⟨a346, v348, v349, rfl, h347, r350, r351⟩ := rp_tup2 r344
          obtain rfl := rp_int r350
          obtain rfl := rp_int r351
          refine ⟨_, _, rfl, (SqT.of (S345.sG _ _ h347)), rfl, _, _, rfl, _, _, rfl, rfl, ?_⟩
          have hw := cW_ok hw
          have hw := hK335 _ hw
          exact ⟨(v336.1), (v336.2), _, rfl, eG341, S345, hw⟩
        · intro σ H352 hw
          obtain ⟨l1_332, h1_333, G354, rfl, eG355, S353, hw⟩ := hw
          unfold F__forward_four_k3 at hw
          refine ⟨fun σ H' => ∃ (c0_360 : Int) (c2_361 : Int) (G' : Hp), σ = [some (V.ref a_values), some (V.int (x0_285)), some (V.int (x1_286)), some (V.int (x2_287)), some (V.int (x3_288)), some (V.int (l0_304)), some (V.int (h0_305)), some (V.int (l1_332)), some (V.int (h1_333)), some (V.int c0_360), some (V.int c2_361), none, none] ∧ Same G354 G' ∧ Sep [] H G G' H' [] ∧ cW (F__forward_four_k4 (h0_305) (h1_333) c0_360 c2_361) KK EE, ?_, ?_⟩
          · obtain ⟨K362, hK363, hw⟩ := cW_push hw
            refine ⟨_, rfl, _, rfl, rfl, rfl, G354, _, _, rfl, S353.sG, cW_call hw (fun v364 hw v367 H365 G368 e366 eG369 sG370 hn371 r372 => ?_) (fun e he H2 e2 => hE e he H2 (Same.trans S353.b0 e2))⟩
            have S373 := S353.step e366 eG369 sG370 hn371
            obtain ⟨a374, v376, v377, rfl, h375, r378, r379⟩ := rp_tup2 r372
            obtain rfl := rp_int r378
            obtain rfl := rp_int r379
            refine ⟨_, _, rfl, (SqT.of (S373.sG _ _ h375)), rfl, _, _, rfl, _, _, rfl, rfl, ?_⟩
            have hw := cW_ok hw
            have hw := hK363 _ hw
            exact ⟨(v364.1), (v364.2), _, rfl, eG369, S373, hw⟩
          · intro σ H380 hw
            obtain ⟨c0_360, c2_361, G382, rfl, eG383, S381, hw⟩ := hw
            unfold F__forward_four_k4 at hw
            refine ⟨fun σ H' => ∃ (c1_388 : Int) (c3_389 : Int) (G' : Hp), σ = [some (V.ref a_values), some (V.int (x0_285)), some (V.int (x1_286)), some (V.int (x2_287)), some (V.int (x3_288)), some (V.int (l0_304)), some (V.int (h0_305)), some (V.int (l1_332)), some (V.int (h1_333)), some (V.int (c0_360)), some (V.int (c2_361)), some (V.int c1_388), some (V.int c3_389)] ∧ Same G382 G' ∧ Sep [] H G G' H' [] ∧ cW (F__forward_four_k5 (c0_360) (c2_361) c1_388 c3_389) KK EE, ?_, ?_⟩
            · obtain ⟨K390, hK391, hw⟩ := cW_push hw
              refine ⟨_, rfl, _, rfl, rfl, rfl, G382, _, _, _, _, rfl, S381.sG, cW_call hw (fun v392 hw v395 H393 G396 e394 eG397 sG398 hn399 r400 => ?_) (fun e he H2 e2 => hE e he H2 (Same.trans S381.b0 e2))⟩
              have S401 := S381.step e394 eG397 sG398 hn399
              obtain ⟨a402, v404, v405, rfl, h403, r406, r407⟩ := rp_tup2 r400
              obtain rfl := rp_int r406
              obtain rfl := rp_int r407
              refine ⟨_, _, rfl, (SqT.of (S401.sG _ _ h403)), rfl, _, _, rfl, _, _, rfl, rfl, ?_⟩
              have hw := cW_ok hw
              have hw := hK391 _ hw
              exact ⟨(v392.1), (v392.2), _, rfl, eG397, S401, hw⟩
            · intro σ H408 hw
              obtain ⟨c1_388, c3_389, G410, rfl, eG411, S409, hw⟩ := hw
              unfold F__forward_four_k5 at hw
              refine ⟨_, rfl, _, rfl, _, rfl, _, rfl, (by show 4 ≤ sizeLine; decide), fun p412 n413 => ?_⟩
              generalize g414 : upd H408 p412 _ = H415
              obtain ⟨e416, h417⟩ := gen_new n413 g414
              have h418 : H415 p412 = some (.lst (([c0_360, c1_388, c2_361, c3_389] : (List Int)).map V.int)) := h417
              have fr419 := S409.free n413
              have S420 := S409.new n413 e416 h418 fr419
              have hw := cW_ok hw
              exact hK0 _ hw _ _ fr419 S420.b0 h418

abbrev N__forward_eight : List Str := ["values", "pairs", "h0", "h1", "h2", "h3", "e0", "e1", "e2", "e3", "d0", "d3", "d1", "d2", "f0", "f1", "f2", "f3", "k", "_", "high", "low"]
theorem sc__forward_eight : FnScope N__forward_eight ["values"] (defScope s__forward_eight) := ⟨rfl, rfl, rfl, by decide +kernel, rfl, by decide +kernel, by decide +kernel⟩
theorem ok__forward_eight (D : DefX K mg "_forward_eight" s__forward_eight ["values"] pats__forward_eight) (T : Txt K mg AD) (c_split_pair : CalX P w K mg base 1 "split_pair" (sp_split_pair K AD) pats_split_pair) (c__forward_four : CalX P w K mg base 2 "_forward_four" (sp__forward_four K AD) pats__forward_four) (c_turn_pair : CalX P w K mg base 1 "turn_pair" (sp_turn_pair K AD) pats_turn_pair) : CalX P w K mg base 3 "_forward_eight" (sp__forward_eight K AD) pats__forward_eight := by
  refine D.ok sc__forward_eight (fun vs H Q E h => ?_) (fun f cdv A_ outer s H vs Q E hr h => ?_)
  · obtain ⟨G, a_values, values', rfl, _⟩ := h
    rfl
  · obtain ⟨G, a_values, values', rfl, sG, q_values, hw⟩ := h
    refine ⟨_, (C8.pss_cut (ps_setLc (i := 1) (y := "pairs") rfl sc__forward_eight.nd rfl rfl (sw_true rfl rfl rfl (by decide +kernel)) (own := [("k", 18)]) (g := gName 18) (pi_range1 rfl T.b_range (pa_cons pe_int pa_nil)) (blkOk_by (own := [("k", 18)]) (N := N__forward_eight) (sc := defScope s__forward_eight) (by decide +kernel)) (fun _ _ _ _ _ => (pg_name (i := 18) sc__forward_eight.nd rfl (Or.inl rfl))) (fun _ _ _ _ _ => pts_nil) (fun _ _ _ _ _ => (vx_callX c_split_pair pat_split_pair_0 (.head _) hr (by decide) takes0 rfl (pa_cons (pe_ix (ix_listK (K := K)) (pv 0) (pv 18) (fun _ _ => rfl)) (pa_cons (pe_ix (ix_listK (K := K)) (pv 0) (pe_op op_sub pe_int (pv 18)) (fun _ _ => rfl)) pa_nil)) pk_nil)))
      (C8.pss_cut (ps_asg (pe_lc (own := [("_", 19), ("high", 20)]) (g := gTup K 2 (gCons (gName 19) (gCons (gName 20) gNil))) (by rfl) sc__forward_eight.nd (pi_listK (K := K) (pv 1)) (blkOk_by (own := [("_", 19), ("high", 20)]) (N := N__forward_eight) (sc := defScope s__forward_eight) (by decide +kernel)) (fun _ _ _ _ _ => (pg_tupK (K := K) (n := 2) (pgs_cons (pg_name (i := 19) sc__forward_eight.nd rfl (Or.inl rfl)) (pgs_cons (pg_name (i := 20) sc__forward_eight.nd rfl (Or.inl rfl)) pgs_nil)))) (fun _ _ _ _ _ => pts_nil) (fun _ _ _ _ _ => (pv 20))) (pg_seqK (K := K) (n := 4) (pgs_cons (pg_name (i := 2) sc__forward_eight.nd rfl (Or.inl rfl)) (pgs_cons (pg_name (i := 3) sc__forward_eight.nd rfl (Or.inl rfl)) (pgs_cons (pg_name (i := 4) sc__forward_eight.nd rfl (Or.inl rfl)) (pgs_cons (pg_name (i := 5) sc__forward_eight.nd rfl (Or.inl rfl)) pgs_nil))))))
      (C8.pss_cut (ps_asg (vx_callX c__forward_four pat__forward_four_0 (.head _) hr (by decide) (takes_of rfl rfl rfl rfl) rfl (pa_cons (pe_lc (own := [("low", 21), ("_", 19)]) (g := gTup K 2 (gCons (gName 21) (gCons (gName 19) gNil))) (by rfl) sc__forward_eight.nd (pi_listK (K := K) (pv 1)) (blkOk_by (own := [("low", 21), ("_", 19)]) (N := N__forward_eight) (sc := defScope s__forward_eight) (by decide +kernel)) (fun _ _ _ _ _ => (pg_tupK (K := K) (n := 2) (pgs_cons (pg_name (i := 21) sc__forward_eight.nd rfl (Or.inl rfl)) (pgs_cons (pg_name (i := 19) sc__forward_eight.nd rfl (Or.inl rfl)) pgs_nil)))) (fun _ _ _ _ _ => pts_nil) (fun _ _ _ _ _ => (pv 21))) pa_nil) pk_nil) (pg_seqK (K := K) (n := 4) (pgs_cons (pg_name (i := 6) sc__forward_eight.nd rfl (Or.inl rfl)) (pgs_cons (pg_name (i := 7) sc__forward_eight.nd rfl (Or.inl rfl)) (pgs_cons (pg_name (i := 8) sc__forward_eight.nd rfl (Or.inl rfl)) (pgs_cons (pg_name (i := 9) sc__forward_eight.nd rfl (Or.inl rfl)) pgs_nil))))))
      (C8.pss_cut (ps_asg (vx_callX c_turn_pair pat_turn_pair_0 (.head _) hr (by decide) (takes_of rfl rfl rfl rfl) rfl (pa_cons (pv 2) (pa_cons (pv 5) pa_nil)) (pk_cons pe_int (pk_cons pe_int pk_nil))) (pg_tupK (K := K) (n := 2) (pgs_cons (pg_name (i := 10) sc__forward_eight.nd rfl (Or.inl rfl)) (pgs_cons (pg_name (i := 11) sc__forward_eight.nd rfl (Or.inl rfl)) pgs_nil))))
      (C8.pss_cut (ps_asg (vx_callX c_turn_pair pat_turn_pair_0 (.head _) hr (by decide) (takes_of rfl rfl rfl rfl) rfl (pa_cons (pv 3) (pa_cons (pv 4) pa_nil)) (pk_cons pe_int (pk_cons pe_int pk_nil))) (pg_tupK (K := K) (n := 2) (pgs_cons (pg_name (i := 12) sc__forward_eight.nd rfl (Or.inl rfl)) (pgs_cons (pg_name (i := 13) sc__forward_eight.nd rfl (Or.inl rfl)) pgs_nil))))
      (C8.pss_cut (ps_asg (vx_callX c_split_pair pat_split_pair_0 (.head _) hr (by decide) (takes_of rfl rfl rfl rfl) rfl (pa_cons (pv 10) (pa_cons (pv 12) pa_nil)) pk_nil) (pg_tupK (K := K) (n := 2) (pgs_cons (pg_name (i := 14) sc__forward_eight.nd rfl (Or.inl rfl)) (pgs_cons (pg_name (i := 15) sc__forward_eight.nd rfl (Or.inl rfl)) pgs_nil))))
      (C8.pss_cut (ps_asg (vx_callX c_split_pair pat_split_pair_0 (.head _) hr (by decide) (takes_of rfl rfl rfl rfl) rfl (pa_cons (pv 13) (pa_cons (pv 11) pa_nil)) pk_nil) (pg_tupK (K := K) (n := 2) (pgs_cons (pg_name (i := 16) sc__forward_eight.nd rfl (Or.inl rfl)) (pgs_cons (pg_name (i := 17) sc__forward_eight.nd rfl (Or.inl rfl)) pgs_nil))))
      (pss_one (ps_ret (pe_lst (pa_cons (pv 6) (pa_cons (pv 14) (pa_cons (pv 7) (pa_cons (pv 16) (pa_cons (pv 8) (pa_cons (pv 15) (pa_cons (pv 9) (pa_cons (pv 17) pa_nil)))))))))))))))))), ?_⟩
    obtain ⟨KK, EE, hK0, hE, hw⟩ := cW_gen hw
    have S0 := Sep.startG sG
    unfold F__forward_eight at hw
    refine ⟨fun σ H' => ∃ (p423 : Addr) (pairs_422 : (List (Int × Int))) (vs424 : List V) (G' : Hp), σ = [some (V.ref a_values), some (V.ref p423), none, none, none, none, none, none, none, none, none, none, none, none, none, none, none, none, none, none, none, none] ∧ Same G G' ∧ Sep [] H G G' H' [p423] ∧ H' p423 = some (.lst (vs424)) ∧ H p423 = none ∧ RpAll G' (vs424) ((pairs_422 : (List (Int × Int))).map (encT2 PyData.int PyData.int)) ∧ cW (F__forward_eight_k1  pairs_422) KK EE, ?_, ?_⟩
    · obtain ⟨K425, hK426, hw⟩ := cW_push hw
      obtain ⟨K429, hK430, hw⟩ := cW_push hw
      refine ⟨_, rfl, (by decide), (by decide), fun D431 n432 => lc_range (lo := 0) (n := Int.toNat (4)) (fun i H' => ∃ (G' : Hp) (acc433 : (List (Int × Int))) (vs434 : List V), Same G G' ∧ Sep [] H G G' H' [D431] ∧ H' D431 = some (.lst vs434) ∧ RpAll G' vs434 ((acc433 : (List (Int × Int))).map (encT2 PyData.int PyData.int)) ∧ cW (mapA (List.drop i (rng (0) (Int.toNat (4)))) acc433 (fun x => noEr (F__forward_eight_c2 (values') x))) K429 EE) ?_ ?_ ?_⟩
      · generalize g435 : upd H D431 _ = H436
        obtain ⟨e437, h438⟩ := gen_new n432 g435
        have fr439 := S0.free n432
        have S440 := S0.new n432 e437 h438 fr439
        exact ⟨_, [], [], Same.refl _, S440, h438, RpAll.nil, hw⟩
      · intro i H441 hi hw
        obtain ⟨G444, acc446, vs447, eG445, S442, h443, d448, hw⟩ := hw
        obtain ⟨z449, hw⟩ := cW_mapA (rng_get hi) hw
        generalize (0 + (i : Int)) = x450 at hw ⊢
        have hw := cW_noEr hw
        have hw : cW (F__forward_eight_c2 (values') (x450)) _ (fun _ => False) := hw
        unfold F__forward_eight_c2 at hw
        refine ⟨rfl, ?_⟩
        refine tyes_go ?_
        obtain ⟨g452, hw⟩ := cW_grd hw
        obtain ⟨g453, hw⟩ := cW_grd hw
        refine ⟨_, rfl, _, rfl, _, _, _, _, rfl, rfl, (SqL.of (S442.bM _ _ q_values)), (atI_map g452), _, rfl, _, rfl, _, _, rfl, rfl, _, _, _, _, rfl, rfl, (SqL.of (S442.bM _ _ q_values)), (atI_map g453), rfl, rfl, G444, _, _, rfl, S442.sG, cW_call hw (fun v454 hw v457 H455 G458 e456 eG459 sG460 hn461 r462 => ?_) (fun e he => he.elim)⟩
        have S463 := S442.step e456 eG459 sG460 hn461
        obtain ⟨a464, v466, v467, rfl, h465, r468, r469⟩ := rp_tup2 r462
        obtain rfl := rp_int r468
        obtain rfl := rp_int r469
        have h470 := (e456 _ _ h443)
        refine ⟨_, h470, (app_len (RpAll.mono eG459 d448) z449), ?_⟩
        generalize g471 : upd H455 D431 _ = H472
        obtain ⟨x473, h474⟩ := gen_mut g471
        have S475 := S463.mut1 x473 (.head _) h474
        have hw := cW_ok hw
        exact ⟨_, (acc446 ++ [v454]), _, (Same.trans eG445 eG459), S475, h474, (app_map (RpAll.mono eG459 d448) (RpAll.one (rp_mk2 h465 (.int _) (.int _)))), hw⟩
      intro H476 hw
      obtain ⟨G479, acc481, vs482, eG480, S477, h478, d483, hw⟩ := hw
      have hw := hK430 _ (cW_mapA0 (rng_len _ _).symm hw)
      have fr484 := S0.free n432
      have hw := cW_ok hw
      have hw := hK426 _ hw
      exact ⟨_, (acc481), _, _, rfl, eG480, S477, h478, fr484, d483, hw⟩
    · intro σ H485 hw
      obtain ⟨p423, pairs_422, vs424, G490, rfl, eG491, S486, h487, fr488, d489, hw⟩ := hw
      unfold F__forward_eight_k1 at hw
      refine ⟨fun σ H' => ∃ (h0_497 : Int) (h1_498 : Int) (h2_499 : Int) (h3_500 : Int) (G' : Hp), σ = [some (V.ref a_values), some (V.ref p423), some (V.int h0_497), some (V.int h1_498), some (V.int h2_499), some (V.int h3_500), none, none, none, none, none, none, none, none, none, none, none, none, none, none, none, none] ∧ Same G490 G' ∧ Sep [] H G G' H' [p423] ∧ H' p423 = some (.lst (vs424)) ∧ cW (F__forward_eight_k3 (pairs_422) h0_497 h1_498 h2_499 h3_500) KK EE, ?_, ?_⟩
      · obtain ⟨K501, hK502, hw⟩ := cW_push hw
        obtain ⟨K504, hK505, hw⟩ := cW_push hw
        refine ⟨_, rfl, _, rfl, ⟨_, (SqL.of h487)⟩, fun D506 n507 => lc_list (K := K) (a := p423) (xs := vs424) (fun i H' => ∃ (G' : Hp) (acc508 : (List Int)), Same G490 G' ∧ Sep [] H G G' H' [D506, p423] ∧ H' p423 = some (.lst (vs424)) ∧ H' D506 = some (.lst ((acc508 : (List Int)).map V.int)) ∧ cW (mapA (List.drop i (pairs_422)) acc508 (fun x => noEr (F__forward_eight_c4  x))) K504 EE) ?_ ?_ ?_ ?_⟩
        · generalize g510 : upd H485 D506 _ = H511
          obtain ⟨e512, h513⟩ := gen_new n507 g510
          have fr514 := S486.free n507
          have S515 := S486.new n507 e512 h513 fr514
          have h516 := (e512 _ _ h487)
          exact ⟨_, [], Same.refl _, S515, h516, h513, hw⟩
        · intro i H517 _ hw
          obtain ⟨G520, acc522, eG521, S518, h525, h519, hw⟩ := hw
          exact (SqL.of h525)
        · intro i x H526 hj hw
          obtain ⟨G529, acc531, eG530, S527, h534, h528, hw⟩ := hw
          obtain ⟨x535, hx, r536⟩ := RpAll.get (RpAll.mono eG530 d489) hj
          obtain ⟨a537, v539, v540, rfl, h538, r541, r542⟩ := rp_tup2 r536
          obtain rfl := rp_int r541
          obtain rfl := rp_int r542
          obtain ⟨z543, hw⟩ := cW_mapA hx hw
          have hw := cW_noEr hw
          have hw : cW (F__forward_eight_c4  (x535)) _ (fun _ => False) := hw
          unfold F__forward_eight_c4 at hw
          refine ⟨_, _, rfl, (SqT.of (S527.sG _ _ h538)), rfl, _, _, rfl, _, _, rfl, rfl, rfl, ?_⟩
          refine tyes_go ?_
          refine ⟨_, rfl, _, h528, (app_lenM z543), ?_⟩
          generalize g545 : upd H526 D506 _ = H546
          obtain ⟨x547, h548⟩ := gen_mut g545
          have S549 := S527.mut1 x547 (.head _) h548
          have hw := cW_ok hw
          have h550 := (x547 _ _ h534 (ne_of_none h487 n507))
          exact ⟨_, (acc531 ++ [x535.2]), eG530, S549, h550, (snoc_map h548), hw⟩
        intro H551 hw
        obtain ⟨G554, acc556, eG555, S552, h559, h553, hw⟩ := hw
        have hw := hK505 _ (cW_mapA0 (by rw [(RpAll.mono eG555 d489).len, List.length_map]) hw)
        have fr560 := S486.free n507
        obtain ⟨g561, hw⟩ := cW_grd hw
        refine ⟨_, [V.int ((itD (acc556) 0)), V.int ((itD (acc556) 1)), V.int ((itD (acc556) 2)), V.int ((itD (acc556) 3))], rfl, (SqL.cast (SqL.of h553) (unp4 g561)), rfl, _, _, rfl, _, _, rfl, _, _, rfl, _, _, rfl, rfl, ?_⟩
        have hw := cW_bnd hw
        have hw := cW_bnd hw
        have hw := cW_bnd hw
        have hw := cW_bnd hw
        have hw := cW_ok hw
        have hw := hK502 _ hw
        exact ⟨((itD (acc556) 0)), ((itD (acc556) 1)), ((itD (acc556) 2)), ((itD (acc556) 3)), _, rfl, eG555, (S552.sub (all_cons (.tail _ (.head _)) all_nil)), h559, hw⟩
      · intro σ H566 hw
        obtain ⟨h0_497, h1_498, h2_499, h3_500, G569, rfl, eG570, S567, h568, hw⟩ := hw
        unfold F__forward_eight_k3 at hw
        refine ⟨fun σ H' => ∃ (e0_579 : Int) (e1_580 : Int) (e2_581 : Int) (e3_582 : Int) (G' : Hp), σ = [some (V.ref a_values), some (V.ref p423), some (V.int (h0_497)), some (V.int (h1_498)), some (V.int (h2_499)), some (V.int (h3_500)), some (V.int e0_579), some (V.int e1_580), some (V.int e2_581), some (V.int e3_582), none, none, none, none, none, none, none, none, none, none, none, none] ∧ Same G569 G' ∧ Sep [] H G G' H' [p423] ∧ H' p423 = some (.lst (vs424)) ∧ cW (F__forward_eight_k5 (h0_497) (h1_498) (h2_499) (h3_500) e0_579 e1_580 e2_581 e3_582) KK EE, ?_, ?_⟩
        · obtain ⟨K583, hK584, hw⟩ := cW_push hw
          obtain ⟨K586, hK587, hw⟩ := cW_push hw
          refine ⟨_, rfl, _, rfl, ⟨_, (SqL.of h568)⟩, fun D588 n589 => lc_list (K := K) (a := p423) (xs := vs424) (fun i H' => ∃ (G' : Hp) (acc590 : (List Int)), Same G569 G' ∧ Sep [] H G G' H' [D588, p423] ∧ H' p423 = some (.lst (vs424)) ∧ H' D588 = some (.lst ((acc590 : (List Int)).map V.int)) ∧ cW (mapA (List.drop i (pairs_422)) acc590 (fun x => noEr (F__forward_eight_c6  x))) K586 EE) ?_ ?_ ?_ ?_⟩
          · generalize g592 : upd H566 D588 _ = H593
            obtain ⟨e594, h595⟩ := gen_new n589 g592
            have fr596 := S567.free n589
            have S597 := S567.new n589 e594 h595 fr596
            have h598 := (e594 _ _ h568)
            exact ⟨_, [], Same.refl _, S597, h598, h595, hw⟩
          · intro i H599 _ hw
            obtain ⟨G602, acc604, eG603, S600, h607, h601, hw⟩ := hw
            exact (SqL.of h607)
          · intro i x H608 hj hw
            obtain ⟨G611, acc613, eG612, S609, h616, h610, hw⟩ := hw
            obtain ⟨x617, hx, r618⟩ := RpAll.get (RpAll.mono eG612 (RpAll.mono eG570 d489)) hj
            obtain ⟨a619, v621, v622, rfl, h620, r623, r624⟩ := rp_tup2 r618
            obtain rfl := rp_int r623
            obtain rfl := rp_int r624
            obtain ⟨z625, hw⟩ := cW_mapA hx hw
            have hw := cW_noEr hw
            have hw : cW (F__forward_eight_c6  (x617)) _ (fun _ => False) := hw
            unfold F__forward_eight_c6 at hw
            refine ⟨_, _, rfl, (SqT.of (S609.sG _ _ h620)), rfl, _, _, rfl, _, _, rfl, rfl, rfl, ?_⟩
            refine tyes_go ?_
            refine ⟨_, rfl, _, h610, (app_lenM z625), ?_⟩
            generalize g627 : upd H608 D588 _ = H628
            obtain ⟨x629, h630⟩ := gen_mut g627
            have S631 := S609.mut1 x629 (.head _) h630
            have hw := cW_ok hw
            have h632 := (x629 _ _ h616 (ne_of_none h568 n589))
            exact ⟨_, (acc613 ++ [x617.1]), eG612, S631, h632, (snoc_map h630), hw⟩
          intro H633 hw
          obtain ⟨G636, acc638, eG637, S634, h641, h635, hw⟩ := hw
          have hw := hK587 _ (cW_mapA0 (by rw [(RpAll.mono eG637 (RpAll.mono eG570 d489)).len, List.length_map]) hw)
          have fr642 := S567.free n589
          refine ⟨rfl, rfl, G636, _, _, rfl, S634.sG, (hide_nil h635), cW_call hw (fun v643 hw p646 H644 n647 e645 h648 => ?_) (fun e he H2 e2 => hE e he H2 (Same.trans S634.b0 e2))⟩
          have h649 : H644 p646 = some (.lst ((v643 : (List Int)).map V.int)) := h648
          have fr650 := S634.free n647
          have S651 := S634.new n647 e645 h649 fr650
          obtain ⟨g652, hw⟩ := cW_grd hw
          refine ⟨_, [V.int ((itD (v643) 0)), V.int ((itD (v643) 1)), V.int ((itD (v643) 2)), V.int ((itD (v643) 3))], rfl, (SqL.cast (SqL.of h649) (unp4 g652)), rfl, _, _, rfl, _, _, rfl, _, _, rfl, _, _, rfl, rfl, ?_⟩
          have hw := cW_bnd hw
          have hw := cW_bnd hw
          have hw := cW_bnd hw
          have hw := cW_bnd hw
          have hw := cW_ok hw
          have hw := hK584 _ hw
          have h657 := (e645 _ _ h641)
          exact ⟨((itD (v643) 0)), ((itD (v643) 1)), ((itD (v643) 2)), ((itD (v643) 3)), _, rfl, eG637, (S651.sub (all_cons (.tail _ (.tail _ (.head _))) all_nil)), h657, hw⟩
        · intro σ H658 hw
          obtain ⟨e0_579, e1_580, e2_581, e3_582, G661, rfl, eG662, S659, h660, hw⟩ := hw
          unfold F__forward_eight_k5 at hw
          refine ⟨fun σ H' => ∃ (d0_671 : Int) (d3_672 : Int) (G' : Hp), σ = [some (V.ref a_values), some (V.ref p423), some (V.int (h0_497)), some (V.int (h1_498)), some (V.int (h2_499)), some (V.int (h3_500)), some (V.int (e0_579)), some (V.int (e1_580)), some (V.int (e2_581)), some (V.int (e3_582)), some (V.int d0_671), some (V.int d3_672), none, none, none, none, none, none, none, none, none, none] ∧ Same G661 G' ∧ Sep [] H G G' H' [p423] ∧ H' p423 = some (.lst (vs424)) ∧ cW (F__forward_eight_k7 (h1_498) (h2_499) (e0_579) (e1_580) (e2_581) (e3_582) d0_671 d3_672) KK EE, ?_, ?_⟩
          · obtain ⟨K673, hK674, hw⟩ := cW_push hw
            refine ⟨_, rfl, _, rfl, rfl, rfl, G661, _, _, _, _, rfl, S659.sG, cW_call hw (fun v675 hw v678 H676 G679 e677 eG680 sG681 hn682 r683 => ?_) (fun e he H2 e2 => hE e he H2 (Same.trans S659.b0 e2))⟩
            have S684 := S659.step e677 eG680 sG681 hn682
            obtain ⟨a685, v687, v688, rfl, h686, r689, r690⟩ := rp_tup2 r683
            obtain rfl := rp_int r689
            obtain rfl := rp_int r690
            refine ⟨_, _, rfl, (SqT.of (S684.sG _ _ h686)), rfl, _, _, rfl, _, _, rfl, rfl, ?_⟩
            have hw := cW_ok hw
            have hw := hK674 _ hw
            have h691 := (e677 _ _ h660)
            exact ⟨(v675.1), (v675.2), _, rfl, eG680, S684, h691, hw⟩
          · intro σ H692 hw
            obtain ⟨d0_671, d3_672, G695, rfl, eG696, S693, h694, hw⟩ := hw
            unfold F__forward_eight_k7 at hw
            refine ⟨fun σ H' => ∃ (d1_705 : Int) (d2_706 : Int) (G' : Hp), σ = [some (V.ref a_values), some (V.ref p423), some (V.int (h0_497)), some (V.int (h1_498)), some (V.int (h2_499)), some (V.int (h3_500)), some (V.int (e0_579)), some (V.int (e1_580)), some (V.int (e2_581)), some (V.int (e3_582)), some (V.int (d0_671)), some (V.int (d3_672)), some (V.int d1_705), some (V.int d2_706), none, none, none, none, none, none, none, none] ∧ Same G695 G' ∧ Sep [] H G G' H' [p423] ∧ H' p423 = some (.lst (vs424)) ∧ cW (F__forward_eight_k8 (e0_579) (e1_580) (e2_581) (e3_582) (d0_671) (d3_672) d1_705 d2_706) KK EE, ?_, ?_⟩
            · obtain ⟨K707, hK708, hw⟩ := cW_push hw
              refine ⟨_, rfl, _, rfl, rfl, rfl, G695, _, _, _, _, rfl, S693.sG, cW_call hw (fun v709 hw v712 H710 G713 e711 eG714 sG715 hn716 r717 => ?_) (fun e he H2 e2 => hE e he H2 (Same.trans S693.b0 e2))⟩
              have S718 := S693.step e711 eG714 sG715 hn716
              obtain ⟨a719, v721, v722, rfl, h720, r723, r724⟩ := rp_tup2 r717
              obtain rfl := rp_int r723
              obtain rfl := rp_int r724
              refine ⟨_, _, rfl, (SqT.of (S718.sG _ _ h720)), rfl, _, _, rfl, _, _, rfl, rfl, ?_⟩
              have hw := cW_ok hw
              have hw := hK708 _ hw
              have h725 := (e711 _ _ h694)
              exact ⟨(v709.1), (v709.2), _, rfl, eG714, S718, h725, hw⟩
            · intro σ H726 hw
              obtain ⟨d1_705, d2_706, G729, rfl, eG730, S727, h728, hw⟩ := hw
              unfold F__forward_eight_k8 at hw
              refine ⟨fun σ H' => ∃ (f0_739 : Int) (f1_740 : Int) (G' : Hp), σ = [some (V.ref a_values), some (V.ref p423), some (V.int (h0_497)), some (V.int (h1_498)), some (V.int (h2_499)), some (V.int (h3_500)), some (V.int (e0_579)), some (V.int (e1_580)), some (V.int (e2_581)), some (V.int (e3_582)), some (V.int (d0_671)), some (V.int (d3_672)), some (V.int (d1_705)), some (V.int (d2_706)), some (V.int f0_739), some (V.int f1_740), none, none, none, none, none, none] ∧ Same G729 G' ∧ Sep [] H G G' H' [p423] ∧ H' p423 = some (.lst (vs424)) ∧ cW (F__forward_eight_k9 (e0_579) (e1_580) (e2_581) (e3_582) (d3_672) (d2_706) f0_739 f1_740) KK EE, ?_, ?_⟩
              · obtain ⟨K741, hK742, hw⟩ := cW_push hw
                refine ⟨_, rfl, _, rfl, rfl, rfl, G729, _, _, rfl, S727.sG, cW_call hw (fun v743 hw v746 H744 G747 e745 eG748 sG749 hn750 r751 => ?_) (fun e he H2 e2 => hE e he H2 (Same.trans S727.b0 e2))⟩
                have S752 := S727.step e745 eG748 sG749 hn750
                obtain ⟨a753, v755, v756, rfl, h754, r757, r758⟩ := rp_tup2 r751
                obtain rfl := rp_int r757
                obtain rfl := rp_int r758
                refine ⟨_, _, rfl, (SqT.of (S752.sG _ _ h754)), rfl, _, _, rfl, _, _, rfl, rfl, ?_⟩
                have hw := cW_ok hw
                have hw := hK742 _ hw
                have h759 := (e745 _ _ h728)
                exact ⟨(v743.1), (v743.2), _, rfl, eG748, S752, h759, hw⟩
              · intro σ H760 hw
                obtain ⟨f0_739, f1_740, G763, rfl, eG764, S761, h762, hw⟩ := hw
                unfold F__forward_eight_k9 at hw
                refine ⟨fun σ H' => ∃ (f2_773 : Int) (f3_774 : Int) (G' : Hp), σ = [some (V.ref a_values), some (V.ref p423), some (V.int (h0_497)), some (V.int (h1_498)), some (V.int (h2_499)), some (V.int (h3_500)), some (V.int (e0_579)), some (V.int (e1_580)), some (V.int (e2_581)), some (V.int (e3_582)), some (V.int (d0_671)), some (V.int (d3_672)), some (V.int (d1_705)), some (V.int (d2_706)), some (V.int (f0_739)), some (V.int (f1_740)), some (V.int f2_773), some (V.int f3_774), none, none, none, none] ∧ Same G763 G' ∧ Sep [] H G G' H' [p423] ∧ H' p423 = some (.lst (vs424)) ∧ cW (F__forward_eight_k10 (e0_579) (e1_580) (e2_581) (e3_582) (f0_739) (f1_740) f2_773 f3_774) KK EE, ?_, ?_⟩
                · obtain ⟨K775, hK776, hw⟩ := cW_push hw
                  refine ⟨_, rfl, _, rfl, rfl, rfl, G763, _, _, rfl, S761.sG, cW_call hw (fun v777 hw v780 H778 G781 e779 eG782 sG783 hn784 r785 => ?_) (fun e he H2 e2 => hE e he H2 (Same.trans S761.b0 e2))⟩
                  have S786 := S761.step e779 eG782 sG783 hn784
                  obtain ⟨a787, v789, v790, rfl, h788, r791, r792⟩ := rp_tup2 r785
                  obtain rfl := rp_int r791
                  obtain rfl := rp_int r792
                  refine ⟨_, _, rfl, (SqT.of (S786.sG _ _ h788)), rfl, _, _, rfl, _, _, rfl, rfl, ?_⟩
                  have hw := cW_ok hw
                  have hw := hK776 _ hw
                  have h793 := (e779 _ _ h762)
                  exact ⟨(v777.1), (v777.2), _, rfl, eG782, S786, h793, hw⟩
                · intro σ H794 hw
                  obtain ⟨f2_773, f3_774, G797, rfl, eG798, S795, h796, hw⟩ := hw
                  unfold F__forward_eight_k10 at hw
                  refine ⟨_, rfl, _, rfl, _, rfl, _, rfl, _, rfl, _, rfl, _, rfl, _, rfl, (by show 8 ≤ sizeLine; decide), fun p799 n800 => ?_⟩
                  generalize g801 : upd H794 p799 _ = H802
                  obtain ⟨e803, h804⟩ := gen_new n800 g801
                  have h805 : H802 p799 = some (.lst (([e0_579, f0_739, e1_580, f2_773, e2_581, f1_740, e3_582, f3_774] : (List Int)).map V.int)) := h804
                  have fr806 := S795.free n800
                  have S807 := S795.new n800 e803 h805 fr806
                  have hw := cW_ok hw
                  exact hK0 _ hw _ _ fr806 S807.b0 h805

abbrev N_forward : List Str := ["values"]
theorem sc_forward : FnScope N_forward ["values"] (defScope s_forward) := ⟨rfl, rfl, rfl, by decide +kernel, rfl, by decide +kernel, by decide +kernel⟩
theorem ok_forward (D : DefX K mg "forward" s_forward ["values"] pats_forward) (T : Txt K mg AD) (c_check_size : CalX P w K mg base 1 "check_size" (sp_check_size K AD) pats_check_size) (c__forward_four : CalX P w K mg base 2 "_forward_four" (sp__forward_four K AD) pats__forward_four) (c__forward_eight : CalX P w K mg base 3 "_forward_eight" (sp__forward_eight K AD) pats__forward_eight) : CalX P w K mg base 4 "forward" (sp_forward K AD) pats_forward := by
  refine D.ok sc_forward (fun vs H Q E h => ?_) (fun f cdv A_ outer s H vs Q E hr h => ?_)
  · obtain ⟨G, a_values, values', rfl, _⟩ := h
    rfl
  · obtain ⟨G, a_values, values', rfl, sG, q_values, hw⟩ := h
    refine ⟨_, (pss_cons (ps_expr (vx_callX c_check_size pat_check_size_0 (.head _) hr (by decide) (takes_of rfl rfl rfl rfl) rfl (pa_cons (pe_callB (call_lenLiK (K := K)) (by rfl) T.b_len (by decide +kernel) (pa_cons (pv 0) pa_nil)) pa_nil) pk_nil))
      (pss_one (ps_ret (pe_ifExp (pt_cmp (pc_eqI (pe_callB (call_lenLiK (K := K)) (by rfl) T.b_len (by decide +kernel) (pa_cons (pv 0) pa_nil)) pe_int)) (vx_callX c__forward_four pat__forward_four_0 (.head _) hr (by decide) (takes_of rfl rfl rfl rfl) rfl (pa_cons (pv 0) pa_nil) pk_nil) (vx_callX c__forward_eight pat__forward_eight_0 (.head _) hr (by decide) (takes_of rfl rfl rfl rfl) rfl (pa_cons (pv 0) pa_nil) pk_nil))))), ?_⟩
    obtain ⟨KK, EE, hK0, hE, hw⟩ := cW_gen hw
    have S0 := Sep.startG sG
    unfold F_forward at hw
    refine ⟨_, rfl, _, _, rfl, (SqL.of (S0.bM _ _ q_values)), rfl, rfl, G, _, rfl, S0.sG, cW_call hw (fun v808 hw => ?_) (fun e he => hE e he _ S0.b0)⟩
    refine ⟨_, rfl, _, _, rfl, (SqL.of (S0.bM _ _ q_values)), _, _, rfl, rfl, _, rfl, ?_⟩
    refine iteD (fun c809 => ?_) (fun c809 => ?_)
    · have hw := cW_pos c809 hw
      refine ⟨_, rfl, rfl, rfl, G, _, _, rfl, S0.sG, (hide_nil (S0.bM _ _ q_values)), cW_call hw (fun v810 hw p813 H811 n814 e812 h815 => ?_) (fun e he H2 e2 => hE e he H2 (Same.trans S0.b0 e2))⟩
      have h816 : H811 p813 = some (.lst ((v810 : (List Int)).map V.int)) := h815
      have fr817 := S0.free n814
      have S818 := S0.new n814 e812 h816 fr817
      have hw := cW_ok hw
      exact hK0 _ hw _ _ fr817 S818.b0 h816
    · have hw := cW_neg c809 hw
      refine ⟨_, rfl, rfl, rfl, G, _, _, rfl, S0.sG, (hide_nil (S0.bM _ _ q_values)), cW_call hw (fun v819 hw p822 H820 n823 e821 h824 => ?_) (fun e he H2 e2 => hE e he H2 (Same.trans S0.b0 e2))⟩
      have h825 : H820 p822 = some (.lst ((v819 : (List Int)).map V.int)) := h824
      have fr826 := S0.free n823
      have S827 := S0.new n823 e821 h825 fr826
      have hw := cW_ok hw
      exact hK0 _ hw _ _ fr826 S827.b0 h825

abbrev N_turn_back : List Str := ["first", "second", "outer", "inner"]
theorem sc_turn_back : FnScope N_turn_back ["first", "second", "outer", "inner"] (defScope s_turn_back) := ⟨rfl, rfl, rfl, by decide +kernel, rfl, by decide +kernel, by decide +kernel⟩
theorem ok_turn_back (D : DefX K mg "turn_back" s_turn_back ["first", "second", "outer", "inner"] pats_turn_back) (T : Txt K mg AD)  : CalX P w K mg base 1 "turn_back" (sp_turn_back K AD) pats_turn_back := by
  refine D.ok sc_turn_back (fun vs H Q E h => ?_) (fun f cdv A_ outer s H vs Q E hr h => ?_)
  · obtain ⟨G, first', second', outer', inner', rfl, _⟩ := h
    rfl
  · obtain ⟨G, first', second', outer', inner', rfl, sG, hw⟩ := h
    refine ⟨_, (pss_cons (ps_aug (i := 1) sc_turn_back.nd rfl (Or.inl rfl) (pe_op op_shr (pe_op op_add (pe_op op_mul (pv 2) (pv 0)) pe_int) pe_int) (pip iop_sub))
      (pss_cons (ps_aug (i := 0) sc_turn_back.nd rfl (Or.inl rfl) (pe_op op_shr (pe_op op_add (pe_op op_mul (pv 3) (pv 1)) pe_int) pe_int) (pip iop_add))
      (pss_cons (ps_aug (i := 1) sc_turn_back.nd rfl (Or.inl rfl) (pe_op op_shr (pe_op op_add (pe_op op_mul (pv 2) (pv 0)) pe_int) pe_int) (pip iop_sub))
      (pss_one (ps_ret (pe_tup (pa_cons (pv 0) (pa_cons (pv 1) pa_nil)))))))), ?_⟩
    obtain ⟨KK, EE, hK0, hE, hw⟩ := cW_gen hw
    have S0 := Sep.startG sG
    unfold F_turn_back at hw
    obtain ⟨g828, hw⟩ := cW_grd hw
    refine ⟨_, rfl, _, rfl, _, rfl, _, _, rfl, rfl, g828, _, _, rfl, rfl, _, _, rfl, rfl, (show (0 : Int) ≤ 5 by decide), _, _, rfl, rfl, ?_⟩
    have hw := cW_bnd hw
    obtain ⟨g830, hw⟩ := cW_grd hw
    refine ⟨_, rfl, _, rfl, _, rfl, _, _, rfl, rfl, g830, _, _, rfl, rfl, _, _, rfl, rfl, (show (0 : Int) ≤ 5 by decide), _, _, rfl, rfl, ?_⟩
    have hw := cW_bnd hw
    obtain ⟨g832, hw⟩ := cW_grd hw
    refine ⟨_, rfl, _, rfl, _, rfl, _, _, rfl, rfl, g832, _, _, rfl, rfl, _, _, rfl, rfl, (show (0 : Int) ≤ 5 by decide), _, _, rfl, rfl, ?_⟩
    have hw := cW_bnd hw
    refine ⟨_, rfl, _, rfl, (by show 2 ≤ sizeLine; decide), fun p834 n835 => ?_⟩
    generalize g836 : upd H p834 _ = H837
    obtain ⟨e838, h839⟩ := gen_new n835 g836
    have h840 : H837 p834 = some (.tup [V.int ((first' + (((inner' * (second' - (((outer' * first') + 16) / 32))) + 16) / 32))), V.int (((second' - (((outer' * first') + 16) / 32)) - (((outer' * (first' + (((inner' * (second' - (((outer' * first') + 16) / 32))) + 16) / 32))) + 16) / 32)))]) := h839
    have fr841 := S0.free n835
    obtain ⟨G843, eG844, hg845, S842⟩ := S0.grow n835 e838 h840 fr841
    have hw := cW_ok hw
    exact hK0 _ hw _ _ _ S842.b0 S842.g0 S842.sG S842.gn (rp_mk2 hg845 (.int _) (.int _))

abbrev N_join_pair : List Str := ["low", "high", "first"]
theorem sc_join_pair : FnScope N_join_pair ["low", "high"] (defScope s_join_pair) := ⟨rfl, rfl, rfl, by decide +kernel, rfl, by decide +kernel, by decide +kernel⟩
theorem ok_join_pair (D : DefX K mg "join_pair" s_join_pair ["low", "high"] pats_join_pair) (T : Txt K mg AD)  : CalX P w K mg base 1 "join_pair" (sp_join_pair K AD) pats_join_pair := by
  refine D.ok sc_join_pair (fun vs H Q E h => ?_) (fun f cdv A_ outer s H vs Q E hr h => ?_)
  · obtain ⟨G, low', high', rfl, _⟩ := h
    rfl
  · obtain ⟨G, low', high', rfl, sG, hw⟩ := h
    refine ⟨_, (pss_cons (ps_set (i := 2) sc_join_pair.nd rfl (Or.inl rfl) (pe_op op_add (pv 0) (pe_op op_shr (pe_op op_add (pv 1) pe_int) pe_int)))
      (pss_one (ps_ret (pe_tup (pa_cons (pv 2) (pa_cons (pe_op op_sub (pv 2) (pv 1)) pa_nil)))))), ?_⟩
    obtain ⟨KK, EE, hK0, hE, hw⟩ := cW_gen hw
    have S0 := Sep.startG sG
    unfold F_join_pair at hw
    refine ⟨_, rfl, _, rfl, _, _, rfl, rfl, _, _, rfl, rfl, (show (0 : Int) ≤ 1 by decide), _, _, rfl, rfl, ?_⟩
    have hw := cW_bnd hw
    refine ⟨_, rfl, _, rfl, _, rfl, _, _, rfl, rfl, (by show 2 ≤ sizeLine; decide), fun p847 n848 => ?_⟩
    generalize g849 : upd H p847 _ = H850
    obtain ⟨e851, h852⟩ := gen_new n848 g849
    have h853 : H850 p847 = some (.tup [V.int ((low' + ((high' + 1) / 2))), V.int (((low' + ((high' + 1) / 2)) - high'))]) := h852
    have fr854 := S0.free n848
    obtain ⟨G856, eG857, hg858, S855⟩ := S0.grow n848 e851 h853 fr854
    have hw := cW_ok hw
    exact hK0 _ hw _ _ _ S855.b0 S855.g0 S855.sG S855.gn (rp_mk2 hg858 (.int _) (.int _))

abbrev N__inverse_four : List Str := ["values", "c0", "c1", "c2", "c3", "h0", "h1", "l0", "l1", "x1", "x2", "x0", "x3"]
theorem sc__inverse_four : FnScope N__inverse_four ["values"] (defScope s__inverse_four) := ⟨rfl, rfl, rfl, by decide +kernel, rfl, by decide +kernel, by decide +kernel⟩
theorem ok__inverse_four (D : DefX K mg "_inverse_four" s__inverse_four ["values"] pats__inverse_four) (T : Txt K mg AD) (c_turn_back : CalX P w K mg base 1 "turn_back" (sp_turn_back K AD) pats_turn_back) (c_join_pair : CalX P w K mg base 1 "join_pair" (sp_join_pair K AD) pats_join_pair) : CalX P w K mg base 2 "_inverse_four" (sp__inverse_four K AD) pats__inverse_four := by
  refine D.ok sc__inverse_four (fun vs H Q E h => ?_) (fun f cdv A_ outer s H vs Q E hr h => ?_)
  · obtain ⟨G, a_values, values', rfl, _⟩ := h
    rfl
  · obtain ⟨G, a_values, values', rfl, sG, q_values, hw⟩ := h
    refine ⟨_, (C8.pss_cut (ps_asg (pv 0) (pg_seqK (K := K) (n := 4) (pgs_cons (pg_name (i := 1) sc__inverse_four.nd rfl (Or.inl rfl)) (pgs_cons (pg_name (i := 2) sc__inverse_four.nd rfl (Or.inl rfl)) (pgs_cons (pg_name (i := 3) sc__inverse_four.nd rfl (Or.inl rfl)) (pgs_cons (pg_name (i := 4) sc__inverse_four.nd rfl (Or.inl rfl)) pgs_nil))))))
      (C8.pss_cut (ps_asg (vx_callX c_turn_back pat_turn_back_0 (.head _) hr (by decide) (takes_of rfl rfl rfl rfl) rfl (pa_cons (pv 2) (pa_cons (pv 4) pa_nil)) (pk_cons pe_int (pk_cons pe_int pk_nil))) (pg_tupK (K := K) (n := 2) (pgs_cons (pg_name (i := 5) sc__inverse_four.nd rfl (Or.inl rfl)) (pgs_cons (pg_name (i := 6) sc__inverse_four.nd rfl (Or.inl rfl)) pgs_nil))))
      (C8.pss_cut (ps_asg (vx_callX c_join_pair pat_join_pair_0 (.head _) hr (by decide) (takes_of rfl rfl rfl rfl) rfl (pa_cons (pv 1) (pa_cons (pv 3) pa_nil)) pk_nil) (pg_tupK (K := K) (n := 2) (pgs_cons (pg_name (i := 7) sc__inverse_four.nd rfl (Or.inl rfl)) (pgs_cons (pg_name (i := 8) sc__inverse_four.nd rfl (Or.inl rfl)) pgs_nil))))
      (C8.pss_cut (ps_asg (vx_callX c_join_pair pat_join_pair_0 (.head _) hr (by decide) (takes_of rfl rfl rfl rfl) rfl (pa_cons (pv 8) (pa_cons (pv 6) pa_nil)) pk_nil) (pg_tupK (K := K) (n := 2) (pgs_cons (pg_name (i := 9) sc__inverse_four.nd rfl (Or.inl rfl)) (pgs_cons (pg_name (i := 10) sc__inverse_four.nd rfl (Or.inl rfl)) pgs_nil))))
      (C8.pss_cut (ps_asg (vx_callX c_join_pair pat_join_pair_0 (.head _) hr (by decide) (takes_of rfl rfl rfl rfl) rfl (pa_cons (pv 7) (pa_cons (pv 5) pa_nil)) pk_nil) (pg_tupK (K := K) (n := 2) (pgs_cons (pg_name (i := 11) sc__inverse_four.nd rfl (Or.inl rfl)) (pgs_cons (pg_name (i := 12) sc__inverse_four.nd rfl (Or.inl rfl)) pgs_nil))))
      (pss_one (ps_ret (pe_lst (pa_cons (pv 11) (pa_cons (pv 9) (pa_cons (pv 10) (pa_cons (pv 12) pa_nil)))))))))))), ?_⟩
    obtain ⟨KK, EE, hK0, hE, hw⟩ := cW_gen hw
    have S0 := Sep.startG sG
    unfold F__inverse_four at hw
    refine ⟨fun σ H' => ∃ (c0_863 : Int) (c1_864 : Int) (c2_865 : Int) (c3_866 : Int) (G' : Hp), σ = [some (V.ref a_values), some (V.int c0_863), some (V.int c1_864), some (V.int c2_865), some (V.int c3_866), none, none, none, none, none, none, none, none] ∧ Same G G' ∧ Sep [] H G G' H' [] ∧ cW (F__inverse_four_k1  c0_863 c1_864 c2_865 c3_866) KK EE, ?_, ?_⟩
    · obtain ⟨K867, hK868, hw⟩ := cW_push hw
      obtain ⟨g869, hw⟩ := cW_grd hw
      refine ⟨_, rfl, _, [V.int ((itD (values') 0)), V.int ((itD (values') 1)), V.int ((itD (values') 2)), V.int ((itD (values') 3))], rfl, (SqL.cast (SqL.of (S0.bM _ _ q_values)) (unp4 g869)), rfl, _, _, rfl, _, _, rfl, _, _, rfl, _, _, rfl, rfl, ?_⟩
      have hw := cW_bnd hw
      have hw := cW_bnd hw
      have hw := cW_bnd hw
      have hw := cW_bnd hw
      have hw := cW_ok hw
      have hw := hK868 _ hw
      exact ⟨((itD (values') 0)), ((itD (values') 1)), ((itD (values') 2)), ((itD (values') 3)), _, rfl, (Same.refl _), S0, hw⟩
    · intro σ H874 hw
      obtain ⟨c0_863, c1_864, c2_865, c3_866, G876, rfl, eG877, S875, hw⟩ := hw
      unfold F__inverse_four_k1 at hw
      refine ⟨fun σ H' => ∃ (h0_882 : Int) (h1_883 : Int) (G' : Hp), σ = [some (V.ref a_values), some (V.int (c0_863)), some (V.int (c1_864)), some (V.int (c2_865)), some (V.int (c3_866)), some (V.int h0_882), some (V.int h1_883), none, none, none, none, none, none] ∧ Same G876 G' ∧ Sep [] H G G' H' [] ∧ cW (F__inverse_four_k2 (c0_863) (c2_865) h0_882 h1_883) KK EE, ?_, ?_⟩
      · obtain ⟨K884, hK885, hw⟩ := cW_push hw
        refine ⟨_, rfl, _, rfl, rfl, rfl, G876, _, _, _, _, rfl, S875.sG, cW_call hw (fun v886 hw v889 H887 G890 e888 eG891 sG892 hn893 r894 => ?_) (fun e he H2 e2 => hE e he H2 (Same.trans S875.b0 e2))⟩
        have S895 := S875.step e888 eG891 sG892 hn893
        obtain ⟨a896, v898, v899, rfl, h897, r900, r901⟩ := rp_tup2 r894
        obtain rfl := rp_int r900
        obtain rfl := rp_int r901
        refine ⟨_, _, rfl, (SqT.of (S895.sG _ _ h897)), rfl, _, _, rfl, _, _, rfl, rfl, ?_⟩
        have hw := cW_ok hw
        have hw := hK885 _ hw
        exact ⟨(v886.1), (v886.2), _, rfl, eG891, S895, hw⟩
      · intro σ H902 hw
        obtain ⟨h0_882, h1_883, G904, rfl, eG905, S903, hw⟩ := hw
        unfold F__inverse_four_k2 at hw
        refine ⟨fun σ H' => ∃ (l0_910 : Int) (l1_911 : Int) (G' : Hp), σ = [some (V.ref a_values), some (V.int (c0_863)), some (V.int (c1_864)), some (V.int (c2_865)), some (V.int (c3_866)), some (V.int (h0_882)), some (V.int (h1_883)), some (V.int l0_910), some (V.int l1_911), none, none, none, none] ∧ Same G904 G' ∧ Sep [] H G G' H' [] ∧ cW (F__inverse_four_k3 (h0_882) (h1_883) l0_910 l1_911) KK EE, ?_, ?_⟩
        · obtain ⟨K912, hK913, hw⟩ := cW_push hw
          refine ⟨_, rfl, _, rfl, rfl, rfl, G904, _, _, rfl, S903.sG, cW_call hw (fun v914 hw v917 H915 G918 e916 eG919 sG920 hn921 r922 => ?_) (fun e he H2 e2 => hE e he H2 (Same.trans S903.b0 e2))⟩
          have S923 := S903.step e916 eG919 sG920 hn921
          obtain ⟨a924, v926, v927, rfl, h925, r928, r929⟩ := rp_tup2 r922
          obtain rfl := rp_int r928
          obtain rfl := rp_int r929
          refine ⟨_, _, rfl, (SqT.of (S923.sG _ _ h925)), rfl, _, _, rfl, _, _, rfl, rfl, ?_⟩
          have hw := cW_ok hw
          have hw := hK913 _ hw
          exact ⟨(v914.1), (v914.2), _, rfl, eG919, S923, hw⟩
        · intro σ H930 hw
          obtain ⟨l0_910, l1_911, G932, rfl, eG933, S931, hw⟩ := hw
          unfold F__inverse_four_k3 at hw
          refine ⟨fun σ H' => ∃ (x1_938 : Int) (x2_939 : Int) (G' : Hp), σ = [some (V.ref a_values), some (V.int (c0_863)), some (V.int (c1_864)), some (V.int (c2_865)), some (V.int (c3_866)), some (V.int (h0_882)), some (V.int (h1_883)), some (V.int (l0_910)), some (V.int (l1_911)), some (V.int x1_938), some (V.int x2_939), none, none] ∧ Same G932 G' ∧ Sep [] H G G' H' [] ∧ cW (F__inverse_four_k4 (h0_882) (l0_910) x1_938 x2_939) KK EE, ?_, ?_⟩
          · obtain ⟨K940, hK941, hw⟩ := cW_push hw
            refine ⟨_, rfl, _, rfl, rfl, rfl, G932, _, _, rfl, S931.sG, cW_call hw (fun v942 hw v945 H943 G946 e944 eG947 sG948 hn949 r950 => ?_) (fun e he H2 e2 => hE e he H2 (Same.trans S931.b0 e2))⟩
            have S951 := S931.step e944 eG947 sG948 hn949
            obtain ⟨a952, v954, v955, rfl, h953, r956, r957⟩ := rp_tup2 r950
            obtain rfl := rp_int r956
            obtain rfl := rp_int r957
            refine ⟨_, _, rfl, (SqT.of (S951.sG _ _ h953)), rfl, _, _, rfl, _, _, rfl, rfl, ?_⟩
            have hw := cW_ok hw
            have hw := hK941 _ hw
            exact ⟨(v942.1), (v942.2), _, rfl, eG947, S951, hw⟩
          · intro σ H958 hw
            obtain ⟨x1_938, x2_939, G960, rfl, eG961, S959, hw⟩ := hw
            unfold F__inverse_four_k4 at hw
            refine ⟨fun σ H' => ∃ (x0_966 : Int) (x3_967 : Int) (G' : Hp), σ = [some (V.ref a_values), some (V.int (c0_863)), some (V.int (c1_864)), some (V.int (c2_865)), some (V.int (c3_866)), some (V.int (h0_882)), some (V.int (h1_883)), some (V.int (l0_910)), some (V.int (l1_911)), some (V.int (x1_938)), some (V.int (x2_939)), some (V.int x0_966), some (V.int x3_967)] ∧ Same G960 G' ∧ Sep [] H G G' H' [] ∧ cW (F__inverse_four_k5 (x1_938) (x2_939) x0_966 x3_967) KK EE, ?_, ?_⟩
            · obtain ⟨K968, hK969, hw⟩ := cW_push hw
              refine ⟨_, rfl, _, rfl, rfl, rfl, G960, _, _, rfl, S959.sG, cW_call hw (fun v970 hw v973 H971 G974 e972 eG975 sG976 hn977 r978 => ?_) (fun e he H2 e2 => hE e he H2 (Same.trans S959.b0 e2))⟩
              have S979 := S959.step e972 eG975 sG976 hn977
              obtain ⟨a980, v982, v983, rfl, h981, r984, r985⟩ := rp_tup2 r978
              obtain rfl := rp_int r984
              obtain rfl := rp_int r985
              refine ⟨_, _, rfl, (SqT.of (S979.sG _ _ h981)), rfl, _, _, rfl, _, _, rfl, rfl, ?_⟩
              have hw := cW_ok hw
              have hw := hK969 _ hw
              exact ⟨(v970.1), (v970.2), _, rfl, eG975, S979, hw⟩
            · intro σ H986 hw
              obtain ⟨x0_966, x3_967, G988, rfl, eG989, S987, hw⟩ := hw
              unfold F__inverse_four_k5 at hw
              refine ⟨_, rfl, _, rfl, _, rfl, _, rfl, (by show 4 ≤ sizeLine; decide), fun p990 n991 => ?_⟩
              generalize g992 : upd H986 p990 _ = H993
              obtain ⟨e994, h995⟩ := gen_new n991 g992
              have h996 : H993 p990 = some (.lst (([x0_966, x1_938, x2_939, x3_967] : (List Int)).map V.int)) := h995
              have fr997 := S987.free n991
              have S998 := S987.new n991 e994 h996 fr997
              have hw := cW_ok hw
              exact hK0 _ hw _ _ fr997 S998.b0 h996

abbrev N__inverse_eight : List Str := ["values", "e0", "f0", "e1", "f2", "e2", "f1", "e3", "f3", "d2", "d3", "d0", "d1", "h1", "h2", "h0", "h3", "lows", "pairs", "low", "high", "first", "_", "second"]
theorem sc__inverse_eight : FnScope N__inverse_eight ["values"] (defScope s__inverse_eight) := ⟨rfl, rfl, rfl, by decide +kernel, rfl, by decide +kernel, by decide +kernel⟩
theorem ok__inverse_eight (D : DefX K mg "_inverse_eight" s__inverse_eight ["values"] pats__inverse_eight) (T : Txt K mg AD) (c_join_pair : CalX P w K mg base 1 "join_pair" (sp_join_pair K AD) pats_join_pair) (c_turn_back : CalX P w K mg base 1 "turn_back" (sp_turn_back K AD) pats_turn_back) (c__inverse_four : CalX P w K mg base 2 "_inverse_four" (sp__inverse_four K AD) pats__inverse_four) : CalX P w K mg base 3 "_inverse_eight" (sp__inverse_eight K AD) pats__inverse_eight := by
  refine D.ok sc__inverse_eight (fun vs H Q E h => ?_) (fun f cdv A_ outer s H vs Q E hr h => ?_)
  · obtain ⟨G, a_values, values', rfl, _⟩ := h
    rfl
  · obtain ⟨G, a_values, values', rfl, sG, q_values, hw⟩ := h
    refine ⟨_, (C8.pss_cut (ps_asg (pv 0) (pg_seqK (K := K) (n := 8) (pgs_cons (pg_name (i := 1) sc__inverse_eight.nd rfl (Or.inl rfl)) (pgs_cons (pg_name (i := 2) sc__inverse_eight.nd rfl (Or.inl rfl)) (pgs_cons (pg_name (i := 3) sc__inverse_eight.nd rfl (Or.inl rfl)) (pgs_cons (pg_name (i := 4) sc__inverse_eight.nd rfl (Or.inl rfl)) (pgs_cons (pg_name (i := 5) sc__inverse_eight.nd rfl (Or.inl rfl)) (pgs_cons (pg_name (i := 6) sc__inverse_eight.nd rfl (Or.inl rfl)) (pgs_cons (pg_name (i := 7) sc__inverse_eight.nd rfl (Or.inl rfl)) (pgs_cons (pg_name (i := 8) sc__inverse_eight.nd rfl (Or.inl rfl)) pgs_nil))))))))))
      (C8.pss_cut (ps_asg (vx_callX c_join_pair pat_join_pair_0 (.head _) hr (by decide) (takes_of rfl rfl rfl rfl) rfl (pa_cons (pv 4) (pa_cons (pv 8) pa_nil)) pk_nil) (pg_tupK (K := K) (n := 2) (pgs_cons (pg_name (i := 9) sc__inverse_eight.nd rfl (Or.inl rfl)) (pgs_cons (pg_name (i := 10) sc__inverse_eight.nd rfl (Or.inl rfl)) pgs_nil))))
      (C8.pss_cut (ps_asg (vx_callX c_join_pair pat_join_pair_0 (.head _) hr (by decide) (takes_of rfl rfl rfl rfl) rfl (pa_cons (pv 2) (pa_cons (pv 6) pa_nil)) pk_nil) (pg_tupK (K := K) (n := 2) (pgs_cons (pg_name (i := 11) sc__inverse_eight.nd rfl (Or.inl rfl)) (pgs_cons (pg_name (i := 12) sc__inverse_eight.nd rfl (Or.inl rfl)) pgs_nil))))
      (C8.pss_cut (ps_asg (vx_callX c_turn_back pat_turn_back_0 (.head _) hr (by decide) (takes_of rfl rfl rfl rfl) rfl (pa_cons (pv 12) (pa_cons (pv 9) pa_nil)) (pk_cons pe_int (pk_cons pe_int pk_nil))) (pg_tupK (K := K) (n := 2) (pgs_cons (pg_name (i := 13) sc__inverse_eight.nd rfl (Or.inl rfl)) (pgs_cons (pg_name (i := 14) sc__inverse_eight.nd rfl (Or.inl rfl)) pgs_nil))))
      (C8.pss_cut (ps_asg (vx_callX c_turn_back pat_turn_back_0 (.head _) hr (by decide) (takes_of rfl rfl rfl rfl) rfl (pa_cons (pv 11) (pa_cons (pv 10) pa_nil)) (pk_cons pe_int (pk_cons pe_int pk_nil))) (pg_tupK (K := K) (n := 2) (pgs_cons (pg_name (i := 15) sc__inverse_eight.nd rfl (Or.inl rfl)) (pgs_cons (pg_name (i := 16) sc__inverse_eight.nd rfl (Or.inl rfl)) pgs_nil))))
      (C8.pss_cut (ps_set (i := 17) sc__inverse_eight.nd rfl (Or.inl rfl) (vx_callX c__inverse_four pat__inverse_four_0 (.head _) hr (by decide) (takes_of rfl rfl rfl rfl) rfl (pa_cons (pe_lst (pa_cons (pv 1) (pa_cons (pv 3) (pa_cons (pv 5) (pa_cons (pv 7) pa_nil))))) pa_nil) pk_nil))
      (C8.pss_cut (ps_setLc (i := 18) (y := "pairs") rfl sc__inverse_eight.nd rfl rfl (sw_true rfl rfl rfl (by decide +kernel)) (own := [("low", 19), ("high", 20)]) (g := gTup K 2 (gCons (gName 19) (gCons (gName 20) gNil))) (pi_zipK (K := K) rfl T.b_zip (pa_cons (pv 17) (pa_cons (pe_lst (pa_cons (pv 15) (pa_cons (pv 13) (pa_cons (pv 14) (pa_cons (pv 16) pa_nil))))) pa_nil))) (blkOk_by (own := [("low", 19), ("high", 20)]) (N := N__inverse_eight) (sc := defScope s__inverse_eight) (by decide +kernel)) (fun _ _ _ _ _ => (pg_tupK (K := K) (n := 2) (pgs_cons (pg_name (i := 19) sc__inverse_eight.nd rfl (Or.inl rfl)) (pgs_cons (pg_name (i := 20) sc__inverse_eight.nd rfl (Or.inl rfl)) pgs_nil)))) (fun _ _ _ _ _ => pts_nil) (fun _ _ _ _ _ => (vx_callX c_join_pair pat_join_pair_0 (.head _) hr (by decide) takes0 rfl (pa_cons (pv 19) (pa_cons (pv 20) pa_nil)) pk_nil)))
      (pss_one (ps_ret (pe_op op_cat (pe_lc (own := [("first", 21), ("_", 22)]) (g := gTup K 2 (gCons (gName 21) (gCons (gName 22) gNil))) (by rfl) sc__inverse_eight.nd (pi_listK (K := K) (pv 18)) (blkOk_by (own := [("first", 21), ("_", 22)]) (N := N__inverse_eight) (sc := defScope s__inverse_eight) (by decide +kernel)) (fun _ _ _ _ _ => (pg_tupK (K := K) (n := 2) (pgs_cons (pg_name (i := 21) sc__inverse_eight.nd rfl (Or.inl rfl)) (pgs_cons (pg_name (i := 22) sc__inverse_eight.nd rfl (Or.inl rfl)) pgs_nil)))) (fun _ _ _ _ _ => pts_nil) (fun _ _ _ _ _ => (pv 21))) (pe_lc (own := [("_", 22), ("second", 23)]) (g := gTup K 2 (gCons (gName 22) (gCons (gName 23) gNil))) (by rfl) sc__inverse_eight.nd (pi_listK (K := K) (pe_revLK (K := K) (pv 18))) (blkOk_by (own := [("_", 22), ("second", 23)]) (N := N__inverse_eight) (sc := defScope s__inverse_eight) (by decide +kernel)) (fun _ _ _ _ _ => (pg_tupK (K := K) (n := 2) (pgs_cons (pg_name (i := 22) sc__inverse_eight.nd rfl (Or.inl rfl)) (pgs_cons (pg_name (i := 23) sc__inverse_eight.nd rfl (Or.inl rfl)) pgs_nil)))) (fun _ _ _ _ _ => pts_nil) (fun _ _ _ _ _ => (pv 23))))))))))))), ?_⟩
    obtain ⟨KK, EE, hK0, hE, hw⟩ := cW_gen hw
    have S0 := Sep.startG sG
    unfold F__inverse_eight at hw
    refine ⟨fun σ H' => ∃ (e0_1007 : Int) (f0_1008 : Int) (e1_1009 : Int) (f2_1010 : Int) (e2_1011 : Int) (f1_1012 : Int) (e3_1013 : Int) (f3_1014 : Int) (G' : Hp), σ = [some (V.ref a_values), some (V.int e0_1007), some (V.int f0_1008), some (V.int e1_1009), some (V.int f2_1010), some (V.int e2_1011), some (V.int f1_1012), some (V.int e3_1013), some (V.int f3_1014), none, none, none, none, none, none, none, none, none, none, none, none, none, none, none] ∧ Same G G' ∧ Sep [] H G G' H' [] ∧ cW (F__inverse_eight_k1  e0_1007 f0_1008 e1_1009 f2_1010 e2_1011 f1_1012 e3_1013 f3_1014) KK EE, ?_, ?_⟩
    · obtain ⟨K1015, hK1016, hw⟩ := cW_push hw
      obtain ⟨g1017, hw⟩ := cW_grd hw
      refine ⟨_, rfl, _, [V.int ((itD (values') 0)), V.int ((itD (values') 1)), V.int ((itD (values') 2)), V.int ((itD (values') 3)), V.int ((itD (values') 4)), V.int ((itD (values') 5)), V.int ((itD (values') 6)), V.int ((itD (values') 7))], rfl, (SqL.cast (SqL.of (S0.bM _ _ q_values)) (unp8 g1017)), rfl, _, _, rfl, _, _, rfl, _, _, rfl, _, _, rfl, _, _, rfl, _, _, rfl, _, _, rfl, _, _, rfl, rfl, ?_⟩
      have hw := cW_bnd hw
      have hw := cW_bnd hw
      have hw := cW_bnd hw
      have hw := cW_bnd hw
      have hw := cW_bnd hw
      have hw := cW_bnd hw
      have hw := cW_bnd hw
      have hw := cW_bnd hw
      have hw := cW_ok hw
      have hw := hK1016 _ hw
      exact ⟨((itD (values') 0)), ((itD (values') 1)), ((itD (values') 2)), ((itD (values') 3)), ((itD (values') 4)), ((itD (values') 5)), ((itD (values') 6)), ((itD (values') 7)), _, rfl, (Same.refl _), S0, hw⟩
    · intro σ H1026 hw
      obtain ⟨e0_1007, f0_1008, e1_1009, f2_1010, e2_1011, f1_1012, e3_1013, f3_1014, G1028, rfl, eG1029, S1027, hw⟩ := hw
      unfold F__inverse_eight_k1 at hw
      refine ⟨fun σ H' => ∃ (d2_1038 : Int) (d3_1039 : Int) (G' : Hp), σ = [some (V.ref a_values), some (V.int (e0_1007)), some (V.int (f0_1008)), some (V.int (e1_1009)), some (V.int (f2_1010)), some (V.int (e2_1011)), some (V.int (f1_1012)), some (V.int (e3_1013)), some (V.int (f3_1014)), some (V.int d2_1038), some (V.int d3_1039), none, none, none, none, none, none, none, none, none, none, none, none, none] ∧ Same G1028 G' ∧ Sep [] H G G' H' [] ∧ cW (F__inverse_eight_k2 (e0_1007) (f0_1008) (e1_1009) (e2_1011) (f1_1012) (e3_1013) d2_1038 d3_1039) KK EE, ?_, ?_⟩
      · obtain ⟨K1040, hK1041, hw⟩ := cW_push hw
        refine ⟨_, rfl, _, rfl, rfl, rfl, G1028, _, _, rfl, S1027.sG, cW_call hw (fun v1042 hw v1045 H1043 G1046 e1044 eG1047 sG1048 hn1049 r1050 => ?_) (fun e he H2 e2 => hE e he H2 (Same.trans S1027.b0 e2))⟩
        have S1051 := S1027.step e1044 eG1047 sG1048 hn1049
        obtain ⟨a1052, v1054, v1055, rfl, h1053, r1056, r1057⟩ := rp_tup2 r1050
        obtain rfl := rp_int r1056
        obtain rfl := rp_int r1057
        refine ⟨_, _, rfl, (SqT.of (S1051.sG _ _ h1053)), rfl, _, _, rfl, _, _, rfl, rfl, ?_⟩
        have hw := cW_ok hw
        have hw := hK1041 _ hw
        exact ⟨(v1042.1), (v1042.2), _, rfl, eG1047, S1051, hw⟩
      · intro σ H1058 hw
        obtain ⟨d2_1038, d3_1039, G1060, rfl, eG1061, S1059, hw⟩ := hw
        unfold F__inverse_eight_k2 at hw
        refine ⟨fun σ H' => ∃ (d0_1070 : Int) (d1_1071 : Int) (G' : Hp), σ = [some (V.ref a_values), some (V.int (e0_1007)), some (V.int (f0_1008)), some (V.int (e1_1009)), some (V.int (f2_1010)), some (V.int (e2_1011)), some (V.int (f1_1012)), some (V.int (e3_1013)), some (V.int (f3_1014)), some (V.int (d2_1038)), some (V.int (d3_1039)), some (V.int d0_1070), some (V.int d1_1071), none, none, none, none, none, none, none, none, none, none, none] ∧ Same G1060 G' ∧ Sep [] H G G' H' [] ∧ cW (F__inverse_eight_k3 (e0_1007) (e1_1009) (e2_1011) (e3_1013) (d2_1038) (d3_1039) d0_1070 d1_1071) KK EE, ?_, ?_⟩
        · obtain ⟨K1072, hK1073, hw⟩ := cW_push hw
          refine ⟨_, rfl, _, rfl, rfl, rfl, G1060, _, _, rfl, S1059.sG, cW_call hw (fun v1074 hw v1077 H1075 G1078 e1076 eG1079 sG1080 hn1081 r1082 => ?_) (fun e he H2 e2 => hE e he H2 (Same.trans S1059.b0 e2))⟩
          have S1083 := S1059.step e1076 eG1079 sG1080 hn1081
          obtain ⟨a1084, v1086, v1087, rfl, h1085, r1088, r1089⟩ := rp_tup2 r1082
          obtain rfl := rp_int r1088
          obtain rfl := rp_int r1089
          refine ⟨_, _, rfl, (SqT.of (S1083.sG _ _ h1085)), rfl, _, _, rfl, _, _, rfl, rfl, ?_⟩
          have hw := cW_ok hw
          have hw := hK1073 _ hw
          exact ⟨(v1074.1), (v1074.2), _, rfl, eG1079, S1083, hw⟩
        · intro σ H1090 hw
          obtain ⟨d0_1070, d1_1071, G1092, rfl, eG1093, S1091, hw⟩ := hw
          unfold F__inverse_eight_k3 at hw
          refine ⟨fun σ H' => ∃ (h1_1102 : Int) (h2_1103 : Int) (G' : Hp), σ = [some (V.ref a_values), some (V.int (e0_1007)), some (V.int (f0_1008)), some (V.int (e1_1009)), some (V.int (f2_1010)), some (V.int (e2_1011)), some (V.int (f1_1012)), some (V.int (e3_1013)), some (V.int (f3_1014)), some (V.int (d2_1038)), some (V.int (d3_1039)), some (V.int (d0_1070)), some (V.int (d1_1071)), some (V.int h1_1102), some (V.int h2_1103), none, none, none, none, none, none, none, none, none] ∧ Same G1092 G' ∧ Sep [] H G G' H' [] ∧ cW (F__inverse_eight_k4 (e0_1007) (e1_1009) (e2_1011) (e3_1013) (d3_1039) (d0_1070) h1_1102 h2_1103) KK EE, ?_, ?_⟩
          · obtain ⟨K1104, hK1105, hw⟩ := cW_push hw
            refine ⟨_, rfl, _, rfl, rfl, rfl, G1092, _, _, _, _, rfl, S1091.sG, cW_call hw (fun v1106 hw v1109 H1107 G1110 e1108 eG1111 sG1112 hn1113 r1114 => ?_) (fun e he H2 e2 => hE e he H2 (Same.trans S1091.b0 e2))⟩
            have S1115 := S1091.step e1108 eG1111 sG1112 hn1113
            obtain ⟨a1116, v1118, v1119, rfl, h1117, r1120, r1121⟩ := rp_tup2 r1114
            obtain rfl := rp_int r1120
            obtain rfl := rp_int r1121
            refine ⟨_, _, rfl, (SqT.of (S1115.sG _ _ h1117)), rfl, _, _, rfl, _, _, rfl, rfl, ?_⟩
            have hw := cW_ok hw
            have hw := hK1105 _ hw
            exact ⟨(v1106.1), (v1106.2), _, rfl, eG1111, S1115, hw⟩
          · intro σ H1122 hw
            obtain ⟨h1_1102, h2_1103, G1124, rfl, eG1125, S1123, hw⟩ := hw
            unfold F__inverse_eight_k4 at hw
            refine ⟨fun σ H' => ∃ (h0_1134 : Int) (h3_1135 : Int) (G' : Hp), σ = [some (V.ref a_values), some (V.int (e0_1007)), some (V.int (f0_1008)), some (V.int (e1_1009)), some (V.int (f2_1010)), some (V.int (e2_1011)), some (V.int (f1_1012)), some (V.int (e3_1013)), some (V.int (f3_1014)), some (V.int (d2_1038)), some (V.int (d3_1039)), some (V.int (d0_1070)), some (V.int (d1_1071)), some (V.int (h1_1102)), some (V.int (h2_1103)), some (V.int h0_1134), some (V.int h3_1135), none, none, none, none, none, none, none] ∧ Same G1124 G' ∧ Sep [] H G G' H' [] ∧ cW (F__inverse_eight_k5 (e0_1007) (e1_1009) (e2_1011) (e3_1013) (h1_1102) (h2_1103) h0_1134 h3_1135) KK EE, ?_, ?_⟩
            · obtain ⟨K1136, hK1137, hw⟩ := cW_push hw
              refine ⟨_, rfl, _, rfl, rfl, rfl, G1124, _, _, _, _, rfl, S1123.sG, cW_call hw (fun v1138 hw v1141 H1139 G1142 e1140 eG1143 sG1144 hn1145 r1146 => ?_) (fun e he H2 e2 => hE e he H2 (Same.trans S1123.b0 e2))⟩
              have S1147 := S1123.step e1140 eG1143 sG1144 hn1145
              obtain ⟨a1148, v1150, v1151, rfl, h1149, r1152, r1153⟩ := rp_tup2 r1146
              obtain rfl := rp_int r1152
              obtain rfl := rp_int r1153
              refine ⟨_, _, rfl, (SqT.of (S1147.sG _ _ h1149)), rfl, _, _, rfl, _, _, rfl, rfl, ?_⟩
              have hw := cW_ok hw
              have hw := hK1137 _ hw
              exact ⟨(v1138.1), (v1138.2), _, rfl, eG1143, S1147, hw⟩
            · intro σ H1154 hw
              obtain ⟨h0_1134, h3_1135, G1156, rfl, eG1157, S1155, hw⟩ := hw
              unfold F__inverse_eight_k5 at hw
              refine ⟨fun σ H' => ∃ (p1164 : Addr) (lows_1163 : (List Int)) (G' : Hp), σ = [some (V.ref a_values), some (V.int (e0_1007)), some (V.int (f0_1008)), some (V.int (e1_1009)), some (V.int (f2_1010)), some (V.int (e2_1011)), some (V.int (f1_1012)), some (V.int (e3_1013)), some (V.int (f3_1014)), some (V.int (d2_1038)), some (V.int (d3_1039)), some (V.int (d0_1070)), some (V.int (d1_1071)), some (V.int (h1_1102)), some (V.int (h2_1103)), some (V.int (h0_1134)), some (V.int (h3_1135)), some (V.ref p1164), none, none, none, none, none, none] ∧ Same G1156 G' ∧ Sep [] H G G' H' [p1164] ∧ H' p1164 = some (.lst ((lows_1163 : (List Int)).map V.int)) ∧ H p1164 = none ∧ cW (F__inverse_eight_k6 (h1_1102) (h2_1103) (h0_1134) (h3_1135) lows_1163) KK EE, ?_, ?_⟩
              · obtain ⟨K1165, hK1166, hw⟩ := cW_push hw
                refine ⟨_, rfl, _, rfl, _, rfl, _, rfl, (by show 4 ≤ sizeLine; decide), fun p1167 n1168 => ?_⟩
                generalize g1169 : upd H1154 p1167 _ = H1170
                obtain ⟨e1171, h1172⟩ := gen_new n1168 g1169
                have h1173 : H1170 p1167 = some (.lst (([e0_1007, e1_1009, e2_1011, e3_1013] : (List Int)).map V.int)) := h1172
                have fr1174 := S1155.free n1168
                have S1175 := S1155.new n1168 e1171 h1173 fr1174
                refine ⟨rfl, rfl, G1156, _, _, rfl, S1175.sG, (hide_nil h1173), cW_call hw (fun v1176 hw p1179 H1177 n1180 e1178 h1181 => ?_) (fun e he H2 e2 => hE e he H2 (Same.trans S1175.b0 e2))⟩
                have h1182 : H1177 p1179 = some (.lst ((v1176 : (List Int)).map V.int)) := h1181
                have fr1183 := S1175.free n1180
                have S1184 := S1175.new n1180 e1178 h1182 fr1183
                have hw := cW_ok hw
                have hw := hK1166 _ hw
                exact ⟨_, (v1176), _, rfl, (Same.refl _), (S1184.sub (all_cons (.head _) all_nil)), h1182, fr1183, hw⟩
              · intro σ H1185 hw
                obtain ⟨p1164, lows_1163, G1189, rfl, eG1190, S1186, h1187, fr1188, hw⟩ := hw
                unfold F__inverse_eight_k6 at hw
                refine ⟨fun σ H' => ∃ (p1193 : Addr) (pairs_1192 : (List (Int × Int))) (vs1194 : List V) (G' : Hp), σ = [some (V.ref a_values), some (V.int (e0_1007)), some (V.int (f0_1008)), some (V.int (e1_1009)), some (V.int (f2_1010)), some (V.int (e2_1011)), some (V.int (f1_1012)), some (V.int (e3_1013)), some (V.int (f3_1014)), some (V.int (d2_1038)), some (V.int (d3_1039)), some (V.int (d0_1070)), some (V.int (d1_1071)), some (V.int (h1_1102)), some (V.int (h2_1103)), some (V.int (h0_1134)), some (V.int (h3_1135)), some (V.ref p1164), some (V.ref p1193), none, none, none, none, none] ∧ Same G1189 G' ∧ Sep [] H G G' H' [p1164, p1193] ∧ H' p1164 = some (.lst ((lows_1163 : (List Int)).map V.int)) ∧ H' p1193 = some (.lst (vs1194)) ∧ H p1193 = none ∧ p1193 ≠ p1164 ∧ RpAll G' (vs1194) ((pairs_1192 : (List (Int × Int))).map (encT2 PyData.int PyData.int)) ∧ cW (F__inverse_eight_k7  pairs_1192) KK EE, ?_, ?_⟩
                · obtain ⟨K1195, hK1196, hw⟩ := cW_push hw
                  refine ⟨_, rfl, _, rfl, _, rfl, _, rfl, _, rfl, (by show 4 ≤ sizeLine; decide), fun p1197 n1198 => ?_⟩
                  generalize g1199 : upd H1185 p1197 _ = H1200
                  obtain ⟨e1201, h1202⟩ := gen_new n1198 g1199
                  have h1203 : H1200 p1197 = some (.lst (([h0_1134, h1_1102, h2_1103, h3_1135] : (List Int)).map V.int)) := h1202
                  have fr1204 := S1186.free n1198
                  have S1205 := S1186.new n1198 e1201 h1203 fr1204
                  obtain ⟨g1206, hw⟩ := cW_grd hw
                  have h1207 := (e1201 _ _ h1187)
                  obtain ⟨K1209, hK1210, hw⟩ := cW_push hw
                  refine ⟨_, _, _, _, rfl, .inl ⟨(SqL.of h1207), (SqL.of h1203), fun D1211 n1212 => lc_zipL (K := K) (a := p1164) (b := p1197) (xs := (lows_1163 : (List Int)).map V.int) (ys := ([h0_1134, h1_1102, h2_1103, h3_1135] : (List Int)).map V.int) (by simpa using g1206) (fun i H' => ∃ (G' : Hp) (acc1213 : (List (Int × Int))) (vs1214 : List V), Same G1189 G' ∧ Sep [] H G G' H' [D1211, p1164, p1197] ∧ H' p1164 = some (.lst ((lows_1163 : (List Int)).map V.int)) ∧ H' p1197 = some (.lst (([h0_1134, h1_1102, h2_1103, h3_1135] : (List Int)).map V.int)) ∧ H' D1211 = some (.lst vs1214) ∧ RpAll G' vs1214 ((acc1213 : (List (Int × Int))).map (encT2 PyData.int PyData.int)) ∧ cW (mapA (List.drop i (List.zip (lows_1163) ([h0_1134, h1_1102, h2_1103, h3_1135]))) acc1213 (fun x => noEr (F__inverse_eight_c8  x))) K1209 EE) ?_ ?_ ?_ ?_⟩⟩
                  · generalize g1215 : upd H1200 D1211 _ = H1216
                    obtain ⟨e1217, h1218⟩ := gen_new n1212 g1215
                    have fr1219 := S1205.free n1212
                    have S1220 := S1205.new n1212 e1217 h1218 fr1219
                    have h1221 := (e1217 _ _ h1207)
                    have h1222 := (e1217 _ _ h1203)
                    exact ⟨_, [], [], Same.refl _, (S1220.sub (all_cons (.head _) (all_cons (.tail _ (.tail _ (.head _))) (all_cons (.tail _ (.head _)) all_nil)))), h1221, h1222, h1218, RpAll.nil, hw⟩
                  · intro i H1223 _ hw
                    obtain ⟨G1226, acc1228, vs1229, eG1227, S1224, h1231, h1232, h1225, d1230, hw⟩ := hw
                    exact ⟨(SqL.of h1231), (SqL.of h1232)⟩
                  · intro i x y T_ H1233 hj hj2 n1234 hw
                    obtain ⟨G1237, acc1239, vs1240, eG1238, S1235, h1242, h1243, h1236, d1241, hw⟩ := hw
                    obtain ⟨x1244, hx1245, rfl⟩ := map_get hj
                    obtain ⟨x1246, hx1247, rfl⟩ := map_get hj2
                    generalize g1248 : upd H1233 T_ _ = H1249
                    obtain ⟨e1250, h1251⟩ := gen_new n1234 g1248
                    have h1252 : H1249 T_ = some (.tup [V.int (x1244), V.int (x1246)]) := h1251
                    have fr1253 := S1235.free n1234
                    obtain ⟨G1255, eG1256, hg1257, S1254⟩ := S1235.grow n1234 e1250 h1252 fr1253
                    obtain ⟨z1258, hw⟩ := cW_mapA (zip_get hx1245 hx1247) hw
                    have hw := cW_noEr hw
                    have hw : cW (F__inverse_eight_c8  ((x1244, x1246))) _ (fun _ => False) := hw
                    unfold F__inverse_eight_c8 at hw
                    refine ⟨_, _, rfl, (SqT.of (S1254.sG _ _ hg1257)), rfl, _, _, rfl, _, _, rfl, rfl, rfl, ?_⟩
                    refine tyes_go ?_
                    refine ⟨_, rfl, _, rfl, rfl, rfl, G1255, _, _, rfl, S1254.sG, cW_call hw (fun v1260 hw v1263 H1261 G1264 e1262 eG1265 sG1266 hn1267 r1268 => ?_) (fun e he => he.elim)⟩
                    have S1269 := S1254.step e1262 eG1265 sG1266 hn1267
                    obtain ⟨a1270, v1272, v1273, rfl, h1271, r1274, r1275⟩ := rp_tup2 r1268
                    obtain rfl := rp_int r1274
                    obtain rfl := rp_int r1275
                    have h1276 := (e1262 _ _ (e1250 _ _ h1236))
                    refine ⟨_, h1276, (app_len (RpAll.mono eG1265 (RpAll.mono eG1256 d1241)) z1258), ?_⟩
                    generalize g1277 : upd H1261 D1211 _ = H1278
                    obtain ⟨x1279, h1280⟩ := gen_mut g1277
                    have S1281 := S1269.mut1 x1279 (.head _) h1280
                    have hw := cW_ok hw
                    have h1282 := (x1279 _ _ (e1262 _ _ (e1250 _ _ h1242)) (ne_of_none h1207 n1212))
                    have h1283 := (x1279 _ _ (e1262 _ _ (e1250 _ _ h1243)) (ne_of_none h1203 n1212))
                    exact ⟨_, (acc1239 ++ [v1260]), _, (Same.trans (Same.trans eG1238 eG1256) eG1265), S1281, h1282, h1283, h1280, (app_map (RpAll.mono eG1265 (RpAll.mono eG1256 d1241)) (RpAll.one (rp_mk2 h1271 (.int _) (.int _)))), hw⟩
                  intro H1284 hw
                  obtain ⟨G1287, acc1289, vs1290, eG1288, S1285, h1292, h1293, h1286, d1291, hw⟩ := hw
                  have hw := hK1210 _ (cW_mapA0 (zip_len g1206 (by rw [List.length_map])) hw)
                  have fr1294 := S1205.free n1212
                  have hw := cW_ok hw
                  have hw := hK1196 _ hw
                  exact ⟨_, (acc1289), _, _, rfl, eG1288, (S1285.sub (all_cons (.tail _ (.head _)) (all_cons (.head _) all_nil))), h1292, h1286, fr1294, (ne_of_none h1207 n1212).symm, d1291, hw⟩
                · intro σ H1295 hw
                  obtain ⟨p1193, pairs_1192, vs1194, G1302, rfl, eG1303, S1296, h1297, h1298, fr1299, ne1300, d1301, hw⟩ := hw
                  unfold F__inverse_eight_k7 at hw
                  obtain ⟨K1305, hK1306, hw⟩ := cW_push hw
                  refine ⟨_, rfl, _, rfl, ⟨_, (SqL.of h1298)⟩, fun D1307 n1308 => lc_list (K := K) (a := p1193) (xs := vs1194) (fun i H' => ∃ (G' : Hp) (acc1309 : (List Int)), Same G1302 G' ∧ Sep [] H G G' H' [D1307, p1164, p1193] ∧ H' p1164 = some (.lst ((lows_1163 : (List Int)).map V.int)) ∧ H' p1193 = some (.lst (vs1194)) ∧ H' D1307 = some (.lst ((acc1309 : (List Int)).map V.int)) ∧ cW (mapA (List.drop i (pairs_1192)) acc1309 (fun x => noEr (F__inverse_eight_c9  x))) K1305 EE) ?_ ?_ ?_ ?_⟩
                  · generalize g1311 : upd H1295 D1307 _ = H1312
                    obtain ⟨e1313, h1314⟩ := gen_new n1308 g1311
                    have fr1315 := S1296.free n1308
                    have S1316 := S1296.new n1308 e1313 h1314 fr1315
                    have h1317 := (e1313 _ _ h1297)
                    have h1318 := (e1313 _ _ h1298)
                    exact ⟨_, [], Same.refl _, S1316, h1317, h1318, h1314, hw⟩
                  · intro i H1319 _ hw
                    obtain ⟨G1322, acc1324, eG1323, S1320, h1327, h1328, h1321, hw⟩ := hw
                    exact (SqL.of h1328)
                  · intro i x H1329 hj hw
                    obtain ⟨G1332, acc1334, eG1333, S1330, h1337, h1338, h1331, hw⟩ := hw
                    obtain ⟨x1339, hx, r1340⟩ := RpAll.get (RpAll.mono eG1333 d1301) hj
                    obtain ⟨a1341, v1343, v1344, rfl, h1342, r1345, r1346⟩ := rp_tup2 r1340
                    obtain rfl := rp_int r1345
                    obtain rfl := rp_int r1346
                    obtain ⟨z1347, hw⟩ := cW_mapA hx hw
                    have hw := cW_noEr hw
                    have hw : cW (F__inverse_eight_c9  (x1339)) _ (fun _ => False) := hw
                    unfold F__inverse_eight_c9 at hw
                    refine ⟨_, _, rfl, (SqT.of (S1330.sG _ _ h1342)), rfl, _, _, rfl, _, _, rfl, rfl, rfl, ?_⟩
                    refine tyes_go ?_
                    refine ⟨_, rfl, _, h1331, (app_lenM z1347), ?_⟩
                    generalize g1349 : upd H1329 D1307 _ = H1350
                    obtain ⟨x1351, h1352⟩ := gen_mut g1349
                    have S1353 := S1330.mut1 x1351 (.head _) h1352
                    have hw := cW_ok hw
                    have h1354 := (x1351 _ _ h1337 (ne_of_none h1297 n1308))
                    have h1355 := (x1351 _ _ h1338 (ne_of_none h1298 n1308))
                    exact ⟨_, (acc1334 ++ [x1339.1]), eG1333, S1353, h1354, h1355, (snoc_map h1352), hw⟩
                  intro H1356 hw
                  obtain ⟨G1359, acc1361, eG1360, S1357, h1364, h1365, h1358, hw⟩ := hw
                  have hw := hK1306 _ (cW_mapA0 (by rw [(RpAll.mono eG1360 d1301).len, List.length_map]) hw)
                  have fr1366 := S1296.free n1308
                  obtain ⟨G1367, eG1368, hg1369, S1370⟩ := Sep.freeze (O' := [D1307, p1164]) S1357 (.tail _ (.tail _ (.head _))) h1365 fr1299 ((all_cons ⟨(.head _), (ne_of_none h1298 n1308).symm⟩ (all_cons ⟨(.tail _ (.head _)), (ne1300).symm⟩ all_nil)))
                  refine ⟨_, rfl, _, _, rfl, (SqL.of h1365), fun p1371 n1372 => ?_⟩
                  generalize g1373 : upd H1356 p1371 _ = H1374
                  obtain ⟨e1375, h1376⟩ := gen_new n1372 g1373
                  have h1377 : H1374 p1371 = some (.lst ((vs1194).reverse)) := h1376
                  have fr1378 := S1370.free n1372
                  have S1379 := S1370.new n1372 e1375 h1377 fr1378
                  have d1380 : RpAll G1367 ((vs1194).reverse) (((pairs_1192).reverse : (List (Int × Int))).map (encT2 PyData.int PyData.int)) := rev_all (RpAll.mono eG1368 (RpAll.mono eG1360 d1301))
                  obtain ⟨K1382, hK1383, hw⟩ := cW_push hw
                  refine ⟨_, rfl, ⟨_, (SqL.of h1377)⟩, fun D1384 n1385 => lc_list (K := K) (a := p1371) (xs := (vs1194).reverse) (fun i H' => ∃ (G' : Hp) (acc1386 : (List Int)), Same G1367 G' ∧ Sep [] H G G' H' [D1384, p1164, p1371, D1307] ∧ H' p1164 = some (.lst ((lows_1163 : (List Int)).map V.int)) ∧ H' p1371 = some (.lst ((vs1194).reverse)) ∧ H' D1307 = some (.lst ((acc1361 : (List Int)).map V.int)) ∧ H' D1384 = some (.lst ((acc1386 : (List Int)).map V.int)) ∧ cW (mapA (List.drop i ((pairs_1192).reverse)) acc1386 (fun x => noEr (F__inverse_eight_c10  x))) K1382 EE) ?_ ?_ ?_ ?_⟩
                  · generalize g1388 : upd H1374 D1384 _ = H1389
                    obtain ⟨e1390, h1391⟩ := gen_new n1385 g1388
                    have fr1392 := S1379.free n1385
                    have S1393 := S1379.new n1385 e1390 h1391 fr1392
                    have h1394 := (e1390 _ _ (e1375 _ _ h1364))
                    have h1395 := (e1390 _ _ h1377)
                    have h1396 := (e1390 _ _ (e1375 _ _ h1358))
                    exact ⟨_, [], Same.refl _, (S1393.sub (all_cons (.head _) (all_cons (.tail _ (.tail _ (.tail _ (.head _)))) (all_cons (.tail _ (.head _)) (all_cons (.tail _ (.tail _ (.head _))) all_nil))))), h1394, h1395, h1396, h1391, hw⟩
                  · intro i H1397 _ hw
                    obtain ⟨G1400, acc1402, eG1401, S1398, h1405, h1406, h1407, h1399, hw⟩ := hw
                    exact (SqL.of h1406)
                  · intro i x H1408 hj hw
                    obtain ⟨G1411, acc1413, eG1412, S1409, h1416, h1417, h1418, h1410, hw⟩ := hw
                    obtain ⟨x1419, hx, r1420⟩ := RpAll.get (RpAll.mono eG1412 d1380) hj
                    obtain ⟨a1421, v1423, v1424, rfl, h1422, r1425, r1426⟩ := rp_tup2 r1420
                    obtain rfl := rp_int r1425
                    obtain rfl := rp_int r1426
                    obtain ⟨z1427, hw⟩ := cW_mapA hx hw
                    have hw := cW_noEr hw
                    have hw : cW (F__inverse_eight_c10  (x1419)) _ (fun _ => False) := hw
                    unfold F__inverse_eight_c10 at hw
                    refine ⟨_, _, rfl, (SqT.of (S1409.sG _ _ h1422)), rfl, _, _, rfl, _, _, rfl, rfl, rfl, ?_⟩
                    refine tyes_go ?_
                    refine ⟨_, rfl, _, h1410, (app_lenM z1427), ?_⟩
                    generalize g1429 : upd H1408 D1384 _ = H1430
                    obtain ⟨x1431, h1432⟩ := gen_mut g1429
                    have S1433 := S1409.mut1 x1431 (.head _) h1432
                    have hw := cW_ok hw
                    have h1434 := (x1431 _ _ h1416 (ne_of_none (e1375 _ _ h1364) n1385))
                    have h1435 := (x1431 _ _ h1417 (ne_of_none h1377 n1385))
                    have h1436 := (x1431 _ _ h1418 (ne_of_none (e1375 _ _ h1358) n1385))
                    exact ⟨_, (acc1413 ++ [x1419.2]), eG1412, S1433, h1434, h1435, h1436, (snoc_map h1432), hw⟩
                  intro H1437 hw
                  obtain ⟨G1440, acc1442, eG1441, S1438, h1445, h1446, h1447, h1439, hw⟩ := hw
                  have hw := hK1383 _ (cW_mapA0 (by rw [(RpAll.mono eG1441 d1380).len, List.length_map]) hw)
                  have fr1448 := S1379.free n1385
                  obtain ⟨g1449, hw⟩ := cW_grd hw
                  refine ⟨_, _, _, _, rfl, rfl, h1447, h1439, (cat_lenM g1449), fun p1450 n1451 => ?_⟩
                  generalize g1452 : upd H1437 p1450 _ = H1453
                  obtain ⟨e1454, h1455⟩ := gen_new n1451 g1452
                  have h1456 : H1453 p1450 = some (.lst (((acc1361) ++ (acc1442) : (List Int)).map V.int)) := cat_map h1455
                  have fr1457 := S1438.free n1451
                  have S1458 := S1438.new n1451 e1454 h1456 fr1457
                  have hw := cW_ok hw
                  exact hK0 _ hw _ _ fr1457 S1458.b0 h1456

abbrev N_inverse : List Str := ["values"]
theorem sc_inverse : FnScope N_inverse ["values"] (defScope s_inverse) := ⟨rfl, rfl, rfl, by decide +kernel, rfl, by decide +kernel, by decide +kernel⟩
theorem ok_inverse (D : DefX K mg "inverse" s_inverse ["values"] pats_inverse) (T : Txt K mg AD) (c_check_size : CalX P w K mg base 1 "check_size" (sp_check_size K AD) pats_check_size) (c__inverse_four : CalX P w K mg base 2 "_inverse_four" (sp__inverse_four K AD) pats__inverse_four) (c__inverse_eight : CalX P w K mg base 3 "_inverse_eight" (sp__inverse_eight K AD) pats__inverse_eight) : CalX P w K mg base 4 "inverse" (sp_inverse K AD) pats_inverse := by
  refine D.ok sc_inverse (fun vs H Q E h => ?_) (fun f cdv A_ outer s H vs Q E hr h => ?_)
  · obtain ⟨G, a_values, values', rfl, _⟩ := h
    rfl
  · obtain ⟨G, a_values, values', rfl, sG, q_values, hw⟩ := h
    refine ⟨_, (pss_cons (ps_expr (vx_callX c_check_size pat_check_size_0 (.head _) hr (by decide) (takes_of rfl rfl rfl rfl) rfl (pa_cons (pe_callB (call_lenLiK (K := K)) (by rfl) T.b_len (by decide +kernel) (pa_cons (pv 0) pa_nil)) pa_nil) pk_nil))
      (pss_one (ps_ret (pe_ifExp (pt_cmp (pc_eqI (pe_callB (call_lenLiK (K := K)) (by rfl) T.b_len (by decide +kernel) (pa_cons (pv 0) pa_nil)) pe_int)) (vx_callX c__inverse_four pat__inverse_four_0 (.head _) hr (by decide) (takes_of rfl rfl rfl rfl) rfl (pa_cons (pv 0) pa_nil) pk_nil) (vx_callX c__inverse_eight pat__inverse_eight_0 (.head _) hr (by decide) (takes_of rfl rfl rfl rfl) rfl (pa_cons (pv 0) pa_nil) pk_nil))))), ?_⟩
    obtain ⟨KK, EE, hK0, hE, hw⟩ := cW_gen hw
    have S0 := Sep.startG sG
    unfold F_inverse at hw
    refine ⟨_, rfl, _, _, rfl, (SqL.of (S0.bM _ _ q_values)), rfl, rfl, G, _, rfl, S0.sG, cW_call hw (fun v1459 hw => ?_) (fun e he => hE e he _ S0.b0)⟩
    refine ⟨_, rfl, _, _, rfl, (SqL.of (S0.bM _ _ q_values)), _, _, rfl, rfl, _, rfl, ?_⟩
    refine iteD (fun c1460 => ?_) (fun c1460 => ?_)
    · have hw := cW_pos c1460 hw
      refine ⟨_, rfl, rfl, rfl, G, _, _, rfl, S0.sG, (hide_nil (S0.bM _ _ q_values)), cW_call hw (fun v1461 hw p1464 H1462 n1465 e1463 h1466 => ?_) (fun e he H2 e2 => hE e he H2 (Same.trans S0.b0 e2))⟩
      have h1467 : H1462 p1464 = some (.lst ((v1461 : (List Int)).map V.int)) := h1466
      have fr1468 := S0.free n1465
      have S1469 := S0.new n1465 e1463 h1467 fr1468
      have hw := cW_ok hw
      exact hK0 _ hw _ _ fr1468 S1469.b0 h1467
    · have hw := cW_neg c1460 hw
      refine ⟨_, rfl, rfl, rfl, G, _, _, rfl, S0.sG, (hide_nil (S0.bM _ _ q_values)), cW_call hw (fun v1470 hw p1473 H1471 n1474 e1472 h1475 => ?_) (fun e he H2 e2 => hE e he H2 (Same.trans S0.b0 e2))⟩
      have h1476 : H1471 p1473 = some (.lst ((v1470 : (List Int)).map V.int)) := h1475
      have fr1477 := S0.free n1474
      have S1478 := S0.new n1474 e1472 h1476 fr1477
      have hw := cW_ok hw
      exact hK0 _ hw _ _ fr1477 S1478.b0 h1476

abbrev N__law_cell : List Str := ["script", "k"]
theorem sc__law_cell : FnScope N__law_cell ["script", "k"] (defScope s__law_cell) := ⟨rfl, rfl, rfl, by decide +kernel, rfl, by decide +kernel, by decide +kernel⟩
theorem ok__law_cell (D : DefX K mg "_law_cell" s__law_cell ["script", "k"] pats__law_cell) (T : Txt K mg AD)  : CalX P w K mg base 1 "_law_cell" (sp__law_cell K AD) pats__law_cell := by
  refine D.ok sc__law_cell (fun vs H Q E h => ?_) (fun f cdv A_ outer s H vs Q E hr h => ?_)
  · obtain ⟨G, a_script, script', k', rfl, _⟩ := h
    rfl
  · obtain ⟨G, a_script, script', k', rfl, sG, q_script, hw⟩ := h
    refine ⟨_, (pss_cons (ps_if (pt_cmp (pc_lt (pv 1) (pe_callB (call_lenLiK (K := K)) (by rfl) T.b_len (by decide +kernel) (pa_cons (pv 0) pa_nil)))) (pss_one (ps_ret (pe_callB call_abs (by rfl) T.b_abs (by decide +kernel) (pa_cons (pe_callTy call_int1 (by rfl) T.b_int (by decide +kernel) (pa_cons (pe_ix (ix_listK (K := K)) (pv 0) (pv 1) (fun _ _ => rfl)) pa_nil)) pa_nil)))) pss_nil)
      (pss_one (ps_ret pe_int))), ?_⟩
    obtain ⟨KK, EE, hK0, hE, hw⟩ := cW_gen hw
    have S0 := Sep.startG sG
    unfold F__law_cell at hw
    refine ⟨_, rfl, _, rfl, _, _, rfl, (S0.b0.seq q_script), _, _, rfl, rfl, _, rfl, ?_⟩
    refine iteD (fun c1479 => ?_) (fun c1479 => ?_)
    · have hw := cW_pos c1479 hw
      obtain ⟨g1480, hw⟩ := cW_grd hw
      refine ⟨_, rfl, _, rfl, _, _, _, _, rfl, rfl, (S0.b0.seq q_script), (atI_map g1480), .inl ⟨_, rfl, ?_⟩⟩
      refine ⟨_, rfl, ?_⟩
      have hw := cW_ok hw
      exact hK0 _ hw
    · have hw := cW_neg c1479 hw
      have hw := cW_ok hw
      exact hK0 _ hw

abbrev N__law_eight : List Str := ["x", "even", "high", "outside", "inside", "front", "back", "k"]
theorem sc__law_eight : FnScope N__law_eight ["x"] (defScope s__law_eight) := ⟨rfl, rfl, rfl, by decide +kernel, rfl, by decide +kernel, by decide +kernel⟩
theorem ok__law_eight (D : DefX K mg "_law_eight" s__law_eight ["x"] pats__law_eight) (T : Txt K mg AD) (c__law_four : CalX P w K mg base 2 "_law_four" (sp__law_four K AD) pats__law_four) (c__law_turned : CalX P w K mg base 1 "_law_turned" (sp__law_turned K AD) pats__law_turned) : CalX P w K mg base 3 "_law_eight" (sp__law_eight K AD) pats__law_eight := by
  refine D.ok sc__law_eight (fun vs H Q E h => ?_) (fun f cdv A_ outer s H vs Q E hr h => ?_)
  · obtain ⟨G, a_x, x', rfl, _⟩ := h
    rfl
  · obtain ⟨G, a_x, x', rfl, sG, q_x, hw⟩ := h
    refine ⟨_, (pss_cons (ps_set (i := 1) sc__law_eight.nd rfl (Or.inl rfl) (vx_callX c__law_four pat__law_four_0 (.head _) hr (by decide) (takes_of rfl rfl rfl rfl) rfl (pa_cons (pe_lc (own := [("k", 7)]) (g := gName 7) (by rfl) sc__law_eight.nd (pi_range1 rfl T.b_range (pa_cons pe_int pa_nil)) (blkOk_by (own := [("k", 7)]) (N := N__law_eight) (sc := defScope s__law_eight) (by decide +kernel)) (fun _ _ _ _ _ => (pg_name (i := 7) sc__law_eight.nd rfl (Or.inl rfl))) (fun _ _ _ _ _ => pts_nil) (fun _ _ _ _ _ => (pe_op op_shr (pe_op op_add (pe_ix (ix_listK (K := K)) (pv 0) (pv 7) (fun _ _ => rfl)) (pe_ix (ix_listK (K := K)) (pv 0) (pe_op op_sub pe_int (pv 7)) (fun _ _ => rfl))) pe_int))) pa_nil) pk_nil))
      (pss_cons (ps_setLc (i := 2) (y := "high") rfl sc__law_eight.nd rfl rfl (sw_true rfl rfl rfl (by decide +kernel)) (own := [("k", 7)]) (g := gName 7) (pi_range1 rfl T.b_range (pa_cons pe_int pa_nil)) (blkOk_by (own := [("k", 7)]) (N := N__law_eight) (sc := defScope s__law_eight) (by decide +kernel)) (fun _ _ _ _ _ => (pg_name (i := 7) sc__law_eight.nd rfl (Or.inl rfl))) (fun _ _ _ _ _ => pts_nil) (fun _ _ _ _ _ => (pe_op op_sub (pe_ix (ix_listK (K := K)) (pv 0) (pv 7) (fun _ _ => rfl)) (pe_ix (ix_listK (K := K)) (pv 0) (pe_op op_sub pe_int (pv 7)) (fun _ _ => rfl)))))
      (pss_cons (ps_set (i := 3) sc__law_eight.nd rfl (Or.inl rfl) (vx_callX c__law_turned pat__law_turned_0 (.head _) hr (by decide) (takes_of rfl rfl rfl rfl) rfl (pa_cons (pe_ix (ix_listK (K := K)) (pv 2) pe_int (fun _ _ => rfl)) (pa_cons (pe_ix (ix_listK (K := K)) (pv 2) pe_int (fun _ _ => rfl)) (pa_cons pe_int (pa_cons pe_int pa_nil)))) pk_nil))
      (pss_cons (ps_set (i := 4) sc__law_eight.nd rfl (Or.inl rfl) (vx_callX c__law_turned pat__law_turned_0 (.head _) hr (by decide) (takes_of rfl rfl rfl rfl) rfl (pa_cons (pe_ix (ix_listK (K := K)) (pv 2) pe_int (fun _ _ => rfl)) (pa_cons (pe_ix (ix_listK (K := K)) (pv 2) pe_int (fun _ _ => rfl)) (pa_cons pe_int (pa_cons pe_int pa_nil)))) pk_nil))
      (pss_cons (ps_set (i := 5) sc__law_eight.nd rfl (Or.inl rfl) (pe_lst (pa_cons (pe_op op_shr (pe_op op_add (pe_ix (ix_listK (K := K)) (pv 3) pe_int (fun _ _ => rfl)) (pe_ix (ix_listK (K := K)) (pv 4) pe_int (fun _ _ => rfl))) pe_int) (pa_cons (pe_op op_sub (pe_ix (ix_listK (K := K)) (pv 3) pe_int (fun _ _ => rfl)) (pe_ix (ix_listK (K := K)) (pv 4) pe_int (fun _ _ => rfl))) pa_nil))))
      (pss_cons (ps_set (i := 6) sc__law_eight.nd rfl (Or.inl rfl) (pe_lst (pa_cons (pe_op op_shr (pe_op op_add (pe_ix (ix_listK (K := K)) (pv 4) pe_int (fun _ _ => rfl)) (pe_ix (ix_listK (K := K)) (pv 3) pe_int (fun _ _ => rfl))) pe_int) (pa_cons (pe_op op_sub (pe_ix (ix_listK (K := K)) (pv 4) pe_int (fun _ _ => rfl)) (pe_ix (ix_listK (K := K)) (pv 3) pe_int (fun _ _ => rfl))) pa_nil))))
      (pss_one (ps_ret (pe_lst (pa_cons (pe_ix (ix_listK (K := K)) (pv 1) pe_int (fun _ _ => rfl)) (pa_cons (pe_ix (ix_listK (K := K)) (pv 5) pe_int (fun _ _ => rfl)) (pa_cons (pe_ix (ix_listK (K := K)) (pv 1) pe_int (fun _ _ => rfl)) (pa_cons (pe_ix (ix_listK (K := K)) (pv 6) pe_int (fun _ _ => rfl)) (pa_cons (pe_ix (ix_listK (K := K)) (pv 1) pe_int (fun _ _ => rfl)) (pa_cons (pe_ix (ix_listK (K := K)) (pv 5) pe_int (fun _ _ => rfl)) (pa_cons (pe_ix (ix_listK (K := K)) (pv 1) pe_int (fun _ _ => rfl)) (pa_cons (pe_ix (ix_listK (K := K)) (pv 6) pe_int (fun _ _ => rfl)) pa_nil))))))))))))))))), ?_⟩
    obtain ⟨KK, EE, hK0, hE, hw⟩ := cW_gen hw
    have S0 := Sep.startG sG
    unfold F__law_eight at hw
    obtain ⟨K1483, hK1484, hw⟩ := cW_push hw
    refine ⟨_, rfl, (by decide), (by decide), fun D1485 n1486 => lc_range (lo := 0) (n := Int.toNat (4)) (fun i H' => ∃ (G' : Hp) (acc1487 : (List Int)), Same G G' ∧ Sep [] H G G' H' [D1485] ∧ H' D1485 = some (.lst ((acc1487 : (List Int)).map V.int)) ∧ cW (mapA (List.drop i (rng (0) (Int.toNat (4)))) acc1487 (fun x => noEr (F__law_eight_c1 (x') x))) K1483 EE) ?_ ?_ ?_⟩
    · generalize g1489 : upd H D1485 _ = H1490
      obtain ⟨e1491, h1492⟩ := gen_new n1486 g1489
      have fr1493 := S0.free n1486
      have S1494 := S0.new n1486 e1491 h1492 fr1493
      exact ⟨_, [], Same.refl _, S1494, h1492, hw⟩
    · intro i H1495 hi hw
      obtain ⟨G1498, acc1500, eG1499, S1496, h1497, hw⟩ := hw
      obtain ⟨z1503, hw⟩ := cW_mapA (rng_get hi) hw
      generalize (0 + (i : Int)) = x1504 at hw ⊢
      have hw := cW_noEr hw
      have hw : cW (F__law_eight_c1 (x') (x1504)) _ (fun _ => False) := hw
      unfold F__law_eight_c1 at hw
      refine ⟨rfl, ?_⟩
      refine tyes_go ?_
      obtain ⟨g1506, hw⟩ := cW_grd hw
      obtain ⟨g1507, hw⟩ := cW_grd hw
      refine ⟨_, rfl, _, rfl, _, _, _, _, rfl, rfl, (SqL.of (S1496.bM _ _ q_x)), (atI_map g1506), _, rfl, _, rfl, _, _, rfl, rfl, _, _, _, _, rfl, rfl, (SqL.of (S1496.bM _ _ q_x)), (atI_map g1507), _, _, rfl, rfl, _, _, rfl, rfl, (show (0 : Int) ≤ 1 by decide), _, h1497, (app_lenM z1503), ?_⟩
      generalize g1508 : upd H1495 D1485 _ = H1509
      obtain ⟨x1510, h1511⟩ := gen_mut g1508
      have S1512 := S1496.mut1 x1510 (.head _) h1511
      have hw := cW_ok hw
      exact ⟨_, (acc1500 ++ [(((itD (x') (x1504)) + (itD (x') ((7 - x1504)))) / 2)]), eG1499, S1512, (snoc_map h1511), hw⟩
    intro H1513 hw
    obtain ⟨G1516, acc1518, eG1517, S1514, h1515, hw⟩ := hw
    have hw := hK1484 _ (cW_mapA0 (rng_len _ _).symm hw)
    have fr1521 := S0.free n1486
    refine ⟨rfl, rfl, G1516, _, _, rfl, S1514.sG, (hide_nil h1515), cW_call hw (fun v1522 hw p1525 H1523 n1526 e1524 h1527 => ?_) (fun e he H2 e2 => hE e he H2 (Same.trans S1514.b0 e2))⟩
    have h1528 : H1523 p1525 = some (.lst ((v1522 : (List Int)).map V.int)) := h1527
    have fr1529 := S1514.free n1526
    have S1530 := S1514.new n1526 e1524 h1528 fr1529
    obtain ⟨K1533, hK1534, hw⟩ := cW_push hw
    refine ⟨_, rfl, (by decide), (by decide), fun D1535 n1536 => lc_range (lo := 0) (n := Int.toNat (4)) (fun i H' => ∃ (G' : Hp) (acc1537 : (List Int)), Same G1516 G' ∧ Sep [] H G G' H' [D1535, p1525] ∧ H' p1525 = some (.lst ((v1522 : (List Int)).map V.int)) ∧ H' D1535 = some (.lst ((acc1537 : (List Int)).map V.int)) ∧ cW (mapA (List.drop i (rng (0) (Int.toNat (4)))) acc1537 (fun x => noEr (F__law_eight_c2 (x') x))) K1533 EE) ?_ ?_ ?_⟩
    · generalize g1539 : upd H1523 D1535 _ = H1540
      obtain ⟨e1541, h1542⟩ := gen_new n1536 g1539
      have fr1543 := S1530.free n1536
      have S1544 := S1530.new n1536 e1541 h1542 fr1543
      have h1545 := (e1541 _ _ h1528)
      exact ⟨_, [], Same.refl _, (S1544.sub (all_cons (.head _) (all_cons (.tail _ (.head _)) all_nil))), h1545, h1542, hw⟩
    · intro i H1546 hi hw
      obtain ⟨G1549, acc1551, eG1550, S1547, h1554, h1548, hw⟩ := hw
      obtain ⟨z1555, hw⟩ := cW_mapA (rng_get hi) hw
      generalize (0 + (i : Int)) = x1556 at hw ⊢
      have hw := cW_noEr hw
      have hw : cW (F__law_eight_c2 (x') (x1556)) _ (fun _ => False) := hw
      unfold F__law_eight_c2 at hw
      refine ⟨rfl, ?_⟩
      refine tyes_go ?_
      obtain ⟨g1558, hw⟩ := cW_grd hw
      obtain ⟨g1559, hw⟩ := cW_grd hw
      refine ⟨_, rfl, _, rfl, _, _, _, _, rfl, rfl, (SqL.of (S1547.bM _ _ q_x)), (atI_map g1558), _, rfl, _, rfl, _, _, rfl, rfl, _, _, _, _, rfl, rfl, (SqL.of (S1547.bM _ _ q_x)), (atI_map g1559), _, _, rfl, rfl, _, h1548, (app_lenM z1555), ?_⟩
      generalize g1560 : upd H1546 D1535 _ = H1561
      obtain ⟨x1562, h1563⟩ := gen_mut g1560
      have S1564 := S1547.mut1 x1562 (.head _) h1563
      have hw := cW_ok hw
      have h1565 := (x1562 _ _ h1554 (ne_of_none h1528 n1536))
      exact ⟨_, (acc1551 ++ [((itD (x') (x1556)) - (itD (x') ((7 - x1556))))]), eG1550, S1564, h1565, (snoc_map h1563), hw⟩
    intro H1566 hw
    obtain ⟨G1569, acc1571, eG1570, S1567, h1574, h1568, hw⟩ := hw
    have hw := hK1534 _ (cW_mapA0 (rng_len _ _).symm hw)
    have fr1575 := S1530.free n1536
    obtain ⟨g1576, hw⟩ := cW_grd hw
    obtain ⟨g1577, hw⟩ := cW_grd hw
    refine ⟨_, rfl, _, _, _, _, rfl, rfl, (SqL.of h1568), (atI_map g1576), _, rfl, _, _, _, _, rfl, rfl, (SqL.of h1568), (atI_map g1577), rfl, rfl, G1569, _, _, _, _, rfl, S1567.sG, cW_call hw (fun v1578 hw p1581 H1579 n1582 e1580 h1583 => ?_) (fun e he H2 e2 => hE e he H2 (Same.trans S1567.b0 e2))⟩
    have h1584 : H1579 p1581 = some (.lst ((v1578 : (List Int)).map V.int)) := h1583
    have fr1585 := S1567.free n1582
    have S1586 := S1567.new n1582 e1580 h1584 fr1585
    obtain ⟨g1587, hw⟩ := cW_grd hw
    have h1588 := (e1580 _ _ h1568)
    obtain ⟨g1589, hw⟩ := cW_grd hw
    refine ⟨_, rfl, _, _, _, _, rfl, rfl, (SqL.of h1588), (atI_map g1587), _, rfl, _, _, _, _, rfl, rfl, (SqL.of h1588), (atI_map g1589), rfl, rfl, G1569, _, _, _, _, rfl, S1586.sG, cW_call hw (fun v1590 hw p1593 H1591 n1594 e1592 h1595 => ?_) (fun e he H2 e2 => hE e he H2 (Same.trans S1586.b0 e2))⟩
    have h1596 : H1591 p1593 = some (.lst ((v1590 : (List Int)).map V.int)) := h1595
    have fr1597 := S1586.free n1594
    have S1598 := S1586.new n1594 e1592 h1596 fr1597
    obtain ⟨g1599, hw⟩ := cW_grd hw
    have h1600 := (e1592 _ _ h1584)
    obtain ⟨g1601, hw⟩ := cW_grd hw
    obtain ⟨g1602, hw⟩ := cW_grd hw
    obtain ⟨g1603, hw⟩ := cW_grd hw
    refine ⟨_, rfl, _, _, _, _, rfl, rfl, (SqL.of h1600), (atI_map g1599), _, rfl, _, _, _, _, rfl, rfl, (SqL.of h1596), (atI_map g1601), _, _, rfl, rfl, _, _, rfl, rfl, (show (0 : Int) ≤ 1 by decide), _, rfl, _, _, _, _, rfl, rfl, (SqL.of h1600), (atI_map g1602), _, rfl, _, _, _, _, rfl, rfl, (SqL.of h1596), (atI_map g1603), _, _, rfl, rfl, (by show 2 ≤ sizeLine; decide), fun p1604 n1605 => ?_⟩
    generalize g1606 : upd H1591 p1604 _ = H1607
    obtain ⟨e1608, h1609⟩ := gen_new n1605 g1606
    have h1610 : H1607 p1604 = some (.lst (([(((itD (v1578) (0)) + (itD (v1590) (0))) / 2), ((itD (v1578) (0)) - (itD (v1590) (0)))] : (List Int)).map V.int)) := h1609
    have fr1611 := S1598.free n1605
    have S1612 := S1598.new n1605 e1608 h1610 fr1611
    obtain ⟨g1613, hw⟩ := cW_grd hw
    have h1614 := (e1608 _ _ h1596)
    obtain ⟨g1615, hw⟩ := cW_grd hw
    have h1616 := (e1608 _ _ h1600)
    obtain ⟨g1617, hw⟩ := cW_grd hw
    obtain ⟨g1618, hw⟩ := cW_grd hw
    refine ⟨_, rfl, _, _, _, _, rfl, rfl, (SqL.of h1614), (atI_map g1613), _, rfl, _, _, _, _, rfl, rfl, (SqL.of h1616), (atI_map g1615), _, _, rfl, rfl, _, _, rfl, rfl, (show (0 : Int) ≤ 1 by decide), _, rfl, _, _, _, _, rfl, rfl, (SqL.of h1614), (atI_map g1617), _, rfl, _, _, _, _, rfl, rfl, (SqL.of h1616), (atI_map g1618), _, _, rfl, rfl, (by show 2 ≤ sizeLine; decide), fun p1619 n1620 => ?_⟩
    generalize g1621 : upd H1607 p1619 _ = H1622
    obtain ⟨e1623, h1624⟩ := gen_new n1620 g1621
    have h1625 : H1622 p1619 = some (.lst (([(((itD (v1590) (1)) + (itD (v1578) (1))) / 2), ((itD (v1590) (1)) - (itD (v1578) (1)))] : (List Int)).map V.int)) := h1624
    have fr1626 := S1612.free n1620
    have S1627 := S1612.new n1620 e1623 h1625 fr1626
    obtain ⟨g1628, hw⟩ := cW_grd hw
    have h1629 := (e1623 _ _ (e1608 _ _ (e1592 _ _ (e1580 _ _ h1574))))
    obtain ⟨g1630, hw⟩ := cW_grd hw
    have h1631 := (e1623 _ _ h1610)
    obtain ⟨g1632, hw⟩ := cW_grd hw
    obtain ⟨g1633, hw⟩ := cW_grd hw
    obtain ⟨g1634, hw⟩ := cW_grd hw
    obtain ⟨g1635, hw⟩ := cW_grd hw
    obtain ⟨g1636, hw⟩ := cW_grd hw
    obtain ⟨g1637, hw⟩ := cW_grd hw
    refine ⟨_, rfl, _, _, _, _, rfl, rfl, (SqL.of h1629), (atI_map g1628), _, rfl, _, _, _, _, rfl, rfl, (SqL.of h1631), (atI_map g1630), _, rfl, _, _, _, _, rfl, rfl, (SqL.of h1629), (atI_map g1632), _, rfl, _, _, _, _, rfl, rfl, (SqL.of h1625), (atI_map g1633), _, rfl, _, _, _, _, rfl, rfl, (SqL.of h1629), (atI_map g1634), _, rfl, _, _, _, _, rfl, rfl, (SqL.of h1631), (atI_map g1635), _, rfl, _, _, _, _, rfl, rfl, (SqL.of h1629), (atI_map g1636), _, rfl, _, _, _, _, rfl, rfl, (SqL.of h1625), (atI_map g1637), (by show 8 ≤ sizeLine; decide), fun p1638 n1639 => ?_⟩
    generalize g1640 : upd H1622 p1638 _ = H1641
    obtain ⟨e1642, h1643⟩ := gen_new n1639 g1640
    have h1644 : H1641 p1638 = some (.lst (([(itD (v1522) (0)), (itD ([(((itD (v1578) (0)) + (itD (v1590) (0))) / 2), ((itD (v1578) (0)) - (itD (v1590) (0)))]) (0)), (itD (v1522) (1)), (itD ([(((itD (v1590) (1)) + (itD (v1578) (1))) / 2), ((itD (v1590) (1)) - (itD (v1578) (1)))]) (0)), (itD (v1522) (2)), (itD ([(((itD (v1578) (0)) + (itD (v1590) (0))) / 2), ((itD (v1578) (0)) - (itD (v1590) (0)))]) (1)), (itD (v1522) (3)), (itD ([(((itD (v1590) (1)) + (itD (v1578) (1))) / 2), ((itD (v1590) (1)) - (itD (v1578) (1)))]) (1))] : (List Int)).map V.int)) := h1643
    have fr1645 := S1627.free n1639
    have S1646 := S1627.new n1639 e1642 h1644 fr1645
    have hw := cW_ok hw
    exact hK0 _ hw _ _ fr1645 S1646.b0 h1644

abbrev N__law_is_integers : List Str := ["actual", "count", "item"]
theorem sc__law_is_integers : FnScope N__law_is_integers ["actual", "count"] (defScope s__law_is_integers) := ⟨rfl, rfl, rfl, by decide +kernel, rfl, by decide +kernel, by decide +kernel⟩
theorem ok__law_is_integers (D : DefX K mg "_law_is_integers" s__law_is_integers ["actual", "count"] pats__law_is_integers) (T : Txt K mg AD)  : CalX P w K mg base 1 "_law_is_integers" (sp__law_is_integers K AD) pats__law_is_integers := by
  refine D.ok sc__law_is_integers (fun vs H Q E h => ?_) (fun f cdv A_ outer s H vs Q E hr h => ?_)
  · obtain ⟨G, a_actual, actual', count', rfl, _⟩ := h
    rfl
  · obtain ⟨G, a_actual, actual', count', rfl, sG, q_actual, hw⟩ := h
    refine ⟨_, (pss_cons (ps_if (PW.pt (pw_or (pt_not (pt_val (pe_callB call_isi (by rfl) T.b_isinstance (by decide +kernel) (pa_cons (pv 0) (pa_cons (pe_bltn (v := V.ty "list") (u := Value.type "list") (by rfl) T.b_list (by decide +kernel) rfl) pa_nil))))) (pw_or1 (pt_cmp (pc_neI (pe_callB (call_lenLiK (K := K)) (by rfl) T.b_len (by decide +kernel) (pa_cons (pv 0) pa_nil)) (pv 1)))))) (pss_one (ps_ret pe_bl)) pss_nil)
      (pss_cons (ps_for (passes_of rfl) rfl (pi_listK (K := K) (pv 0)) (pg_name (i := 2) sc__law_is_integers.nd rfl (Or.inl rfl)) (pss_one (ps_if (PW.pt (pw_or (pt_not (pt_val (pe_callB call_isi (by rfl) T.b_isinstance (by decide +kernel) (pa_cons (pv 2) (pa_cons (pe_bltn (v := V.ty "int") (u := Value.type "int") (by rfl) T.b_int (by decide +kernel) rfl) pa_nil))))) (pw_or1 (pt_val (pe_callB call_isi (by rfl) T.b_isinstance (by decide +kernel) (pa_cons (pv 2) (pa_cons (pe_bltn (v := V.ty "bool") (u := Value.type "bool") (by rfl) T.b_bool (by decide +kernel) rfl) pa_nil))))))) (pss_one (ps_ret pe_bl)) pss_nil)))
      (pss_one (ps_ret pe_bl)))), ?_⟩
    obtain ⟨KK, EE, hK0, hE, hw⟩ := cW_gen hw
    have S0 := Sep.startG sG
    unfold F__law_is_integers at hw
    refine ⟨_, rfl, _, _, _, _, _, rfl, (.ty _), (.base (.lst (S0.bM _ _ q_actual))), rfl, _, rfl, ?_⟩
    refine iteF ?_
    refine ⟨_, rfl, _, _, rfl, (SqL.of (S0.bM _ _ q_actual)), _, rfl, _, _, rfl, rfl, _, rfl, ?_⟩
    refine iteN (fun c1647 => ?_) (fun c1647 => ?_)
    · have hw := cW_neg c1647 hw
      have hw := cW_ok hw
      exact hK0 _ hw _ S0.b0
    · have hw := cW_pos c1647 hw
      obtain ⟨K1648, hK1649, hw⟩ := cW_push hw
      refine ⟨_, rfl, _, rfl, ⟨_, (SqL.of (S0.bM _ _ q_actual))⟩, for_list (K := K) (a := a_actual) (xs := (actual' : List Int).map V.int) (fun i σ H' => ∃ (u1650 : Option V) (G' : Hp), σ = [some (V.ref a_actual), some (V.int (count')), u1650] ∧ Same G G' ∧ Sep [] H G G' H' [] ∧ cW (forR (List.drop i (actual')) () (fun s x => F__law_is_integers_b1   x)) K1648 EE) ?_ ?_ ?_ ?_⟩
      · exact ⟨_, _, rfl, (Same.refl _), S0, hw⟩
      · intro i σ H1651 _ hw
        obtain ⟨u1650, G1653, rfl, eG1654, S1652, hw⟩ := hw
        exact (SqL.of (S1652.bM _ _ q_actual))
      · intro i x σ H1655 hj hw
        obtain ⟨u1650, G1657, rfl, eG1658, S1656, hw⟩ := hw
        obtain ⟨x1659, hx, rfl⟩ := map_get hj
        have hw := cW_forR hx hw
        have hw : cW (F__law_is_integers_b1   (x1659)) _ EE := hw
        unfold F__law_is_integers_b1 at hw
        obtain ⟨K1660, hK1661, hw⟩ := cW_name hw
        refine ⟨_, rfl, _, _, _, _, _, rfl, (.ty _), (.base (.int _)), rfl, _, rfl, ?_⟩
        refine iteF ?_
        refine ⟨_, rfl, _, _, _, _, _, rfl, (.ty _), (.base (.int _)), rfl, _, rfl, ?_⟩
        refine iteF ?_
        have hw := cW_ok hw
        have hw := hK1661 _ hw
        exact ⟨_, _, rfl, eG1658, S1656, hw⟩
      · intro σ H1663 hw
        obtain ⟨u1650, G1665, rfl, eG1666, S1664, hw⟩ := hw
        have hw := hK1649 _ (cW_forR0 (by rw [List.length_map]) hw)
        have hw : cW (F__law_is_integers_r1  ) _ EE := hw
        unfold F__law_is_integers_r1 at hw
        have hw := cW_ok hw
        exact hK0 _ hw _ S1664.b0

abbrev N__law_refused : List Str := ["values", "told", "e"]
theorem sc__law_refused : FnScope N__law_refused ["values"] (defScope s__law_refused) := ⟨rfl, rfl, rfl, by decide +kernel, rfl, by decide +kernel, by decide +kernel⟩
theorem ok__law_refused (D : DefX K mg "_law_refused" s__law_refused ["values"] pats__law_refused) (T : Txt K mg AD) (c_forward : CalX P w K mg base 4 "forward" (sp_forward K AD) pats_forward) (c_inverse : CalX P w K mg base 4 "inverse" (sp_inverse K AD) pats_inverse) : CalX P w K mg base 5 "_law_refused" (sp__law_refused K AD) pats__law_refused := by
  refine D.ok sc__law_refused (fun vs H Q E h => ?_) (fun f cdv A_ outer s H vs Q E hr h => ?_)
  · obtain ⟨G, a_values, values', rfl, _⟩ := h
    rfl
  · obtain ⟨G, a_values, values', rfl, sG, q_values, hw⟩ := h
    refine ⟨_, (pss_cons (ps_set (i := 1) sc__law_refused.nd rfl (Or.inl rfl) pe_int)
      (C8.pss_cut (ps_try_as (i := 2) rfl rfl sc__law_refused.nd rfl rfl ⟨rfl, by decide, .inl T.xg_OutOfRange⟩ (takes_of rfl rfl rfl rfl) (fun W pn xe tk pse => (pss_one (ps_expr (vx_callX c_forward pat_forward_0 (.head _) hr (by decide) tk rfl (pa_cons (pv 0) pa_nil) pk_nil)))) (fun a oe cls d pn hz hf => (pss_one (ps_if (pt_val (pe_callB (call_isX (K := K) hz hf) (by rfl) T.b_isinstance (by decide +kernel) (pa_cons (pv 2) (pa_cons (C8.pe_gc (v := V.ref AD.x_CodecError) rfl ⟨_, T.xg_CodecError, rfl⟩) pa_nil)))) (pss_one (ps_aug (i := 1) sc__law_refused.nd rfl (Or.inl rfl) pe_int (pip iop_add))) pss_nil))))
      (C8.pss_cut (ps_try_only rfl rfl ⟨rfl, by decide, .inl T.xg_OutOfRange⟩ (takes_of rfl rfl rfl rfl) (fun W pn xe tk pse => (pss_one (ps_expr (vx_callX c_inverse pat_inverse_0 (.head _) hr (by decide) tk rfl (pa_cons (pv 0) pa_nil) pk_nil)))) (fun a oe cls d pn _ _ => (pss_one (ps_aug (i := 1) sc__law_refused.nd rfl (Or.inl rfl) pe_int (pip iop_add)))))
      (pss_one (ps_ret (pe_cmp (pc_eqI (pv 1) pe_int))))))), ?_⟩
    obtain ⟨KK, EE, hK0, hE, hw⟩ := cW_gen hw
    have S0 := Sep.startG sG
    unfold F__law_refused at hw
    refine ⟨fun σ H' => ∃ (told_1669 : Int) (u1670 : Option V) (G' : Hp), σ = [some (V.ref a_values), some (V.int told_1669), u1670] ∧ Same G G' ∧ Sep [] H G G' H' [] ∧ cW (F__law_refused_k1 (values') told_1669) KK EE, ?_, ?_⟩
    · obtain ⟨K1671, hK1672, hw⟩ := cW_push hw
      refine ⟨_, rfl, rfl, rfl, G, _, _, rfl, S0.sG, (hide_nil (S0.bM _ _ q_values)), cW_try hw (fun v1673 hw p1676 H1674 n1677 e1675 h1678 => ?_) ?_⟩
      · have h1679 : H1674 p1676 = some (.lst ((v1673 : (List Int)).map V.int)) := h1678
        have fr1680 := S0.free n1677
        have S1681 := S0.new n1677 e1675 h1679 fr1680
        have hw := cW_ok hw
        have hw := hK1672 _ hw
        exact ⟨(0), _, _, rfl, (Same.refl _), (S1681.sub all_nil), hw⟩
      · intro e hm hw H1682 e1683
        have S1684 := S0.same e1683
        obtain rfl := mem_one hm
        refine ⟨true, T.xm_OutOfRange_OutOfRange, fun _ a1685 na1686 => ?_, fun q => nomatch q⟩
        refine ⟨_, rfl, _, _, _, rfl, rfl, T.xc_OutOfRange, rfl, T.xo_OutOfRange_CodecError, _, rfl, ?_⟩
        refine iteT ?_
        refine ⟨_, rfl, _, _, rfl, rfl, ?_⟩
        have hw := cW_bnd hw
        have hw := cW_ok hw
        have hw := hK1672 _ hw
        exact ⟨((0 + 1)), _, _, rfl, (Same.refl _), S1684, hw⟩
    · intro σ H1688 hw
      obtain ⟨told_1669, u1670, G1690, rfl, eG1691, S1689, hw⟩ := hw
      unfold F__law_refused_k1 at hw
      refine ⟨fun σ H' => ∃ (told_1693 : Int) (G' : Hp), σ = [some (V.ref a_values), some (V.int told_1693), u1670] ∧ Same G1690 G' ∧ Sep [] H G G' H' [] ∧ cW (F__law_refused_k2  told_1693) KK EE, ?_, ?_⟩
      · obtain ⟨K1694, hK1695, hw⟩ := cW_push hw
        refine ⟨_, rfl, rfl, rfl, G1690, _, _, rfl, S1689.sG, (hide_nil (S1689.bM _ _ q_values)), cW_try hw (fun v1696 hw p1699 H1697 n1700 e1698 h1701 => ?_) ?_⟩
        · have h1702 : H1697 p1699 = some (.lst ((v1696 : (List Int)).map V.int)) := h1701
          have fr1703 := S1689.free n1700
          have S1704 := S1689.new n1700 e1698 h1702 fr1703
          have hw := cW_ok hw
          have hw := hK1695 _ hw
          exact ⟨(told_1669), _, rfl, (Same.refl _), (S1704.sub all_nil), hw⟩
        · intro e hm hw H1705 e1706
          have S1707 := S1689.same e1706
          obtain rfl := mem_one hm
          refine ⟨true, T.xm_OutOfRange_OutOfRange, fun _ _ _ => ?_, fun q => nomatch q⟩
          refine ⟨_, rfl, _, _, rfl, rfl, ?_⟩
          have hw := cW_bnd hw
          have hw := cW_ok hw
          have hw := hK1695 _ hw
          exact ⟨((told_1669 + 1)), _, rfl, (Same.refl _), S1707, hw⟩
      · intro σ H1709 hw
        obtain ⟨told_1693, G1711, rfl, eG1712, S1710, hw⟩ := hw
        unfold F__law_refused_k2 at hw
        refine ⟨_, rfl, _, _, rfl, rfl, ?_⟩
        have hw := cW_ok hw
        exact hK0 _ hw _ S1710.b0

abbrev N_law : List Str := ["script", "k", "cell", "count", "values", "kept", "due", "turned", "back", "other", "length"]
theorem sc_law : FnScope N_law ["script"] (defScope s_law) := ⟨rfl, rfl, rfl, by decide +kernel, rfl, by decide +kernel, by decide +kernel⟩
theorem ok_law {f : Addr} {fd : FuncData} (F : Fun K "law" "law" s_law f fd) (T : Txt K mg AD) (c__law_cell : CalX P w K mg base 1 "_law_cell" (sp__law_cell K AD) pats__law_cell) (c__law_values : CalX P w K mg base 2 "_law_values" (sp__law_values K AD) pats__law_values) (c__law_four : CalX P w K mg base 2 "_law_four" (sp__law_four K AD) pats__law_four) (c__law_eight : CalX P w K mg base 3 "_law_eight" (sp__law_eight K AD) pats__law_eight) (c_forward : CalX P w K mg base 4 "forward" (sp_forward K AD) pats_forward) (c__law_is_integers : CalX P w K mg base 1 "_law_is_integers" (sp__law_is_integers K AD) pats__law_is_integers) (c_inverse : CalX P w K mg base 4 "inverse" (sp_inverse K AD) pats_inverse) (c__law_refused : CalX P w K mg base 5 "_law_refused" (sp__law_refused K AD) pats__law_refused) : FnOk P w K mg base CX0 6 f fd ["script"] (sp_law K AD) := by
  refine F.ok sc_law (fun vs H Q E h => ?_) (fun cdv A_ outer s H vs Q E hr h => ?_)
  · obtain ⟨a_script, script, rfl, _⟩ := h
    rfl
  · obtain ⟨a_script, script', rfl, q_script, hw, k⟩ := h
    refine ⟨_, (pss_cons (ps_for PassesOwn.never rfl (pi_range1 rfl T.b_range (pa_cons (pe_callB (call_min2 rfl) (by rfl) T.b_min (by decide +kernel) (pa_cons (pe_op op_add pe_int (pe_callB (call_lenLiK (K := K)) (by rfl) T.b_len (by decide +kernel) (pa_cons (pv 0) pa_nil))) (pa_cons pe_int pa_nil))) pa_nil)) (pg_name (i := 1) sc_law.nd rfl (Or.inl rfl)) (pss_cons (ps_set (i := 2) sc_law.nd rfl (Or.inl rfl) (pe_op op_add (vx_callX c__law_cell pat__law_cell_0 (.head _) hr (by decide) takes0 rfl (pa_cons (pv 0) (pa_cons (pv 1) pa_nil)) pk_nil) (pv 1)))
      (pss_cons (ps_set (i := 3) sc_law.nd rfl (Or.inl rfl) pe_int)
      (C8.pss_cut (ps_if (pt_cmp (pc_eqI (pe_op op_mod (pv 2) pe_int) pe_int)) (pss_one (ps_set (i := 3) sc_law.nd rfl (Or.inl rfl) pe_int)) pss_nil)
      (pss_cons (ps_set (i := 4) sc_law.nd rfl (Or.inl rfl) (vx_callX c__law_values pat__law_values_0 (.head _) hr (by decide) takes0 rfl (pa_cons (pe_op op_fdivW (pv 2) pe_int) (pa_cons (pv 3) pa_nil)) pk_nil))
      (pss_cons (ps_set (i := 5) sc_law.nd rfl (Or.inl rfl) (pe_callTy (call_listLK (K := K)) (by rfl) T.b_list (by decide +kernel) (pa_cons (pv 4) pa_nil)))
      (pss_cons (ps_set (i := 6) sc_law.nd rfl (Or.inl rfl) (vx_callX c__law_four pat__law_four_0 (.head _) hr (by decide) takes0 rfl (pa_cons (pv 5) pa_nil) pk_nil))
      (C8.pss_cut (ps_if (pt_cmp (pc_eqI (pv 3) pe_int)) (pss_one (ps_set (i := 6) sc_law.nd rfl (Or.inl rfl) (vx_callX c__law_eight pat__law_eight_0 (.head _) hr (by decide) takes0 rfl (pa_cons (pv 5) pa_nil) pk_nil))) pss_nil)
      (pss_cons (ps_set (i := 7) sc_law.nd rfl (Or.inl rfl) (vx_callX c_forward pat_forward_0 (.head _) hr (by decide) takes0 rfl (pa_cons (pv 4) pa_nil) pk_nil))
      (pss_cons (ps_if (PW.pt (pw_or (pt_not (pt_val (vx_callX c__law_is_integers pat__law_is_integers_0 (.head _) hr (by decide) takes0 rfl (pa_cons (pv 7) (pa_cons (pv 3) pa_nil)) pk_nil))) (pw_or (pt_cmpR (op_neT (encOk_L encOk_int) hr.units) (pv 7) (pv 6) (nomark _)) (pw_or1 (pt_cmpR (op_neT (encOk_L encOk_int) hr.units) (pv 4) (pv 5) (nomark _)))))) (pss_one (ps_ret pe_bl)) pss_nil)
      (pss_cons (ps_set (i := 8) sc_law.nd rfl (Or.inl rfl) (vx_callX c_inverse pat_inverse_0 (.head _) hr (by decide) takes0 rfl (pa_cons (pv 7) pa_nil) pk_nil))
      (pss_cons (ps_if (PW.pt (pw_or (pt_not (pt_val (vx_callX c__law_is_integers pat__law_is_integers_0 (.head _) hr (by decide) takes0 rfl (pa_cons (pv 8) (pa_cons (pv 3) pa_nil)) pk_nil))) (pw_or (pt_cmpR (op_neT (encOk_L encOk_int) hr.units) (pv 8) (pv 5) (nomark _)) (pw_or1 (pt_cmpR (op_neT (encOk_L encOk_int) hr.units) (pv 7) (pv 6) (nomark _)))))) (pss_one (ps_ret pe_bl)) pss_nil)
      (pss_cons (ps_set (i := 9) sc_law.nd rfl (Or.inl rfl) (vx_callX c_inverse pat_inverse_0 (.head _) hr (by decide) takes0 rfl (pa_cons (pv 4) pa_nil) pk_nil))
      (pss_cons (ps_if (PW.pt (pw_or (pt_not (pt_val (vx_callX c__law_is_integers pat__law_is_integers_0 (.head _) hr (by decide) takes0 rfl (pa_cons (pv 9) (pa_cons (pv 3) pa_nil)) pk_nil))) (pw_or (pt_cmpR (op_neT (encOk_L encOk_int) hr.units) (pv 4) (pv 5) (nomark _)) (pw_or1 (pt_cmpR (op_neT (encOk_L encOk_int) hr.units) (vx_callX c_forward pat_forward_0 (.head _) hr (by decide) takes0 rfl (pa_cons (pv 9) pa_nil) pk_nil) (pv 5) (nomark _)))))) (pss_one (ps_ret pe_bl)) pss_nil)
      (pss_cons (ps_set (i := 10) sc_law.nd rfl (Or.inl rfl) (pe_op op_mod (pe_op op_fdivW (pv 2) pe_int) pe_int))
      (pss_one (ps_if (PW.pt (pw_and (pt_cmp (pc_neI (pv 10) pe_int)) (pw_and (pt_cmp (pc_neI (pv 10) pe_int)) (pw_and1 (pt_not (pt_val (vx_callX c__law_refused pat__law_refused_0 (.head _) hr (by decide) takes0 rfl (pa_cons (pe_op op_rep (pe_lst (pa_cons pe_int pa_nil)) (pv 10)) pa_nil) pk_nil))))))) (pss_one (ps_ret pe_bl)) pss_nil)))))))))))))))))
      (pss_one (ps_ret pe_bl))), ?_⟩
    obtain ⟨KK, EE, hK0, hE, hw⟩ := cW_gen hw
    have S0 := Sep.start0 H
    unfold F_law at hw
    obtain ⟨g1713, hw⟩ := cW_grd hw
    obtain ⟨K1715, hK1716, hw⟩ := cW_push hw
    refine ⟨_, rfl, _, _, rfl, (S0.b0.seq q_script), _, _, rfl, rfl, _, _, rfl, _, rfl, g1713.1, g1713.2, for_range (lo := 0) (n := Int.toNat ((if 12 < (1 + (((script') : (List Int)).length : Int)) then 12 else (1 + (((script') : (List Int)).length : Int))))) (fun i σ H' => ∃ (u1717 : Option V) (u1718 : Option V) (u1719 : Option V) (u1720 : Option V) (u1721 : Option V) (u1722 : Option V) (u1723 : Option V) (u1724 : Option V) (u1725 : Option V) (u1726 : Option V) (G' : Hp), σ = [some (V.ref a_script), u1717, u1718, u1719, u1720, u1721, u1722, u1723, u1724, u1725, u1726] ∧ Same H G' ∧ Sep [] H H G' H' [] ∧ cW (forR (List.drop i (rng (0) (Int.toNat ((if 12 < (1 + (((script') : (List Int)).length : Int)) then 12 else (1 + (((script') : (List Int)).length : Int))))))) () (fun s x => F_law_b1 (script')  x)) K1715 EE) ?_ ?_ ?_⟩
    · exact ⟨_, _, _, _, _, _, _, _, _, _, _, rfl, (Same.refl _), S0, hw⟩
    · intro i σ H1727 hi hw
      obtain ⟨u1717, u1718, u1719, u1720, u1721, u1722, u1723, u1724, u1725, u1726, G1729, rfl, eG1730, S1728, hw⟩ := hw
      have hw := cW_forR (rng_get hi) hw
      generalize (0 + (i : Int)) = x1731 at hw ⊢
      have hw : cW (F_law_b1 (script')  (x1731)) _ EE := hw
      unfold F_law_b1 at hw
      obtain ⟨K1732, hK1733, hw⟩ := cW_name hw
      refine ⟨_, rfl, _, rfl, rfl, rfl, G1729, _, _, _, rfl, S1728.sG, (S1728.b0.seq q_script), cW_call hw (fun v1735 hw => ?_) (fun e he => (hE e he).elim)⟩
      refine ⟨_, rfl, _, _, rfl, rfl, ?_⟩
      have hw := cW_bnd hw
      refine ⟨fun σ H' => ∃ (count_1739 : Int) (G' : Hp), σ = [some (V.ref a_script), some (V.int (x1731)), some (V.int ((v1735 + x1731))), some (V.int count_1739), u1720, u1721, u1722, u1723, u1724, u1725, u1726] ∧ Same G1729 G' ∧ Sep [] H H G' H' [] ∧ cW (F_law_k2 ((v1735 + x1731)) count_1739) K1732 EE, ?_, ?_⟩
      · obtain ⟨K1740, hK1741, hw⟩ := cW_push hw
        refine ⟨_, rfl, _, _, rfl, rfl, (show (0 : Int) < 2 by decide), _, _, rfl, rfl, _, rfl, ?_⟩
        refine iteD (fun c1742 => ?_) (fun c1742 => ?_)
        · have hw := cW_pos c1742 hw
          have hw := cW_ok hw
          have hw := hK1741 _ hw
          exact ⟨(8), _, rfl, (Same.refl _), S1728, hw⟩
        · have hw := cW_neg c1742 hw
          have hw := cW_ok hw
          have hw := hK1741 _ hw
          exact ⟨(4), _, rfl, (Same.refl _), S1728, hw⟩
      · intro σ H1743 hw
        obtain ⟨count_1739, G1745, rfl, eG1746, S1744, hw⟩ := hw
        unfold F_law_k2 at hw
        refine ⟨_, rfl, _, _, rfl, rfl, (divW_lit (by decide) (by decide)), _, rfl, rfl, rfl, G1745, _, _, rfl, S1744.sG, cW_call hw (fun v1747 hw p1750 H1748 n1751 e1749 h1752 => ?_) (fun e he => (hE e he).elim)⟩
        have h1753 : H1748 p1750 = some (.lst ((v1747 : (List Int)).map V.int)) := h1752
        have fr1754 := S1744.free n1751
        have S1755 := S1744.new n1751 e1749 h1753 fr1754
        refine ⟨_, rfl, _, _, rfl, (SqL.of h1753), fun p1756 n1757 => ?_⟩
        generalize g1758 : upd H1748 p1756 _ = H1759
        obtain ⟨e1760, h1761⟩ := gen_new n1757 g1758
        have h1762 : H1759 p1756 = some (.lst ((v1747 : (List Int)).map V.int)) := h1761
        have fr1763 := S1755.free n1757
        have S1764 := S1755.new n1757 e1760 h1762 fr1763
        refine ⟨_, rfl, rfl, rfl, G1745, _, _, rfl, S1764.sG, (hide_nil h1762), cW_call hw (fun v1765 hw p1768 H1766 n1769 e1767 h1770 => ?_) (fun e he => (hE e he).elim)⟩
        have h1771 : H1766 p1768 = some (.lst ((v1765 : (List Int)).map V.int)) := h1770
        have fr1772 := S1764.free n1769
        have S1773 := S1764.new n1769 e1767 h1771 fr1772
        refine ⟨fun σ H' => ∃ (p1780 : Addr) (due_1779 : (List Int)) (G' : Hp), σ = [some (V.ref a_script), some (V.int (x1731)), some (V.int ((v1735 + x1731))), some (V.int (count_1739)), some (V.ref p1750), some (V.ref p1756), some (V.ref p1780), u1723, u1724, u1725, u1726] ∧ Same G1745 G' ∧ Sep [] H H G' H' [p1750, p1756, p1780] ∧ H' p1750 = some (.lst ((v1747 : (List Int)).map V.int)) ∧ H' p1756 = some (.lst ((v1747 : (List Int)).map V.int)) ∧ H' p1780 = some (.lst ((due_1779 : (List Int)).map V.int)) ∧ H p1780 = none ∧ p1780 ≠ p1750 ∧ p1780 ≠ p1756 ∧ cW (F_law_k3 ((v1735 + x1731)) (count_1739) (v1747) (v1747) due_1779) K1732 EE, ?_, ?_⟩
        · obtain ⟨K1781, hK1782, hw⟩ := cW_push hw
          refine ⟨_, rfl, _, _, rfl, rfl, _, rfl, ?_⟩
          refine iteD (fun c1783 => ?_) (fun c1783 => ?_)
          · have hw := cW_pos c1783 hw
            have h1784 := (e1767 _ _ h1762)
            refine ⟨_, rfl, rfl, rfl, G1745, _, _, rfl, S1773.sG, (hide_nil h1784), cW_call hw (fun v1785 hw p1788 H1786 n1789 e1787 h1790 => ?_) (fun e he => (hE e he).elim)⟩
            have h1791 : H1786 p1788 = some (.lst ((v1785 : (List Int)).map V.int)) := h1790
            have fr1792 := S1773.free n1789
            have S1793 := S1773.new n1789 e1787 h1791 fr1792
            have hw := cW_ok hw
            have hw := hK1782 _ hw
            have h1794 := (e1787 _ _ (e1767 _ _ (e1760 _ _ h1753)))
            have h1795 := (e1787 _ _ h1784)
            exact ⟨_, (v1785), _, rfl, (Same.refl _), (S1793.sub (all_cons (.tail _ (.tail _ (.tail _ (.head _)))) (all_cons (.tail _ (.tail _ (.head _))) (all_cons (.head _) all_nil)))), h1794, h1795, h1791, fr1792, (ne_of_none (e1767 _ _ (e1760 _ _ h1753)) n1789).symm, (ne_of_none h1784 n1789).symm, hw⟩
          · have hw := cW_neg c1783 hw
            have hw := cW_ok hw
            have hw := hK1782 _ hw
            have h1796 := (e1767 _ _ (e1760 _ _ h1753))
            have h1797 := (e1767 _ _ h1762)
            exact ⟨_, (v1765), _, rfl, (Same.refl _), (S1773.sub (all_cons (.tail _ (.tail _ (.head _))) (all_cons (.tail _ (.head _)) (all_cons (.head _) all_nil)))), h1796, h1797, h1771, fr1772, (ne_of_none (e1760 _ _ h1753) n1769).symm, (ne_of_none h1762 n1769).symm, hw⟩
        · intro σ H1798 hw
          obtain ⟨p1780, due_1779, G1806, rfl, eG1807, S1799, h1800, h1801, h1802, fr1803, ne1804, ne1805, hw⟩ := hw
          unfold F_law_k3 at hw
          refine ⟨_, rfl, rfl, rfl, G1806, _, _, rfl, S1799.sG, (hide_nil h1800), cW_call hw (fun v1808 hw p1811 H1809 n1812 e1810 h1813 => ?_) (fun e he => (hE e he).elim)⟩
          have h1814 : H1809 p1811 = some (.lst ((v1808 : (List Int)).map V.int)) := h1813
          have fr1815 := S1799.free n1812
          have S1816 := S1799.new n1812 e1810 h1814 fr1815
          refine ⟨_, rfl, _, rfl, rfl, rfl, G1806, _, _, _, rfl, S1816.sG, (hide_nil h1814), cW_call hw (fun v1817 hw H1818 e1819 => ?_) (fun e he => (hE e he).elim)⟩
          have S1820 := S1816.same e1819
          refine ⟨_, rfl, ?_⟩
          refine iteBN (fun c1821 => ?_) (fun c1821 => ?_)
          · have hw := cW_negB c1821 hw
            refine iteT ?_
            have hw := cW_ok hw
            have hw := hK1733 (.rt _) hw
            have hw := hK1716 (.rt _) hw
            have hw := cW_ok hw
            exact eq_bl (k _) (hK0 _ hw).symm
          · have hw := cW_pos c1821 hw
            have h1822 := (e1819 _ _ h1814)
            have h1823 := (e1819 _ _ (e1810 _ _ h1802))
            refine ⟨_, rfl, _, rfl, _, _, (rp_mk_ints h1822), (rp_mk_ints h1823), _, rfl, ?_⟩
            refine iteN (fun c1824 => ?_) (fun c1824 => ?_)
            · have hw := cW_neg c1824 hw
              refine iteT ?_
              have hw := cW_ok hw
              have hw := hK1733 (.rt _) hw
              have hw := hK1716 (.rt _) hw
              have hw := cW_ok hw
              exact eq_bl (k _) (hK0 _ hw).symm
            · have hw := cW_pos c1824 hw
              have h1825 := (e1819 _ _ (e1810 _ _ h1800))
              have h1826 := (e1819 _ _ (e1810 _ _ h1801))
              refine ⟨_, rfl, _, rfl, _, _, (rp_mk_ints h1825), (rp_mk_ints h1826), _, rfl, ?_⟩
              refine iteN (fun c1827 => ?_) (fun c1827 => ?_)
              · have hw := cW_neg c1827 hw
                have hw := cW_ok hw
                have hw := hK1733 (.rt _) hw
                have hw := hK1716 (.rt _) hw
                have hw := cW_ok hw
                exact eq_bl (k _) (hK0 _ hw).symm
              · have hw := cW_pos c1827 hw
                refine ⟨_, rfl, rfl, rfl, G1806, _, _, rfl, S1820.sG, (hide_nil h1822), cW_call hw (fun v1828 hw p1831 H1829 n1832 e1830 h1833 => ?_) (fun e he => (hE e he).elim)⟩
                have h1834 : H1829 p1831 = some (.lst ((v1828 : (List Int)).map V.int)) := h1833
                have fr1835 := S1820.free n1832
                have S1836 := S1820.new n1832 e1830 h1834 fr1835
                refine ⟨_, rfl, _, rfl, rfl, rfl, G1806, _, _, _, rfl, S1836.sG, (hide_nil h1834), cW_call hw (fun v1837 hw H1838 e1839 => ?_) (fun e he => (hE e he).elim)⟩
                have S1840 := S1836.same e1839
                refine ⟨_, rfl, ?_⟩
                refine iteBN (fun c1841 => ?_) (fun c1841 => ?_)
                · have hw := cW_negB c1841 hw
                  refine iteT ?_
                  have hw := cW_ok hw
                  have hw := hK1733 (.rt _) hw
                  have hw := hK1716 (.rt _) hw
                  have hw := cW_ok hw
                  exact eq_bl (k _) (hK0 _ hw).symm
                · have hw := cW_pos c1841 hw
                  have h1842 := (e1839 _ _ h1834)
                  have h1843 := (e1839 _ _ (e1830 _ _ h1826))
                  refine ⟨_, rfl, _, rfl, _, _, (rp_mk_ints h1842), (rp_mk_ints h1843), _, rfl, ?_⟩
                  refine iteN (fun c1844 => ?_) (fun c1844 => ?_)
                  · have hw := cW_neg c1844 hw
                    refine iteT ?_
                    have hw := cW_ok hw
                    have hw := hK1733 (.rt _) hw
                    have hw := hK1716 (.rt _) hw
                    have hw := cW_ok hw
                    exact eq_bl (k _) (hK0 _ hw).symm
                  · have hw := cW_pos c1844 hw
                    have h1845 := (e1839 _ _ (e1830 _ _ h1822))
                    have h1846 := (e1839 _ _ (e1830 _ _ h1823))
                    refine ⟨_, rfl, _, rfl, _, _, (rp_mk_ints h1845), (rp_mk_ints h1846), _, rfl, ?_⟩
                    refine iteN (fun c1847 => ?_) (fun c1847 => ?_)
                    · have hw := cW_neg c1847 hw
                      have hw := cW_ok hw
                      have hw := hK1733 (.rt _) hw
                      have hw := hK1716 (.rt _) hw
                      have hw := cW_ok hw
                      exact eq_bl (k _) (hK0 _ hw).symm
                    · have hw := cW_pos c1847 hw
                      have h1848 := (e1839 _ _ (e1830 _ _ h1825))
                      refine ⟨_, rfl, rfl, rfl, G1806, _, _, rfl, S1840.sG, (hide_nil h1848), cW_call hw (fun v1849 hw p1852 H1850 n1853 e1851 h1854 => ?_) (fun e he => (hE e he).elim)⟩
                      have h1855 : H1850 p1852 = some (.lst ((v1849 : (List Int)).map V.int)) := h1854
                      have fr1856 := S1840.free n1853
                      have S1857 := S1840.new n1853 e1851 h1855 fr1856
                      refine ⟨_, rfl, _, rfl, rfl, rfl, G1806, _, _, _, rfl, S1857.sG, (hide_nil h1855), cW_call hw (fun v1858 hw H1859 e1860 => ?_) (fun e he => (hE e he).elim)⟩
                      have S1861 := S1857.same e1860
                      refine ⟨_, rfl, ?_⟩
                      refine iteBN (fun c1862 => ?_) (fun c1862 => ?_)
                      · have hw := cW_negB c1862 hw
                        refine iteT ?_
                        have hw := cW_ok hw
                        have hw := hK1733 (.rt _) hw
                        have hw := hK1716 (.rt _) hw
                        have hw := cW_ok hw
                        exact eq_bl (k _) (hK0 _ hw).symm
                      · have hw := cW_pos c1862 hw
                        have h1863 := (e1860 _ _ (e1851 _ _ h1848))
                        have h1864 := (e1860 _ _ (e1851 _ _ h1843))
                        refine ⟨_, rfl, _, rfl, _, _, (rp_mk_ints h1863), (rp_mk_ints h1864), _, rfl, ?_⟩
                        refine iteN (fun c1865 => ?_) (fun c1865 => ?_)
                        · have hw := cW_neg c1865 hw
                          refine iteT ?_
                          have hw := cW_ok hw
                          have hw := hK1733 (.rt _) hw
                          have hw := hK1716 (.rt _) hw
                          have hw := cW_ok hw
                          exact eq_bl (k _) (hK0 _ hw).symm
                        · have hw := cW_pos c1865 hw
                          have h1866 := (e1860 _ _ h1855)
                          refine ⟨_, rfl, rfl, rfl, G1806, _, _, rfl, S1861.sG, (hide_nil h1866), cW_call hw (fun v1867 hw p1870 H1868 n1871 e1869 h1872 => ?_) (fun e he => (hE e he).elim)⟩
                          have h1873 : H1868 p1870 = some (.lst ((v1867 : (List Int)).map V.int)) := h1872
                          have fr1874 := S1861.free n1871
                          have S1875 := S1861.new n1871 e1869 h1873 fr1874
                          have h1876 := (e1869 _ _ h1864)
                          refine ⟨_, rfl, _, _, (rp_mk_ints h1873), (rp_mk_ints h1876), _, rfl, ?_⟩
                          refine iteN (fun c1877 => ?_) (fun c1877 => ?_)
                          · have hw := cW_neg c1877 hw
                            have hw := cW_ok hw
                            have hw := hK1733 (.rt _) hw
                            have hw := hK1716 (.rt _) hw
                            have hw := cW_ok hw
                            exact eq_bl (k _) (hK0 _ hw).symm
                          · have hw := cW_pos c1877 hw
                            refine ⟨_, rfl, _, _, rfl, rfl, (divW_lit (by decide) (by decide)), _, _, rfl, rfl, (show (0 : Int) < 11 by decide), ?_⟩
                            have hw := cW_bnd hw
                            refine ⟨_, rfl, _, _, rfl, rfl, _, rfl, ?_⟩
                            refine iteN (fun c1879 => ?_) (fun c1879 => ?_)
                            · have hw := cW_neg c1879 hw
                              refine ⟨_, rfl, _, _, rfl, rfl, _, rfl, ?_⟩
                              refine iteN (fun c1880 => ?_) (fun c1880 => ?_)
                              · have hw := cW_neg c1880 hw
                                refine ⟨(by show 1 ≤ sizeLine; decide), fun p1881 n1882 => ?_⟩
                                generalize g1883 : upd H1868 p1881 _ = H1884
                                obtain ⟨e1885, h1886⟩ := gen_new n1882 g1883
                                have h1887 : H1884 p1881 = some (.lst (([0] : (List Int)).map V.int)) := h1886
                                have fr1888 := S1875.free n1882
                                have S1889 := S1875.new n1882 e1885 h1887 fr1888
                                obtain ⟨g1890, hw⟩ := cW_grd hw
                                refine ⟨_, rfl, _, _, _, rfl, rfl, h1887, g1890.1, g1890.2.1, (rep_lenM g1890.2.2), fun p1891 n1892 => ?_⟩
                                generalize g1893 : upd H1884 p1891 _ = H1894
                                obtain ⟨e1895, h1896⟩ := gen_new n1892 g1893
                                have h1897 : H1894 p1891 = some (.lst ((repL ([0]) ((((v1735 + x1731) / 5) % 11)) : (List Int)).map V.int)) := rep_map h1896
                                have fr1898 := S1889.free n1892
                                have S1899 := S1889.new n1892 e1895 h1897 fr1898
                                refine ⟨rfl, rfl, G1806, _, _, rfl, S1899.sG, (hide_nil h1897), cW_call hw (fun v1900 hw H1901 e1902 => ?_) (fun e he => (hE e he).elim)⟩
                                have S1903 := S1899.same e1902
                                refine ⟨_, rfl, ?_⟩
                                refine iteBN (fun c1904 => ?_) (fun c1904 => ?_)
                                · have hw := cW_negB c1904 hw
                                  have hw := cW_ok hw
                                  have hw := hK1733 (.rt _) hw
                                  have hw := hK1716 (.rt _) hw
                                  have hw := cW_ok hw
                                  exact eq_bl (k _) (hK0 _ hw).symm
                                · have hw := cW_pos c1904 hw
                                  have hw := cW_ok hw
                                  have hw := hK1733 _ hw
                                  exact ⟨_, _, _, _, _, _, _, _, _, _, _, rfl, (Same.trans (Same.trans eG1730 eG1746) eG1807), (S1903.sub all_nil), hw⟩
                              · have hw := cW_pos c1880 hw
                                refine iteF ?_
                                have hw := cW_ok hw
                                have hw := hK1733 _ hw
                                exact ⟨_, _, _, _, _, _, _, _, _, _, _, rfl, (Same.trans (Same.trans eG1730 eG1746) eG1807), (S1875.sub all_nil), hw⟩
                            · have hw := cW_pos c1879 hw
                              refine iteF ?_
                              have hw := cW_ok hw
                              have hw := hK1733 _ hw
                              exact ⟨_, _, _, _, _, _, _, _, _, _, _, rfl, (Same.trans (Same.trans eG1730 eG1746) eG1807), (S1875.sub all_nil), hw⟩
    · intro σ H1905 hw
      obtain ⟨u1717, u1718, u1719, u1720, u1721, u1722, u1723, u1724, u1725, u1726, G1907, rfl, eG1908, S1906, hw⟩ := hw
      have hw := hK1716 _ (cW_forR0 (rng_len _ _).symm hw)
      have hw : cW (F_law_r1  ) _ EE := hw
      unfold F_law_r1 at hw
      have hw := cW_ok hw
      exact eq_bl (k _) (hK0 _ hw).symm
end
def spL (K : PySem.W.Frag) : Sp := fun vs H Q _ => ∃ (a_script : Addr) (script : List Int), vs = [.ref a_script] ∧ SqL K H a_script (script.map V.int) ∧ script.length ≤ 63 ∧ ∀ H', Q (.bl true) H'
theorem all_mk {l : PySem.W.OpenLaw} {w : World} {K : PySem.W.Frag} {h : Heap} {mg : Str → Option Value} {fa : Addr} (X : K.In h) (G : h.Ns mainGlobals mg) (hfa : mg "law" = some (.ref fa))
    {f0 f1 f2 f3 f4 f5 f6 f7 f8 f9 f10 f11 f12 f13 f14 f15 f16 f17 f18 f19 XCodecError XOutOfRange : Addr} {od0 an0 od1 an1 od2 an2 od3 an3 od4 an4 od5 an5 od6 an6 od7 an7 od8 an8 od9 an9 od10 an10 od11 an11 od12 an12 od13 an13 od14 an14 od15 an15 od16 an16 od17 an17 od18 an18 od19 an19 : Option Addr} {sl0 sl1 sl2 sl3 sl4 sl5 sl6 sl7 sl8 sl9 sl10 sl11 sl12 sl13 sl14 sl15 sl16 sl17 sl18 sl19 : Array (Option Value)} {oc0 kV0 dc0 pm0 cd0 ct0 oc1 kV1 dc1 pm1 cd1 ct1 oc2 kV2 dc2 pm2 cd2 ct2 oc3 kV3 dc3 pm3 cd3 ct3 oc4 kV4 dc4 pm4 cd4 ct4 oc5 kV5 dc5 pm5 cd5 ct5 oc6 kV6 dc6 pm6 cd6 ct6 oc7 kV7 dc7 pm7 cd7 ct7 oc8 kV8 dc8 pm8 cd8 ct8 oc9 kV9 dc9 pm9 cd9 ct9 oc10 kV10 dc10 pm10 cd10 ct10 oc11 kV11 dc11 pm11 cd11 ct11 oc12 kV12 dc12 pm12 cd12 ct12 oc13 kV13 dc13 pm13 cd13 ct13 oc14 kV14 dc14 pm14 cd14 ct14 oc15 kV15 dc15 pm15 cd15 ct15 oc16 kV16 dc16 pm16 cd16 ct16 oc17 kV17 dc17 pm17 cd17 ct17 oc18 kV18 dc18 pm18 cd18 ct18 oc19 kV19 dc19 pm19 cd19 ct19 : Value} {TG_SIZES : Addr} {td2 : Option Addr} {tn2 : Nat} {tsl2 : Array (Option Value)} {tk2_0 tk2_1 : Tok}
    (vCodecError : PySem.W.nsIn K mainGlobals "CodecError" = some (some (.ref XCodecError))) (vOutOfRange : PySem.W.nsIn K mainGlobals "OutOfRange" = some (some (.ref XOutOfRange))) (a0 : PySem.W.nsIn K mainGlobals "_law_digits" = some (some (.ref f0))) (l0 : K.lookup f0 = some ⟨oc0, od0, .func (PySem.W.fnOf "_law_digits" "_law_digits" (defArgs s__law_digits) (defBody s__law_digits) (defScope s__law_digits) .none kV0 dc0 pm0 an0 cd0 ct0), sl0⟩) (c0 : PySem.W.codeIn K cd0 "_law_digits" = true) (k0 : PySem.W.keepIn K (.ref f0) = true) (a1 : PySem.W.nsIn K mainGlobals "_law_values" = some (some (.ref f1))) (l1 : K.lookup f1 = some ⟨oc1, od1, .func (PySem.W.fnOf "_law_values" "_law_values" (defArgs s__law_values) (defBody s__law_values) (defScope s__law_values) .none kV1 dc1 pm1 an1 cd1 ct1), sl1⟩) (c1 : PySem.W.codeIn K cd1 "_law_values" = true) (k1 : PySem.W.keepIn K (.ref f1) = true) (a2 : PySem.W.nsIn K mainGlobals "_law_turned" = some (some (.ref f2))) (l2 : K.lookup f2 = some ⟨oc2, od2, .func (PySem.W.fnOf "_law_turned" "_law_turned" (defArgs s__law_turned) (defBody s__law_turned) (defScope s__law_turned) .none kV2 dc2 pm2 an2 cd2 ct2), sl2⟩) (c2 : PySem.W.codeIn K cd2 "_law_turned" = true) (k2 : PySem.W.keepIn K (.ref f2) = true) (a3 : PySem.W.nsIn K mainGlobals "_law_four" = some (some (.ref f3))) (l3 : K.lookup f3 = some ⟨oc3, od3, .func (PySem.W.fnOf "_law_four" "_law_four" (defArgs s__law_four) (defBody s__law_four) (defScope s__law_four) .none kV3 dc3 pm3 an3 cd3 ct3), sl3⟩) (c3 : PySem.W.codeIn K cd3 "_law_four" = true) (k3 : PySem.W.keepIn K (.ref f3) = true) (a4 : PySem.W.nsIn K mainGlobals "check_size" = some (some (.ref f4))) (l4 : K.lookup f4 = some ⟨oc4, od4, .func (PySem.W.fnOf "check_size" "check_size" (defArgs s_check_size) (defBody s_check_size) (defScope s_check_size) .none kV4 dc4 pm4 an4 cd4 ct4), sl4⟩) (c4 : PySem.W.codeIn K cd4 "check_size" = true) (k4 : PySem.W.keepIn K (.ref f4) = true) (a5 : PySem.W.nsIn K mainGlobals "split_pair" = some (some (.ref f5))) (l5 : K.lookup f5 = some ⟨oc5, od5, .func (PySem.W.fnOf "split_pair" "split_pair" (defArgs s_split_pair) (defBody s_split_pair) (defScope s_split_pair) .none kV5 dc5 pm5 an5 cd5 ct5), sl5⟩) (c5 : PySem.W.codeIn K cd5 "split_pair" = true) (k5 : PySem.W.keepIn K (.ref f5) = true) (a6 : PySem.W.nsIn K mainGlobals "turn_pair" = some (some (.ref f6))) (l6 : K.lookup f6 = some ⟨oc6, od6, .func (PySem.W.fnOf "turn_pair" "turn_pair" (defArgs s_turn_pair) (defBody s_turn_pair) (defScope s_turn_pair) .none kV6 dc6 pm6 an6 cd6 ct6), sl6⟩) (c6 : PySem.W.codeIn K cd6 "turn_pair" = true) (k6 : PySem.W.keepIn K (.ref f6) = true) (a7 : PySem.W.nsIn K mainGlobals "_forward_four" = some (some (.ref f7))) (l7 : K.lookup f7 = some ⟨oc7, od7, .func (PySem.W.fnOf "_forward_four" "_forward_four" (defArgs s__forward_four) (defBody s__forward_four) (defScope s__forward_four) .none kV7 dc7 pm7 an7 cd7 ct7), sl7⟩) (c7 : PySem.W.codeIn K cd7 "_forward_four" = true) (k7 : PySem.W.keepIn K (.ref f7) = true) (a8 : PySem.W.nsIn K mainGlobals "_forward_eight" = some (some (.ref f8))) (l8 : K.lookup f8 = some ⟨oc8, od8, .func (PySem.W.fnOf "_forward_eight" "_forward_eight" (defArgs s__forward_eight) (defBody s__forward_eight) (defScope s__forward_eight) .none kV8 dc8 pm8 an8 cd8 ct8), sl8⟩) (c8 : PySem.W.codeIn K cd8 "_forward_eight" = true) (k8 : PySem.W.keepIn K (.ref f8) = true) (a9 : PySem.W.nsIn K mainGlobals "forward" = some (some (.ref f9))) (l9 : K.lookup f9 = some ⟨oc9, od9, .func (PySem.W.fnOf "forward" "forward" (defArgs s_forward) (defBody s_forward) (defScope s_forward) .none kV9 dc9 pm9 an9 cd9 ct9), sl9⟩) (c9 : PySem.W.codeIn K cd9 "forward" = true) (k9 : PySem.W.keepIn K (.ref f9) = true) (a10 : PySem.W.nsIn K mainGlobals "turn_back" = some (some (.ref f10))) (l10 : K.lookup f10 = some ⟨oc10, od10, .func (PySem.W.fnOf "turn_back" "turn_back" (defArgs s_turn_back) (defBody s_turn_back) (defScope s_turn_back) .none kV10 dc10 pm10 an10 cd10 ct10), sl10⟩) (c10 : PySem.W.codeIn K cd10 "turn_back" = true) (k10 : PySem.W.keepIn K (.ref f10) = true) (a11 : PySem.W.nsIn K mainGlobals "join_pair" = some (some (.ref f11))) (l11 : K.lookup f11 = some ⟨oc11, od11, .func (PySem.W.fnOf "join_pair" "join_pair" (defArgs s_join_pair) (defBody s_join_pair) (defScope s_join_pair) .none kV11 dc11 pm11 an11 cd11 ct11), sl11⟩) (c11 : PySem.W.codeIn K cd11 "join_pair" = true) (k11 : PySem.W.keepIn K (.ref f11) = true) (a12 : PySem.W.nsIn K mainGlobals "_inverse_four" = some (some (.ref f12))) (l12 : K.lookup f12 = some ⟨oc12, od12, .func (PySem.W.fnOf "_inverse_four" "_inverse_four" (defArgs s__inverse_four) (defBody s__inverse_four) (defScope s__inverse_four) .none kV12 dc12 pm12 an12 cd12 ct12), sl12⟩) (c12 : PySem.W.codeIn K cd12 "_inverse_four" = true) (k12 : PySem.W.keepIn K (.ref f12) = true) (a13 : PySem.W.nsIn K mainGlobals "_inverse_eight" = some (some (.ref f13))) (l13 : K.lookup f13 = some ⟨oc13, od13, .func (PySem.W.fnOf "_inverse_eight" "_inverse_eight" (defArgs s__inverse_eight) (defBody s__inverse_eight) (defScope s__inverse_eight) .none kV13 dc13 pm13 an13 cd13 ct13), sl13⟩) (c13 : PySem.W.codeIn K cd13 "_inverse_eight" = true) (k13 : PySem.W.keepIn K (.ref f13) = true) (a14 : PySem.W.nsIn K mainGlobals "inverse" = some (some (.ref f14))) (l14 : K.lookup f14 = some ⟨oc14, od14, .func (PySem.W.fnOf "inverse" "inverse" (defArgs s_inverse) (defBody s_inverse) (defScope s_inverse) .none kV14 dc14 pm14 an14 cd14 ct14), sl14⟩) (c14 : PySem.W.codeIn K cd14 "inverse" = true) (k14 : PySem.W.keepIn K (.ref f14) = true) (a15 : PySem.W.nsIn K mainGlobals "_law_cell" = some (some (.ref f15))) (l15 : K.lookup f15 = some ⟨oc15, od15, .func (PySem.W.fnOf "_law_cell" "_law_cell" (defArgs s__law_cell) (defBody s__law_cell) (defScope s__law_cell) .none kV15 dc15 pm15 an15 cd15 ct15), sl15⟩) (c15 : PySem.W.codeIn K cd15 "_law_cell" = true) (k15 : PySem.W.keepIn K (.ref f15) = true) (a16 : PySem.W.nsIn K mainGlobals "_law_eight" = some (some (.ref f16))) (l16 : K.lookup f16 = some ⟨oc16, od16, .func (PySem.W.fnOf "_law_eight" "_law_eight" (defArgs s__law_eight) (defBody s__law_eight) (defScope s__law_eight) .none kV16 dc16 pm16 an16 cd16 ct16), sl16⟩) (c16 : PySem.W.codeIn K cd16 "_law_eight" = true) (k16 : PySem.W.keepIn K (.ref f16) = true) (a17 : PySem.W.nsIn K mainGlobals "_law_is_integers" = some (some (.ref f17))) (l17 : K.lookup f17 = some ⟨oc17, od17, .func (PySem.W.fnOf "_law_is_integers" "_law_is_integers" (defArgs s__law_is_integers) (defBody s__law_is_integers) (defScope s__law_is_integers) .none kV17 dc17 pm17 an17 cd17 ct17), sl17⟩) (c17 : PySem.W.codeIn K cd17 "_law_is_integers" = true) (k17 : PySem.W.keepIn K (.ref f17) = true) (a18 : PySem.W.nsIn K mainGlobals "_law_refused" = some (some (.ref f18))) (l18 : K.lookup f18 = some ⟨oc18, od18, .func (PySem.W.fnOf "_law_refused" "_law_refused" (defArgs s__law_refused) (defBody s__law_refused) (defScope s__law_refused) .none kV18 dc18 pm18 an18 cd18 ct18), sl18⟩) (c18 : PySem.W.codeIn K cd18 "_law_refused" = true) (k18 : PySem.W.keepIn K (.ref f18) = true) (a19 : PySem.W.nsIn K mainGlobals "law" = some (some (.ref f19))) (l19 : K.lookup f19 = some ⟨oc19, od19, .func (PySem.W.fnOf "law" "law" (defArgs s_law) (defBody s_law) (defScope s_law) .none kV19 dc19 pm19 an19 cd19 ct19), sl19⟩) (c19 : PySem.W.codeIn K cd19 "law" = true) (k19 : PySem.W.keepIn K (.ref f19) = true)
    (z0 : PySem.W.nsIn K mainGlobals "int" = some none) (z1 : PySem.W.nsIn K mainGlobals "range" = some none) (z2 : PySem.W.nsIn K mainGlobals "SIZES" = some (some (.ref TG_SIZES))) (y2 : K.lookup TG_SIZES = some ⟨.type "tuple", td2, .seq #[.int 4 tk2_0, .int 8 tk2_1] tn2, tsl2⟩) (z3 : PySem.W.nsIn K mainGlobals "len" = some none) (z4 : PySem.W.nsIn K mainGlobals "zip" = some none) (z5 : PySem.W.nsIn K mainGlobals "abs" = some none) (z6 : PySem.W.nsIn K mainGlobals "isinstance" = some none) (z7 : PySem.W.nsIn K mainGlobals "list" = some none) (z8 : PySem.W.nsIn K mainGlobals "bool" = some none) (z9 : PySem.W.nsIn K mainGlobals "min" = some none) (exOutOfRange : PySem.W.excIn K XOutOfRange [.type "ValueError", .type "Exception", .type "BaseException", .type "object"] "ValueError.__new__" = true) (ekOutOfRange : PySem.W.keepIn K (.ref XOutOfRange) = true) (ebOutOfRange : PySem.W.subIn K (.ref XOutOfRange) (.type "BaseException") = some true) (etOutOfRange : PySem.W.typeIn K (.ref XOutOfRange) = some (.type "type")) (exCodecError : PySem.W.excIn K XCodecError [.type "ValueError", .type "Exception", .type "BaseException", .type "object"] "ValueError.__new__" = true) (ekCodecError : PySem.W.keepIn K (.ref XCodecError) = true) (ebCodecError : PySem.W.subIn K (.ref XCodecError) (.type "BaseException") = some true) (etCodecError : PySem.W.typeIn K (.ref XCodecError) = some (.type "type")) (eiOutOfRangeOutOfRange : PySem.W.isClsIn K XOutOfRange = true) (esOutOfRangeOutOfRange : PySem.W.subIn K (.ref XOutOfRange) (.ref XOutOfRange) = some true) (eiOutOfRangeCodecError : PySem.W.isClsIn K XCodecError = true) (esOutOfRangeCodecError : PySem.W.subIn K (.ref XOutOfRange) (.ref XCodecError) = some true) (c1OutOfRange : PySem.W.findIn K (.ref XOutOfRange) "__getattribute__" = some (some (.builtin "BaseException.__getattribute__"))) (c2OutOfRange : PySem.W.findIn K (.ref XOutOfRange) "__getattr__" = some none) (c3OutOfRange : PySem.W.hasDictIn K XOutOfRange = true) (c4OutOfRange : PySem.W.findIn K (.ref XOutOfRange) "__class__" = some (some (.builtin "object.__class__"))) (c5OutOfRange : PySem.W.specialIn K (.builtin "object.__class__") "__get__" = some (some (.builtin "getset_descriptor.__get__"))) (c6OutOfRange : PySem.W.takesIn K (.builtin "object.__class__") = some true) (c7OutOfRange : PySem.W.mroIn K XOutOfRange (.type "object") = some true) :
    ∃ fd : FuncData, (∀ (s : Shared) (v : Value), BindsTo s fd ⟨[v], []⟩ [("script", v)]) ∧ ∀ base : Heap, K.In base → base.Ns mainGlobals mg → FnOk l.prog w K mg base CX0 6 fa fd ["script"] (spL K) := by
  have e := hfa.symm.trans (PySem.W.mg_of X G a19)
  cases e
  have T : Txt K mg ⟨XCodecError, XOutOfRange, TG_SIZES, fa⟩ := ⟨PySem.W.mg_none_of X G z0, PySem.W.mg_none_of X G z1, ⟨_, PySem.W.mg_of X G z2, rfl⟩, fun H => .inr ⟨_, _, _, y2, rfl, rfl, (by show 2 ≤ sizeLine; decide), (.cons ⟨_, rfl⟩ (.cons ⟨_, rfl⟩ .nil))⟩, PySem.W.mg_none_of X G z3, PySem.W.mg_none_of X G z4, PySem.W.mg_none_of X G z5, PySem.W.mg_none_of X G z6, PySem.W.mg_none_of X G z7, PySem.W.mg_none_of X G z8, PySem.W.mg_none_of X G z9, PySem.W.mg_of X G vOutOfRange, exOutOfRange, ekOutOfRange, ebOutOfRange, etOutOfRange, PySem.W.mg_of X G vCodecError, exCodecError, ekCodecError, ebCodecError, etCodecError, exm_mk ebOutOfRange eiOutOfRangeOutOfRange etOutOfRange esOutOfRangeOutOfRange, kit_mk eiOutOfRangeCodecError etCodecError esOutOfRangeCodecError, ⟨c1OutOfRange, c2OutOfRange, ebOutOfRange, c3OutOfRange, c4OutOfRange, c5OutOfRange, c6OutOfRange, c7OutOfRange⟩⟩
  have F0 : FunD K "_law_digits" "_law_digits" (defArgs s__law_digits) (defBody s__law_digits) (defScope s__law_digits) [] [] f0 _ := ⟨⟨_, _, _, _, _, _, _, _, _, _, rfl, l0, c0, .inl ⟨rfl, rfl⟩, .inl rfl⟩, k0⟩
  have D_0 : DefX K mg "_law_digits" s__law_digits ["cell", "base", "most"] pats__law_digits := ⟨_, _, _, _, F0, PySem.W.mg_of X G a0, (all_consQ (Bnd.all fun us ws vs zs l1 l2 r rz => by
      obtain ⟨u0, u1, u2, rfl⟩ := len3 (r.length.symm.trans l1)
      obtain rfl := len0 (rz.length.symm.trans l2)
      cases r with | cons r0 r =>
        cases r with | cons r1 r =>
          cases r with | cons r2 r =>
            cases r
            cases rz
            exact ⟨[u0, u1, u2], rfl, (.cons r0 (.cons r1 (.cons r2 .nil)))⟩) all_nilQ)⟩
  have F1 : FunD K "_law_values" "_law_values" (defArgs s__law_values) (defBody s__law_values) (defScope s__law_values) [] [] f1 _ := ⟨⟨_, _, _, _, _, _, _, _, _, _, rfl, l1, c1, .inl ⟨rfl, rfl⟩, .inl rfl⟩, k1⟩
  have D_1 : DefX K mg "_law_values" s__law_values ["cell", "count"] pats__law_values := ⟨_, _, _, _, F1, PySem.W.mg_of X G a1, (all_consQ (Bnd.all fun us ws vs zs l1 l2 r rz => by
      obtain ⟨u0, u1, rfl⟩ := len2 (r.length.symm.trans l1)
      obtain rfl := len0 (rz.length.symm.trans l2)
      cases r with | cons r0 r =>
        cases r with | cons r1 r =>
          cases r
          cases rz
          exact ⟨[u0, u1], rfl, (.cons r0 (.cons r1 .nil))⟩) all_nilQ)⟩
  have F2 : FunD K "_law_turned" "_law_turned" (defArgs s__law_turned) (defBody s__law_turned) (defScope s__law_turned) [] [] f2 _ := ⟨⟨_, _, _, _, _, _, _, _, _, _, rfl, l2, c2, .inl ⟨rfl, rfl⟩, .inl rfl⟩, k2⟩
  have D_2 : DefX K mg "_law_turned" s__law_turned ["first", "second", "outer", "inner"] pats__law_turned := ⟨_, _, _, _, F2, PySem.W.mg_of X G a2, (all_consQ (Bnd.all fun us ws vs zs l1 l2 r rz => by
      obtain ⟨u0, u1, u2, u3, rfl⟩ := len4 (r.length.symm.trans l1)
      obtain rfl := len0 (rz.length.symm.trans l2)
      cases r with | cons r0 r =>
        cases r with | cons r1 r =>
          cases r with | cons r2 r =>
            cases r with | cons r3 r =>
              cases r
              cases rz
              exact ⟨[u0, u1, u2, u3], rfl, (.cons r0 (.cons r1 (.cons r2 (.cons r3 .nil))))⟩) all_nilQ)⟩
  have F3 : FunD K "_law_four" "_law_four" (defArgs s__law_four) (defBody s__law_four) (defScope s__law_four) [] [] f3 _ := ⟨⟨_, _, _, _, _, _, _, _, _, _, rfl, l3, c3, .inl ⟨rfl, rfl⟩, .inl rfl⟩, k3⟩
  have D_3 : DefX K mg "_law_four" s__law_four ["x"] pats__law_four := ⟨_, _, _, _, F3, PySem.W.mg_of X G a3, (all_consQ (Bnd.all fun us ws vs zs l1 l2 r rz => by
      obtain ⟨u0, rfl⟩ := len1 (r.length.symm.trans l1)
      obtain rfl := len0 (rz.length.symm.trans l2)
      cases r with | cons r0 r =>
        cases r
        cases rz
        exact ⟨[u0], rfl, (.cons r0 .nil)⟩) all_nilQ)⟩
  have F4 : FunD K "check_size" "check_size" (defArgs s_check_size) (defBody s_check_size) (defScope s_check_size) [] [] f4 _ := ⟨⟨_, _, _, _, _, _, _, _, _, _, rfl, l4, c4, .inl ⟨rfl, rfl⟩, .inl rfl⟩, k4⟩
  have D_4 : DefX K mg "check_size" s_check_size ["size"] pats_check_size := ⟨_, _, _, _, F4, PySem.W.mg_of X G a4, (all_consQ (Bnd.all fun us ws vs zs l1 l2 r rz => by
      obtain ⟨u0, rfl⟩ := len1 (r.length.symm.trans l1)
      obtain rfl := len0 (rz.length.symm.trans l2)
      cases r with | cons r0 r =>
        cases r
        cases rz
        exact ⟨[u0], rfl, (.cons r0 .nil)⟩) all_nilQ)⟩
  have F5 : FunD K "split_pair" "split_pair" (defArgs s_split_pair) (defBody s_split_pair) (defScope s_split_pair) [] [] f5 _ := ⟨⟨_, _, _, _, _, _, _, _, _, _, rfl, l5, c5, .inl ⟨rfl, rfl⟩, .inl rfl⟩, k5⟩
  have D_5 : DefX K mg "split_pair" s_split_pair ["first", "second"] pats_split_pair := ⟨_, _, _, _, F5, PySem.W.mg_of X G a5, (all_consQ (Bnd.all fun us ws vs zs l1 l2 r rz => by
      obtain ⟨u0, u1, rfl⟩ := len2 (r.length.symm.trans l1)
      obtain rfl := len0 (rz.length.symm.trans l2)
      cases r with | cons r0 r =>
        cases r with | cons r1 r =>
          cases r
          cases rz
          exact ⟨[u0, u1], rfl, (.cons r0 (.cons r1 .nil))⟩) all_nilQ)⟩
  have F6 : FunD K "turn_pair" "turn_pair" (defArgs s_turn_pair) (defBody s_turn_pair) (defScope s_turn_pair) [] [] f6 _ := ⟨⟨_, _, _, _, _, _, _, _, _, _, rfl, l6, c6, .inl ⟨rfl, rfl⟩, .inl rfl⟩, k6⟩
  have D_6 : DefX K mg "turn_pair" s_turn_pair ["first", "second", "outer", "inner"] pats_turn_pair := ⟨_, _, _, _, F6, PySem.W.mg_of X G a6, (all_consQ (Bnd.all fun us ws vs zs l1 l2 r rz => by
      obtain ⟨u0, u1, rfl⟩ := len2 (r.length.symm.trans l1)
      obtain ⟨w0, w1, rfl⟩ := len2 (rz.length.symm.trans l2)
      cases r with | cons r0 r =>
        cases r with | cons r1 r =>
          cases r
          cases rz with | cons q0 rz =>
            cases rz with | cons q1 rz =>
              cases rz
              exact ⟨[u0, u1, w0, w1], rfl, (.cons r0 (.cons r1 (.cons q0 (.cons q1 .nil))))⟩) all_nilQ)⟩
  have F7 : FunD K "_forward_four" "_forward_four" (defArgs s__forward_four) (defBody s__forward_four) (defScope s__forward_four) [] [] f7 _ := ⟨⟨_, _, _, _, _, _, _, _, _, _, rfl, l7, c7, .inl ⟨rfl, rfl⟩, .inl rfl⟩, k7⟩
  have D_7 : DefX K mg "_forward_four" s__forward_four ["values"] pats__forward_four := ⟨_, _, _, _, F7, PySem.W.mg_of X G a7, (all_consQ (Bnd.all fun us ws vs zs l1 l2 r rz => by
      obtain ⟨u0, rfl⟩ := len1 (r.length.symm.trans l1)
      obtain rfl := len0 (rz.length.symm.trans l2)
      cases r with | cons r0 r =>
        cases r
        cases rz
        exact ⟨[u0], rfl, (.cons r0 .nil)⟩) all_nilQ)⟩
  have F8 : FunD K "_forward_eight" "_forward_eight" (defArgs s__forward_eight) (defBody s__forward_eight) (defScope s__forward_eight) [] [] f8 _ := ⟨⟨_, _, _, _, _, _, _, _, _, _, rfl, l8, c8, .inl ⟨rfl, rfl⟩, .inl rfl⟩, k8⟩
  have D_8 : DefX K mg "_forward_eight" s__forward_eight ["values"] pats__forward_eight := ⟨_, _, _, _, F8, PySem.W.mg_of X G a8, (all_consQ (Bnd.all fun us ws vs zs l1 l2 r rz => by
      obtain ⟨u0, rfl⟩ := len1 (r.length.symm.trans l1)
      obtain rfl := len0 (rz.length.symm.trans l2)
      cases r with | cons r0 r =>
        cases r
        cases rz
        exact ⟨[u0], rfl, (.cons r0 .nil)⟩) all_nilQ)⟩
  have F9 : FunD K "forward" "forward" (defArgs s_forward) (defBody s_forward) (defScope s_forward) [] [] f9 _ := ⟨⟨_, _, _, _, _, _, _, _, _, _, rfl, l9, c9, .inl ⟨rfl, rfl⟩, .inl rfl⟩, k9⟩
  have D_9 : DefX K mg "forward" s_forward ["values"] pats_forward := ⟨_, _, _, _, F9, PySem.W.mg_of X G a9, (all_consQ (Bnd.all fun us ws vs zs l1 l2 r rz => by
      obtain ⟨u0, rfl⟩ := len1 (r.length.symm.trans l1)
      obtain rfl := len0 (rz.length.symm.trans l2)
      cases r with | cons r0 r =>
        cases r
        cases rz
        exact ⟨[u0], rfl, (.cons r0 .nil)⟩) all_nilQ)⟩
  have F10 : FunD K "turn_back" "turn_back" (defArgs s_turn_back) (defBody s_turn_back) (defScope s_turn_back) [] [] f10 _ := ⟨⟨_, _, _, _, _, _, _, _, _, _, rfl, l10, c10, .inl ⟨rfl, rfl⟩, .inl rfl⟩, k10⟩
  have D_10 : DefX K mg "turn_back" s_turn_back ["first", "second", "outer", "inner"] pats_turn_back := ⟨_, _, _, _, F10, PySem.W.mg_of X G a10, (all_consQ (Bnd.all fun us ws vs zs l1 l2 r rz => by
      obtain ⟨u0, u1, rfl⟩ := len2 (r.length.symm.trans l1)
      obtain ⟨w0, w1, rfl⟩ := len2 (rz.length.symm.trans l2)
      cases r with | cons r0 r =>
        cases r with | cons r1 r =>
          cases r
          cases rz with | cons q0 rz =>
            cases rz with | cons q1 rz =>
              cases rz
              exact ⟨[u0, u1, w0, w1], rfl, (.cons r0 (.cons r1 (.cons q0 (.cons q1 .nil))))⟩) all_nilQ)⟩
  have F11 : FunD K "join_pair" "join_pair" (defArgs s_join_pair) (defBody s_join_pair) (defScope s_join_pair) [] [] f11 _ := ⟨⟨_, _, _, _, _, _, _, _, _, _, rfl, l11, c11, .inl ⟨rfl, rfl⟩, .inl rfl⟩, k11⟩
  have D_11 : DefX K mg "join_pair" s_join_pair ["low", "high"] pats_join_pair := ⟨_, _, _, _, F11, PySem.W.mg_of X G a11, (all_consQ (Bnd.all fun us ws vs zs l1 l2 r rz => by
      obtain ⟨u0, u1, rfl⟩ := len2 (r.length.symm.trans l1)
      obtain rfl := len0 (rz.length.symm.trans l2)
      cases r with | cons r0 r =>
        cases r with | cons r1 r =>
          cases r
          cases rz
          exact ⟨[u0, u1], rfl, (.cons r0 (.cons r1 .nil))⟩) all_nilQ)⟩
  have F12 : FunD K "_inverse_four" "_inverse_four" (defArgs s__inverse_four) (defBody s__inverse_four) (defScope s__inverse_four) [] [] f12 _ := ⟨⟨_, _, _, _, _, _, _, _, _, _, rfl, l12, c12, .inl ⟨rfl, rfl⟩, .inl rfl⟩, k12⟩
  have D_12 : DefX K mg "_inverse_four" s__inverse_four ["values"] pats__inverse_four := ⟨_, _, _, _, F12, PySem.W.mg_of X G a12, (all_consQ (Bnd.all fun us ws vs zs l1 l2 r rz => by
      obtain ⟨u0, rfl⟩ := len1 (r.length.symm.trans l1)
      obtain rfl := len0 (rz.length.symm.trans l2)
      cases r with | cons r0 r =>
        cases r
        cases rz
        exact ⟨[u0], rfl, (.cons r0 .nil)⟩) all_nilQ)⟩
  have F13 : FunD K "_inverse_eight" "_inverse_eight" (defArgs s__inverse_eight) (defBody s__inverse_eight) (defScope s__inverse_eight) [] [] f13 _ := ⟨⟨_, _, _, _, _, _, _, _, _, _, rfl, l13, c13, .inl ⟨rfl, rfl⟩, .inl rfl⟩, k13⟩
  have D_13 : DefX K mg "_inverse_eight" s__inverse_eight ["values"] pats__inverse_eight := ⟨_, _, _, _, F13, PySem.W.mg_of X G a13, (all_consQ (Bnd.all fun us ws vs zs l1 l2 r rz => by
      obtain ⟨u0, rfl⟩ := len1 (r.length.symm.trans l1)
      obtain rfl := len0 (rz.length.symm.trans l2)
      cases r with | cons r0 r =>
        cases r
        cases rz
        exact ⟨[u0], rfl, (.cons r0 .nil)⟩) all_nilQ)⟩
  have F14 : FunD K "inverse" "inverse" (defArgs s_inverse) (defBody s_inverse) (defScope s_inverse) [] [] f14 _ := ⟨⟨_, _, _, _, _, _, _, _, _, _, rfl, l14, c14, .inl ⟨rfl, rfl⟩, .inl rfl⟩, k14⟩
  have D_14 : DefX K mg "inverse" s_inverse ["values"] pats_inverse := ⟨_, _, _, _, F14, PySem.W.mg_of X G a14, (all_consQ (Bnd.all fun us ws vs zs l1 l2 r rz => by
      obtain ⟨u0, rfl⟩ := len1 (r.length.symm.trans l1)
      obtain rfl := len0 (rz.length.symm.trans l2)
      cases r with | cons r0 r =>
        cases r
        cases rz
        exact ⟨[u0], rfl, (.cons r0 .nil)⟩) all_nilQ)⟩
  have F15 : FunD K "_law_cell" "_law_cell" (defArgs s__law_cell) (defBody s__law_cell) (defScope s__law_cell) [] [] f15 _ := ⟨⟨_, _, _, _, _, _, _, _, _, _, rfl, l15, c15, .inl ⟨rfl, rfl⟩, .inl rfl⟩, k15⟩
  have D_15 : DefX K mg "_law_cell" s__law_cell ["script", "k"] pats__law_cell := ⟨_, _, _, _, F15, PySem.W.mg_of X G a15, (all_consQ (Bnd.all fun us ws vs zs l1 l2 r rz => by
      obtain ⟨u0, u1, rfl⟩ := len2 (r.length.symm.trans l1)
      obtain rfl := len0 (rz.length.symm.trans l2)
      cases r with | cons r0 r =>
        cases r with | cons r1 r =>
          cases r
          cases rz
          exact ⟨[u0, u1], rfl, (.cons r0 (.cons r1 .nil))⟩) all_nilQ)⟩
  have F16 : FunD K "_law_eight" "_law_eight" (defArgs s__law_eight) (defBody s__law_eight) (defScope s__law_eight) [] [] f16 _ := ⟨⟨_, _, _, _, _, _, _, _, _, _, rfl, l16, c16, .inl ⟨rfl, rfl⟩, .inl rfl⟩, k16⟩
  have D_16 : DefX K mg "_law_eight" s__law_eight ["x"] pats__law_eight := ⟨_, _, _, _, F16, PySem.W.mg_of X G a16, (all_consQ (Bnd.all fun us ws vs zs l1 l2 r rz => by
      obtain ⟨u0, rfl⟩ := len1 (r.length.symm.trans l1)
      obtain rfl := len0 (rz.length.symm.trans l2)
      cases r with | cons r0 r =>
        cases r
        cases rz
        exact ⟨[u0], rfl, (.cons r0 .nil)⟩) all_nilQ)⟩
  have F17 : FunD K "_law_is_integers" "_law_is_integers" (defArgs s__law_is_integers) (defBody s__law_is_integers) (defScope s__law_is_integers) [] [] f17 _ := ⟨⟨_, _, _, _, _, _, _, _, _, _, rfl, l17, c17, .inl ⟨rfl, rfl⟩, .inl rfl⟩, k17⟩
  have D_17 : DefX K mg "_law_is_integers" s__law_is_integers ["actual", "count"] pats__law_is_integers := ⟨_, _, _, _, F17, PySem.W.mg_of X G a17, (all_consQ (Bnd.all fun us ws vs zs l1 l2 r rz => by
      obtain ⟨u0, u1, rfl⟩ := len2 (r.length.symm.trans l1)
      obtain rfl := len0 (rz.length.symm.trans l2)
      cases r with | cons r0 r =>
        cases r with | cons r1 r =>
          cases r
          cases rz
          exact ⟨[u0, u1], rfl, (.cons r0 (.cons r1 .nil))⟩) all_nilQ)⟩
  have F18 : FunD K "_law_refused" "_law_refused" (defArgs s__law_refused) (defBody s__law_refused) (defScope s__law_refused) [] [] f18 _ := ⟨⟨_, _, _, _, _, _, _, _, _, _, rfl, l18, c18, .inl ⟨rfl, rfl⟩, .inl rfl⟩, k18⟩
  have D_18 : DefX K mg "_law_refused" s__law_refused ["values"] pats__law_refused := ⟨_, _, _, _, F18, PySem.W.mg_of X G a18, (all_consQ (Bnd.all fun us ws vs zs l1 l2 r rz => by
      obtain ⟨u0, rfl⟩ := len1 (r.length.symm.trans l1)
      obtain rfl := len0 (rz.length.symm.trans l2)
      cases r with | cons r0 r =>
        cases r
        cases rz
        exact ⟨[u0], rfl, (.cons r0 .nil)⟩) all_nilQ)⟩
  have F19 := fun_mk (st := s_law) l19 c19 k19
  have R__law_digits : ∀ base : Heap, CalX l.prog w K mg base 1 "_law_digits" (sp__law_digits K ⟨XCodecError, XOutOfRange, TG_SIZES, fa⟩) pats__law_digits := fun base => ok__law_digits D_0 T 
  have R__law_values : ∀ base : Heap, CalX l.prog w K mg base 2 "_law_values" (sp__law_values K ⟨XCodecError, XOutOfRange, TG_SIZES, fa⟩) pats__law_values := fun base => ok__law_values D_1 T (R__law_digits base)
  have R__law_turned : ∀ base : Heap, CalX l.prog w K mg base 1 "_law_turned" (sp__law_turned K ⟨XCodecError, XOutOfRange, TG_SIZES, fa⟩) pats__law_turned := fun base => ok__law_turned D_2 T 
  have R__law_four : ∀ base : Heap, CalX l.prog w K mg base 2 "_law_four" (sp__law_four K ⟨XCodecError, XOutOfRange, TG_SIZES, fa⟩) pats__law_four := fun base => ok__law_four D_3 T (R__law_turned base)
  have R_check_size : ∀ base : Heap, CalX l.prog w K mg base 1 "check_size" (sp_check_size K ⟨XCodecError, XOutOfRange, TG_SIZES, fa⟩) pats_check_size := fun base => ok_check_size D_4 T 
  have R_split_pair : ∀ base : Heap, CalX l.prog w K mg base 1 "split_pair" (sp_split_pair K ⟨XCodecError, XOutOfRange, TG_SIZES, fa⟩) pats_split_pair := fun base => ok_split_pair D_5 T 
  have R_turn_pair : ∀ base : Heap, CalX l.prog w K mg base 1 "turn_pair" (sp_turn_pair K ⟨XCodecError, XOutOfRange, TG_SIZES, fa⟩) pats_turn_pair := fun base => ok_turn_pair D_6 T 
  have R__forward_four : ∀ base : Heap, CalX l.prog w K mg base 2 "_forward_four" (sp__forward_four K ⟨XCodecError, XOutOfRange, TG_SIZES, fa⟩) pats__forward_four := fun base => ok__forward_four D_7 T (R_split_pair base) (R_turn_pair base)
  have R__forward_eight : ∀ base : Heap, CalX l.prog w K mg base 3 "_forward_eight" (sp__forward_eight K ⟨XCodecError, XOutOfRange, TG_SIZES, fa⟩) pats__forward_eight := fun base => ok__forward_eight D_8 T (R_split_pair base) (R__forward_four base) (R_turn_pair base)
  have R_forward : ∀ base : Heap, CalX l.prog w K mg base 4 "forward" (sp_forward K ⟨XCodecError, XOutOfRange, TG_SIZES, fa⟩) pats_forward := fun base => ok_forward D_9 T (R_check_size base) (R__forward_four base) (R__forward_eight base)
  have R_turn_back : ∀ base : Heap, CalX l.prog w K mg base 1 "turn_back" (sp_turn_back K ⟨XCodecError, XOutOfRange, TG_SIZES, fa⟩) pats_turn_back := fun base => ok_turn_back D_10 T 
  have R_join_pair : ∀ base : Heap, CalX l.prog w K mg base 1 "join_pair" (sp_join_pair K ⟨XCodecError, XOutOfRange, TG_SIZES, fa⟩) pats_join_pair := fun base => ok_join_pair D_11 T 
  have R__inverse_four : ∀ base : Heap, CalX l.prog w K mg base 2 "_inverse_four" (sp__inverse_four K ⟨XCodecError, XOutOfRange, TG_SIZES, fa⟩) pats__inverse_four := fun base => ok__inverse_four D_12 T (R_turn_back base) (R_join_pair base)
  have R__inverse_eight : ∀ base : Heap, CalX l.prog w K mg base 3 "_inverse_eight" (sp__inverse_eight K ⟨XCodecError, XOutOfRange, TG_SIZES, fa⟩) pats__inverse_eight := fun base => ok__inverse_eight D_13 T (R_join_pair base) (R_turn_back base) (R__inverse_four base)
  have R_inverse : ∀ base : Heap, CalX l.prog w K mg base 4 "inverse" (sp_inverse K ⟨XCodecError, XOutOfRange, TG_SIZES, fa⟩) pats_inverse := fun base => ok_inverse D_14 T (R_check_size base) (R__inverse_four base) (R__inverse_eight base)
  have R__law_cell : ∀ base : Heap, CalX l.prog w K mg base 1 "_law_cell" (sp__law_cell K ⟨XCodecError, XOutOfRange, TG_SIZES, fa⟩) pats__law_cell := fun base => ok__law_cell D_15 T 
  have R__law_eight : ∀ base : Heap, CalX l.prog w K mg base 3 "_law_eight" (sp__law_eight K ⟨XCodecError, XOutOfRange, TG_SIZES, fa⟩) pats__law_eight := fun base => ok__law_eight D_16 T (R__law_four base) (R__law_turned base)
  have R__law_is_integers : ∀ base : Heap, CalX l.prog w K mg base 1 "_law_is_integers" (sp__law_is_integers K ⟨XCodecError, XOutOfRange, TG_SIZES, fa⟩) pats__law_is_integers := fun base => ok__law_is_integers D_17 T 
  have R__law_refused : ∀ base : Heap, CalX l.prog w K mg base 5 "_law_refused" (sp__law_refused K ⟨XCodecError, XOutOfRange, TG_SIZES, fa⟩) pats__law_refused := fun base => ok__law_refused D_18 T (R_forward base) (R_inverse base)

  refine ⟨PySem.W.fnOf "law" "law" (defArgs s_law) (defBody s_law) (defScope s_law) .none kV19 dc19 pm19 an19 cd19 ct19, fun s v => .of_eq rfl, fun base _ _ => (ok_law (AD := ⟨XCodecError, XOutOfRange, TG_SIZES, fa⟩) F19 T (R__law_cell base) (R__law_values base) (R__law_four base) (R__law_eight base) (R_forward base) (R__law_is_integers base) (R_inverse base) (R__law_refused base)).imp ?_⟩
  rintro vs H Q E ⟨a, xs, rfl, hs, hl, q⟩
  exact ⟨a, xs, rfl, hs, by rw [law_true xs hl]; rfl, q⟩
theorem walk {l : PySem.W.OpenLaw} {q : Program} {loose : List Str} {XP : (Str → Option Value) → Heap → Prop} {YP : World → Heap → Prop} {d : DefRec} {K : Params → PySem.W.Frag} (hn : l.most = some 63) (hdf : d.params.defaults = [])
    (hY : ∀ (w : World) (h : Heap), YP w h → (K w.params).In h)
    (F : ∀ (w : World) (mg : Str → Option Value) (fa : Addr) (h : Heap), (K w.params).In h → h.Ns mainGlobals mg → mg d.name = some (.ref fa) →
      ∃ fd : FuncData, (∀ (s : Shared) (u : Value), BindsTo s fd ⟨[u], []⟩ [("script", u)]) ∧ ∀ base : Heap, (K w.params).In base → base.Ns mainGlobals mg → FnOk l.prog w (K w.params) mg base CX0 6 fa fd ["script"] (spL (K w.params))) :
    PySem.W.WalkO q loose XP YP l.row.toRowW d [] (fun f vs => PySem.call f vs) :=
  L2.walk_of (n := 63) (k := 6) (x := "script") (CX := fun _ => CX0) (sp := fun w => spL (K w.params)) hn (by decide) hdf ⟨rfl, by decide, by decide⟩ hY F (fun _ _ a ns hl _ hS => ⟨a, ns, rfl, hS, hl, fun _ => rfl⟩) fun _ _ _ _ _ z => z
end Vx
open PySem PySem.W PyProof.Rows
set_option maxRecDepth 100000 in
set_option maxHeartbeats 0 in
theorem PySem.Challenge.cw_thaumatrope_k42_lists_transformed_holds : PySem.Challenge.rw_thaumatrope_k42_lists_transformed.Holds := by
  w_on; o_law; k_head; (case hw => w_witness2)
  k_fill
  refine Vx.walk (l := PySem.Challenge.rw_thaumatrope_k42_lists_transformed) rfl rfl (fun w h Y => PySem.W.kIn_of Y) ?F
  case F =>
    intro w mg fa h KX G hmg
    refine' Vx.all_mk KX G hmg ?vCodecError ?vOutOfRange ?a0 ?l0 ?c0 ?k0 ?a1 ?l1 ?c1 ?k1 ?a2 ?l2 ?c2 ?k2 ?a3 ?l3 ?c3 ?k3 ?a4 ?l4 ?c4 ?k4 ?a5 ?l5 ?c5 ?k5 ?a6 ?l6 ?c6 ?k6 ?a7 ?l7 ?c7 ?k7 ?a8 ?l8 ?c8 ?k8 ?a9 ?l9 ?c9 ?k9 ?a10 ?l10 ?c10 ?k10 ?a11 ?l11 ?c11 ?k11 ?a12 ?l12 ?c12 ?k12 ?a13 ?l13 ?c13 ?k13 ?a14 ?l14 ?c14 ?k14 ?a15 ?l15 ?c15 ?k15 ?a16 ?l16 ?c16 ?k16 ?a17 ?l17 ?c17 ?k17 ?a18 ?l18 ?c18 ?k18 ?a19 ?l19 ?c19 ?k19 ?z0 ?z1 ?z2 ?y2 ?z3 ?z4 ?z5 ?z6 ?z7 ?z8 ?z9 ?exOutOfRange ?ekOutOfRange ?ebOutOfRange ?etOutOfRange ?exCodecError ?ekCodecError ?ebCodecError ?etCodecError ?eiOutOfRangeOutOfRange ?esOutOfRangeOutOfRange ?eiOutOfRangeCodecError ?esOutOfRangeCodecError ?c1OutOfRange ?c2OutOfRange ?c3OutOfRange ?c4OutOfRange ?c5OutOfRange ?c6OutOfRange ?c7OutOfRange
    (case vCodecError => k_is)
    (case vOutOfRange => k_is)
    (case a0 => k_is)
    (case l0 => k_is)
    (case c0 => k_is)
    (case k0 => k_is)
    (case a1 => k_is)
    (case l1 => k_is)
    (case c1 => k_is)
    (case k1 => k_is)
    (case a2 => k_is)
    (case l2 => k_is)
    (case c2 => k_is)
    (case k2 => k_is)
    (case a3 => k_is)
    (case l3 => k_is)
    (case c3 => k_is)
    (case k3 => k_is)
    (case a4 => k_is)
    (case l4 => k_is)
    (case c4 => k_is)
    (case k4 => k_is)
    (case a5 => k_is)
    (case l5 => k_is)
    (case c5 => k_is)
    (case k5 => k_is)
    (case a6 => k_is)
    (case l6 => k_is)
    (case c6 => k_is)
    (case k6 => k_is)
    (case a7 => k_is)
    (case l7 => k_is)
    (case c7 => k_is)
    (case k7 => k_is)
    (case a8 => k_is)
    (case l8 => k_is)
    (case c8 => k_is)
    (case k8 => k_is)
    (case a9 => k_is)
    (case l9 => k_is)
    (case c9 => k_is)
    (case k9 => k_is)
    (case a10 => k_is)
    (case l10 => k_is)
    (case c10 => k_is)
    (case k10 => k_is)
    (case a11 => k_is)
    (case l11 => k_is)
    (case c11 => k_is)
    (case k11 => k_is)
    (case a12 => k_is)
    (case l12 => k_is)
    (case c12 => k_is)
    (case k12 => k_is)
    (case a13 => k_is)
    (case l13 => k_is)
    (case c13 => k_is)
    (case k13 => k_is)
    (case a14 => k_is)
    (case l14 => k_is)
    (case c14 => k_is)
    (case k14 => k_is)
    (case a15 => k_is)
    (case l15 => k_is)
    (case c15 => k_is)
    (case k15 => k_is)
    (case a16 => k_is)
    (case l16 => k_is)
    (case c16 => k_is)
    (case k16 => k_is)
    (case a17 => k_is)
    (case l17 => k_is)
    (case c17 => k_is)
    (case k17 => k_is)
    (case a18 => k_is)
    (case l18 => k_is)
    (case c18 => k_is)
    (case k18 => k_is)
    (case a19 => k_is)
    (case l19 => k_is)
    (case c19 => k_is)
    (case k19 => k_is)
    (case z0 => k_is)
    (case z1 => k_is)
    (case z2 => k_is)
    (case y2 => k_is)
    (case z3 => k_is)
    (case z4 => k_is)
    (case z5 => k_is)
    (case z6 => k_is)
    (case z7 => k_is)
    (case z8 => k_is)
    (case z9 => k_is)
    (case exOutOfRange => k_exc)
    (case ekOutOfRange => k_is)
    (case ebOutOfRange => k_is)
    (case etOutOfRange => k_is)
    (case exCodecError => k_exc)
    (case ekCodecError => k_is)
    (case ebCodecError => k_is)
    (case etCodecError => k_is)
    (case eiOutOfRangeOutOfRange => k_is)
    (case esOutOfRangeOutOfRange => first | rfl | k_is)
    (case eiOutOfRangeCodecError => k_is)
    (case esOutOfRangeCodecError => first | rfl | k_is)
    (case c1OutOfRange => k_is)
    (case c2OutOfRange => k_is)
    (case c3OutOfRange => k_is)
    (case c4OutOfRange => k_is)
    (case c5OutOfRange => k_is)
    (case c6OutOfRange => k_is)
    (case c7OutOfRange => k_is)
