import PyProof.Rows.All
import Wide.All
import OpenK.AllK
import Wide.FinOn
import HandS.ForMost
import HandS.Codes
import HandS.Steps
import HandS.IsInst
import HandS.Property
import HandS.Wide
import HandS.WideBits
import PySem.Challenge.RW_thaumatrope_k12_decisions_coded
set_option Elab.async false
set_option linter.all false
set_option maxRecDepth 100000
set_option maxHeartbeats 8000000
namespace Vx
open PySem PySem.Spec PyProof.Rows L2

/-! ### heaps -/
def SameX (m : Addr) (H H' : Hp) : Prop := ∀ b o, H b = some o → b ≠ m → H' b = some o
theorem gen_new {H H' : Hp} {p : Addr} {o : HO} (n : H p = none) (h : upd H p o = H') : Same H H' ∧ H' p = some o := by
  subst h
  exact ⟨fun b u e => by rw [upd_ne (ne_of_none e n)]; exact e, upd_same⟩
theorem gen_mut {H H' : Hp} {m : Addr} {o : HO} (h : upd H m o = H') : SameX m H H' ∧ H' m = some o := by
  subst h
  exact ⟨fun b u e n => by rw [upd_ne n]; exact e, upd_same⟩
theorem same_mut {H0 H H' : Hp} {m : Addr} (B : Same H0 H) (x : SameX m H H') (f : H0 m = none) : Same H0 H' :=
  fun b o e => x b o (B b o e) (ne_of_none e f)
theorem map_get {xs : List Int} {i : Nat} {x : V} (h : (xs.map V.int)[i]? = some x) : ∃ o, xs[i]? = some o ∧ x = .int o := by
  rw [List.getElem?_map] at h
  cases e : xs[i]? with
  | none => rw [e] at h; cases h
  | some z => rw [e] at h; exact ⟨z, rfl, (Option.some.inj h).symm⟩
theorem get_len {α : Type} {xs : List α} {i : Nat} {x : α} (h : xs[i]? = some x) : i < xs.length := (List.getElem?_eq_some_iff.mp h).1
theorem eq_int {Q : VK} {H : Hp} {a b : Int} (h : Q (.int a) H) (e : a = b) : Q (.int b) H := e ▸ h
theorem eq_bl {Q : VK} {H : Hp} {a b : Bool} (h : Q (.bl a) H) (e : a = b) : Q (.bl b) H := e ▸ h
theorem small {n : Nat} (h : n ≤ 1000000) : n < sizeLine := Nat.lt_of_le_of_lt h (by decide)
theorem smallE {n : Nat} (h : n ≤ 1000000) : n ≤ sizeLine := Nat.le_of_lt (small h)
theorem snoc_int {xs : List Int} {y : Int} {H : Hp} {p : Addr} (h : H p = some (.lst (xs.map V.int ++ [V.int y]))) : H p = some (.lst ((xs ++ [y]).map V.int)) := by
  rw [List.map_append]; exact h
theorem cat_int {xs ys : List Int} {H : Hp} {p : Addr} (h : H p = some (.lst (xs.map V.int ++ ys.map V.int))) : H p = some (.lst ((xs ++ ys).map V.int)) := by
  rw [List.map_append]; exact h
theorem cast_lst {xs ys : List Int} {H : Hp} {p : Addr} (h : H p = some (.lst (xs.map V.int))) (e : xs = ys) : H p = some (.lst (ys.map V.int)) := e ▸ h

/-! ### tests -/
theorem dT {p : Prop} [Decidable p] (h : decide p = true) : p := of_decide_eq_true h
theorem dF {p : Prop} [Decidable p] (h : ¬ decide p = true) : ¬ p := fun x => h (decide_eq_true x)
theorem iteD {p A B : Prop} [Decidable p] (h1 : p → A) (h2 : ¬ p → B) : if decide p = true then A else B := by
  by_cases h : p
  · rw [if_pos (decide_eq_true h)]; exact h1 h
  · rw [if_neg (fun x => h (of_decide_eq_true x))]; exact h2 h
theorem iteN {p A B : Prop} [Decidable p] (h1 : ¬ p → A) (h2 : p → B) : if (!decide p) = true then A else B := by
  by_cases h : p
  · rw [decide_eq_true h]; exact iteF (h2 h)
  · rw [decide_eq_false h]; exact iteT (h1 h)
theorem iteB {b : Bool} {A B : Prop} (h1 : b = true → A) (h2 : b = false → B) : if b = true then A else B := by
  cases b with
  | true => exact iteT (h1 rfl)
  | false => exact iteF (h2 rfl)
theorem iteBN {b : Bool} {A B : Prop} (h1 : b = false → A) (h2 : b = true → B) : if (!b) = true then A else B := by
  cases b with
  | true => exact iteF (h2 rfl)
  | false => exact iteT (h1 rfl)
theorem iteDT {p A B : Prop} [Decidable p] (h : p) (k : A) : if decide p = true then A else B := by
  rw [if_pos (decide_eq_true h)]; exact k
theorem iteDF {p A B : Prop} [Decidable p] (h : ¬ p) (k : B) : if decide p = true then A else B := by
  rw [if_neg (fun x => h (of_decide_eq_true x))]; exact k
theorem iteNT {p A B : Prop} [Decidable p] (h : ¬ p) (k : A) : if (!decide p) = true then A else B := iteN (fun _ => k) (fun x => (h x).elim)
theorem iteNF {p A B : Prop} [Decidable p] (h : p) (k : B) : if (!decide p) = true then A else B := iteN (fun x => (x h).elim) (fun _ => k)

/-! ### equality of lists of ints -/
theorem eqvAll_ints : ∀ xs ys : List Int, PyData.eqvAll (xs.map PyData.int) (ys.map PyData.int) = decide (xs = ys)
  | [], [] => by simp [PyData.eqvAll]
  | [], y :: ys => by simp [PyData.eqvAll]
  | x :: xs, [] => by simp [PyData.eqvAll]
  | x :: xs, y :: ys => by
    have ih := eqvAll_ints xs ys
    simp only [List.map_cons, PyData.eqvAll, PyData.eqv, ih]
    by_cases h : x = y <;> by_cases h2 : xs = ys <;> simp [h, h2]
end Vx

namespace Vx
open PySem PySem.Spec PyProof.Rows L2
section
variable {X : Cx}
def rEqLi (K : PySem.W.Frag) : R2 := fun x y H Q => ∃ (a b : Addr) (xs ys : List Int), x = .ref a ∧ y = .ref b ∧ SqL K H a (xs.map V.int) ∧ SqL K H b (ys.map V.int) ∧ Q (.bl (decide (xs = ys))) H
def rNeLi (K : PySem.W.Frag) : R2 := fun x y H Q => ∃ (a b : Addr) (xs ys : List Int), x = .ref a ∧ y = .ref b ∧ SqL K H a (xs.map V.int) ∧ SqL K H b (ys.map V.int) ∧ Q (.bl (!decide (xs = ys))) H
theorem dpAll_ints {K : PySem.W.Frag} {H : Hp} : ∀ xs : List Int, DpAll K H (xs.map V.int) (xs.map PyData.int)
  | [] => .nil
  | x :: xs => .cons (.int x) (dpAll_ints xs)
theorem dp_ints {K : PySem.W.Frag} {H : Hp} {a : Addr} {xs : List Int} (h : SqL K H a (xs.map V.int)) : Dp K H (.ref a) (.list (xs.map PyData.int)) := .lst h (dpAll_ints xs)
theorem canLay_ints : ∀ xs : List Int, PyData.canLayAll0 (xs.map PyData.int) = true
  | [] => by simp [PyData.canLayAll0]
  | x :: xs => by simp [PyData.canLayAll0, PyData.canLay0, canLay_ints xs]
theorem depth_ints : ∀ xs : List Int, PyData.depthAll (xs.map PyData.int) = 0
  | [] => by simp [PyData.depthAll]
  | x :: xs => by simp [PyData.depthAll, PyData.depth, depth_ints xs]
theorem shaped_ints (xs : List Int) : SeqAt.shaped (.list (xs.map PyData.int)) = true := by
  unfold SeqAt.shaped
  simp [PyData.canLay0, canLay_ints, PyData.depth, depth_ints]
theorem eqv_ints (xs ys : List Int) : PyData.eqv (.list (xs.map PyData.int)) (.list (ys.map PyData.int)) = decide (xs = ys) := by
  simp only [PyData.eqv]
  exact eqvAll_ints xs ys
theorem op_eqLi (hu : X.A.units + 64 < cLine) : OpR X (compareOp .Eq) (rEqLi X.K) := by
  intro pins s σ H x y v u Q I rx ry h
  obtain ⟨a, b, xs, ys, rfl, rfl, h1, h2, q⟩ := h
  exact op_eqD hu pins s σ H _ _ v u Q I rx ry ⟨_, _, dp_ints h1, dp_ints h2, shaped_ints xs, shaped_ints ys, by rw [eqv_ints]; exact q⟩
theorem op_neLi (hu : X.A.units + 64 < cLine) : OpR X (compareOp .NotEq) (rNeLi X.K) := by
  intro pins s σ H x y v u Q I rx ry h
  obtain ⟨a, b, xs, ys, rfl, rfl, h1, h2, q⟩ := h
  exact op_neD hu pins s σ H _ _ v u Q I rx ry ⟨_, _, dp_ints h1, dp_ints h2, shaped_ints xs, shaped_ints ys, by rw [eqv_ints]; exact q⟩

/-! ### items, slices, repetition, comprehensions of ints -/
def itI (xs : List Int) (i : Int) : Int := (atI xs i).getD 0
theorem atI_int {xs : List Int} {i : Int} (h : -(xs.length : Int) ≤ i ∧ i < xs.length) : atI (xs.map V.int) i = some (.int (itI xs i)) := by
  unfold itI atI
  rw [List.length_map]
  have hk : ∃ j, ixN xs.length i = some j ∧ j < xs.length := by
    unfold ixN
    by_cases h0 : 0 ≤ i
    · refine ⟨i.toNat, ?_, by omega⟩
      rw [if_pos h0, if_pos h.2]
    · refine ⟨(i + xs.length).toNat, ?_, by omega⟩
      rw [if_neg h0, if_pos h.1]
  obtain ⟨j, e, hj⟩ := hk
  rw [e]
  show (xs.map V.int)[j]? = some (V.int ((xs[j]?).getD 0))
  rw [List.getElem?_map, List.getElem?_eq_getElem hj] <;> rfl
def cutI (xs : List Int) (lo hi : Option Int) : List Int := (xs.drop (HT.sIx xs.length 0 lo)).take (HT.sIx xs.length xs.length hi - HT.sIx xs.length 0 lo)
theorem cut_int {xs : List Int} {lo hi : Option Int} {H : Hp} {p : Addr} (h : H p = some (.lst (cutV (xs.map V.int) lo hi))) : H p = some (.lst ((cutI xs lo hi).map V.int)) := by
  rw [h]
  unfold cutV cutI
  rw [List.length_map, List.map_take, List.map_drop]
def rep (xs : List Int) (k : Int) : List Int := (List.replicate k.toNat xs).flatten
theorem rep_int {xs : List Int} {k : Int} {H : Hp} {p : Addr} (h : H p = some (.lst (List.replicate k.toNat (xs.map V.int)).flatten)) : H p = some (.lst ((rep xs k).map V.int)) := by
  rw [h]
  unfold rep
  rw [List.map_flatten, List.map_replicate]
theorem divW_lit {i j : Int} (h : 0 < j) (h2 : j.natAbs.log2 < 9000) : CDivW i j := ⟨h, h2⟩
theorem divW_small {i j : Int} (h : 0 < j) (h2 : j < 2 ^ 128) : CDivW i j := wide_div h (show j.natAbs < 2 ^ 128 by omega) (by decide) (by decide)
theorem comp_list {xs : List Int} {i : Nat} {x y : Int} {f : Int → Int} {H : Hp} {D : Addr} (hi : xs[i]? = some x) (h : H D = some (.lst (((xs.take i).map f).map V.int ++ [V.int y]))) (e : f x = y) : H D = some (.lst (((xs.take (i + 1)).map f).map V.int)) := by
  rw [h, ← e, List.take_succ, hi, List.map_append, List.map_append] <;> rfl
theorem comp_done {xs : List Int} {f : Int → Int} {H : Hp} {D : Addr} (h : H D = some (.lst (((xs.take (xs.map V.int).length).map f).map V.int))) : H D = some (.lst ((xs.map f).map V.int)) := by
  rw [List.length_map, List.take_length] at h
  exact h
theorem comp_range {i : Nat} {y : Int} {f : Nat → Int} {H : Hp} {D : Addr} (h : H D = some (.lst (((List.range i).map f).map V.int ++ [V.int y]))) (e : f i = y) : H D = some (.lst (((List.range (i + 1)).map f).map V.int)) := by
  rw [h, ← e, List.range_succ, List.map_append, List.map_append] <;> rfl
theorem iteBT {b : Bool} {A B : Prop} (h : b = true) (k : A) : if b = true then A else B := by rw [if_pos h]; exact k
theorem iteBF {b : Bool} {A B : Prop} (h : b = false) (k : B) : if b = true then A else B := by rw [if_neg (by rw [h]; decide)]; exact k
theorem take_succ_get {α : Type} {xs : List α} {i : Nat} {x : α} (hi : xs[i]? = some x) : xs.take (i + 1) = xs.take i ++ [x] := by rw [List.take_succ, hi] <;> rfl
end

/-! ### defs of the module, as callers see them -/
section
variable {P : Program} {w : World} {K : PySem.W.Frag} {mg : Str → Option Value} {base : Heap}
structure DefIn (K : PySem.W.Frag) (mg : Str → Option Value) (x : Str) (st : Stmt) (ps : List Str) : Prop where
  ex : ∃ (f : Addr) (fd : FuncData), Fun K x x st f fd ∧ mg x = some (.ref f) ∧ Binds K fd ps []
structure Cal (P : Program) (w : World) (K : PySem.W.Frag) (mg : Str → Option Value) (base : Heap) (k : Nat) (x : Str) (sp : Sp) : Prop where
  ex : ∃ (f : Addr) (fd : FuncData) (ps : List Str), FnOk P w K mg base CX0 k f fd ps sp ∧ mg x = some (.ref f) ∧ PySem.W.keepIn K (.ref f) = true ∧ Binds K fd ps []
theorem DefIn.ok {x : Str} {st : Stmt} {N ps : List Str} {k : Nat} {sp : Sp} (D : DefIn K mg x st ps) (S : FnScope N ps (defScope st)) (len : ∀ vs H Q E, sp vs H Q E → vs.length = ps.length)
    (hbody : ∀ (f : Addr) (cdv : Value) (A : Around) (outer : List Env) (s : Shared) (H : Hp) (vs : List V) (Q : VK) (E : XK), Room k (A.deeper (envOfC x (defScope st) s.heap.objs.size f cdv)) → sp vs H Q E →
      ∃ t, PSs (cxOf CX0 P w K mg base N x (defScope st) f cdv A outer s H E).nox (defBody st) t ∧ t { nx := fun _ H' => Q .non H', rt := Q } (start N vs) H) : Cal P w K mg base (k + 1) x sp := by
  obtain ⟨f, fd, F, hm, b⟩ := D.ex
  exact ⟨f, fd, ps, F.ok S len (fun cdv A outer s H vs Q E hr h => hbody f cdv A outer s H vs Q E hr h), hm, F.kp, b⟩
end
section
variable {X : Cx} {k j : Nat} {x : Str} {sp : Sp} {p pos : Pos} {e : Expr} {es : List Expr} {t : TA}
theorem vx_call (c : Cal X.prog X.w X.K X.mg X.base k x sp) (hr : Room j X.A) (hk : k ≤ j) (hg : Gl X x) (ha : PA X (e :: es) t)
    (hdb : (x == ("__debug__" : Str)) = false := by decide) (he : starEach (e :: es) X.env = (false, eval e X.env) :: starEach es X.env := by rfl) (hpl : (backTo pos (starEach es X.env)).any (·.1) = false := by rfl) :
    PE X (.Call (.Name x p) (e :: es) [] pos) (tCall sp [] E0 t) := by
  obtain ⟨f, fd, ps, F, hm, kp, b⟩ := c.ex
  exact pe_call F (hr.mono hk) hg hm kp b .nil pass0 ha hdb he hpl
end
end Vx

namespace Vx
open PySem PySem.Spec PyProof.Rows L2
section
variable {σ : L2.St} {H : Hp} {ta tb : TE} {x y z : V} {t : TT}
theorem vv_and {a b : Bool} (h1 : Val ta σ H (.bl a)) (h2 : Val tb σ H (.bl b)) : Val (tAndV ta tb) σ H (.bl (a && b)) := fun Q q => h1 _ ⟨a, rfl, by
  cases a with
  | true => exact iteT (h2 Q q)
  | false => exact iteF q⟩
theorem vv_or {a b : Bool} (h1 : Val ta σ H (.bl a)) (h2 : Val tb σ H (.bl b)) : Val (tOrV ta tb) σ H (.bl (a || b)) := fun Q q => h1 _ ⟨a, rfl, by
  cases a with
  | true => exact iteT q
  | false => exact iteF (h2 Q q)⟩
theorem vv_not {a : Bool} (h1 : Val ta σ H (.bl a)) : Val (tNotV ta) σ H (.bl (!a)) := fun Q q => h1 _ ⟨a, rfl, q⟩
theorem vv_un {r : V → Hp → VK → Prop} (ha : Val ta σ H x) (hr : ∀ Q : VK, Q z H → r x H Q) : Val (tUn r ta) σ H z := fun Q q => ha _ (hr Q q)
theorem vv_cmp {p : Int → Int → Bool} (ha : Val ta σ H x) (hb : Val tb σ H y) (hr : ∀ Q : VK, Q z H → ∃ i j, x = .int i ∧ y = .int j ∧ Q (.bl (p i j)) H) : Val (tCmp p ta tb) σ H z := fun Q q => ha _ (hb _ (hr Q q))
theorem vv_call1 {r : List V → Hp → VK → Prop} (ha : Val ta σ H x) (hr : ∀ Q : VK, Q z H → r [x] H Q) : Val (tCB r (tCons ta tNil)) σ H z := fun Q q => ha _ (hr Q q)
theorem vt_cmp {b : Bool} (h : Val ta σ H (.bl b)) : Ans (tB ta) σ H b := fun Q q => h _ ⟨b, rfl, q⟩
theorem vt_val {b : Bool} (h : Val ta σ H (.bl b)) : Ans (tB ta) σ H b := fun Q q => h _ ⟨b, rfl, q⟩
theorem vt_int {i : Int} {K : PySem.W.Frag} (h : Val ta σ H (.int i)) : Ans (fun σ H Q => ta σ H fun x H' => ∃ k, TruV K x H' k ∧ Q k H') σ H (i != 0) := fun Q q => h _ ⟨_, rfl, q⟩
theorem vv_if {p : Prop} [Decidable p] {a b : Int} (ht : Ans t σ H (decide p)) (hx : Val ta σ H (.int a)) (hy : Val tb σ H (.int b)) : Val (tIf t ta tb) σ H (.int (if p then a else b)) := fun Q q => ht _ (by
  by_cases h : p
  · rw [if_pos h] at q; exact iteDT h (hx Q q)
  · rw [if_neg h] at q; exact iteDF h (hy Q q))
theorem vv_ifb {c : Bool} {a b : Int} (ht : Ans t σ H c) (hx : Val ta σ H (.int a)) (hy : Val tb σ H (.int b)) : Val (tIf t ta tb) σ H (.int (if c = true then a else b)) := fun Q q => ht _ (by
  cases c with
  | true => exact iteT (hx Q q)
  | false => exact iteF (hy Q q))
end
end Vx

namespace Vx
open PySem PySem.Spec PyProof.Rows L2
def rLenLi (K : PySem.W.Frag) : List V → Hp → VK → Prop := fun xs H Q => ∃ (p : Addr) (ns : List Int), xs = [.ref p] ∧ SqL K H p (ns.map V.int) ∧ Q (.int (ns.length : Int)) H
theorem call_lenLi {X : Cx} : CallR X (.builtin "len") (rLenLi X.K) := by
  intro pins s σ H xs us Q I r h
  obtain ⟨p, ns, rfl, hs, q⟩ := h
  exact call_len_seq pins s σ H _ us Q I r ⟨p, _, rfl, Or.inl hs, by rw [List.length_map]; exact q⟩
end Vx

namespace Vx
open PySem PySem.Spec PyProof.Rows L2
section
variable {X : Cx} {K : PySem.W.Frag}
theorem ix_listK (hK : X.K = K := by rfl) : IxR X (rIxL K) := hK ▸ ix_list
theorem sl_listK (hK : X.K = K := by rfl) : SlR X (rSlL K) := hK ▸ sl_list
theorem call_lenLiK (hK : X.K = K := by rfl) : CallR X (.builtin "len") (rLenLi K) := hK ▸ call_lenLi
theorem op_eqLiK (hu : X.A.units + 64 < cLine) (hK : X.K = K := by rfl) : OpR X (compareOp .Eq) (rEqLi K) := hK ▸ op_eqLi hu
theorem op_neLiK (hu : X.A.units + 64 < cLine) (hK : X.K = K := by rfl) : OpR X (compareOp .NotEq) (rNeLi K) := hK ▸ op_neLi hu
theorem pi_listK {tg l : Expr} {tl : TE} (hl : PE X l tl) (hK : X.K = K := by rfl) : PI X tg l (iList K tl) := hK ▸ pi_list hl
theorem cr_sumK (hc : X.calm = true) (hK : X.K = K := by rfl) : CallR X (.builtin "sum") (rSum K) := hK ▸ cr_sum hc
theorem cr_maxK (hc : X.calm = true) (hK : X.K = K := by rfl) : CallR X (.builtin "max") (rMax K) := hK ▸ cr_max hc
theorem cr_minK (hc : X.calm = true) (hK : X.K = K := by rfl) : CallR X (.builtin "min") (rMin K) := hK ▸ cr_min hc
end
end Vx

namespace Vx
open PySem PySem.Spec PyProof.Rows L2
theorem tyes_go {σ : L2.St} {H : Hp} {f g : Hp → Prop} (h : f H) : tYes σ H (fun b H3 => if b = true then f H3 else g H3) := by
  show if true = true then f H else g H
  exact iteT h
end Vx

/-! # second part: data of any depth, the stable heap G, the owned addresses O -/
namespace Vx
open PySem PySem.Spec PyProof.Rows L2
mutual
inductive Rp (H : Hp) : V → PyData → Prop
  | non : Rp H .non .none
  | bl (b : Bool) : Rp H (.bl b) (.bool b)
  | int (i : Int) : Rp H (.int i) (.int i)
  | str (x : Str) : Rp H (.str x) (.str x)
  | lst {a : Addr} {xs : List V} {ds : List PyData} : H a = some (.lst xs) → RpAll H xs ds → Rp H (.ref a) (.list ds)
  | tup {a : Addr} {xs : List V} {ds : List PyData} : H a = some (.tup xs) → RpAll H xs ds → Rp H (.ref a) (.tuple ds)
inductive RpAll (H : Hp) : List V → List PyData → Prop
  | nil : RpAll H [] []
  | cons {v : V} {vs : List V} {d : PyData} {ds : List PyData} : Rp H v d → RpAll H vs ds → RpAll H (v :: vs) (d :: ds)
end
mutual
theorem Rp.mono {H H' : Hp} (e : Same H H') : ∀ {v : V} {d : PyData}, Rp H v d → Rp H' v d
  | _, _, .non => .non
  | _, _, .bl b => .bl b
  | _, _, .int i => .int i
  | _, _, .str x => .str x
  | _, _, .lst h r => .lst (e _ _ h) (RpAll.mono e r)
  | _, _, .tup h r => .tup (e _ _ h) (RpAll.mono e r)
theorem RpAll.mono {H H' : Hp} (e : Same H H') : ∀ {vs : List V} {ds : List PyData}, RpAll H vs ds → RpAll H' vs ds
  | _, _, .nil => .nil
  | _, _, .cons a b => .cons (Rp.mono e a) (RpAll.mono e b)
end
mutual
theorem Rp.dp {K : PySem.W.Frag} {H : Hp} : ∀ {v : V} {d : PyData}, Rp H v d → Dp K H v d
  | _, _, .non => .non
  | _, _, .bl b => .bl b
  | _, _, .int i => .int i
  | _, _, .str x => .str x
  | _, _, .lst h r => .lst (SqL.of h) (RpAll.dp r)
  | _, _, .tup h r => .tup (SqT.of h) (RpAll.dp r)
theorem RpAll.dp {K : PySem.W.Frag} {H : Hp} : ∀ {vs : List V} {ds : List PyData}, RpAll H vs ds → DpAll K H vs ds
  | _, _, .nil => .nil
  | _, _, .cons a b => .cons (Rp.dp a) (RpAll.dp b)
end
theorem RpAll.append {H : Hp} : ∀ {xs ys : List V} {ds es : List PyData}, RpAll H xs ds → RpAll H ys es → RpAll H (xs ++ ys) (ds ++ es)
  | _, _, _, _, .nil, s => s
  | _, _, _, _, .cons r t, s => .cons r (RpAll.append t s)
theorem RpAll.ints {H : Hp} : ∀ xs : List Int, RpAll H (xs.map V.int) (xs.map PyData.int)
  | [] => .nil
  | x :: xs => .cons (.int x) (RpAll.ints xs)
theorem RpAll.bls {H : Hp} : ∀ xs : List Bool, RpAll H (xs.map V.bl) (xs.map PyData.bool)
  | [] => .nil
  | x :: xs => .cons (.bl x) (RpAll.bls xs)
theorem RpAll.one {H : Hp} {v : V} {d : PyData} (h : Rp H v d) : RpAll H [v] [d] := .cons h .nil
theorem RpAll.len {H : Hp} : ∀ {vs : List V} {ds : List PyData}, RpAll H vs ds → vs.length = ds.length
  | _, _, .nil => rfl
  | _, _, .cons _ t => by rw [List.length_cons, List.length_cons, RpAll.len t]
theorem RpAll.at {H : Hp} : ∀ {vs : List V} {ds : List PyData} {i : Nat} {v : V}, RpAll H vs ds → vs[i]? = some v → ∃ d, ds[i]? = some d ∧ Rp H v d
  | _, _, _, _, .nil, h => by simp at h
  | _, _, 0, _, .cons r _, h => by
    simp at h
    subst h
    exact ⟨_, rfl, r⟩
  | _, _, i + 1, _, .cons _ t, h => by
    obtain ⟨d, h1, h2⟩ := RpAll.at (i := i) t (by simpa using h)
    exact ⟨d, by simpa using h1, h2⟩
theorem RpAll.at' {H : Hp} : ∀ {vs : List V} {ds : List PyData} {i : Nat} {d : PyData}, RpAll H vs ds → ds[i]? = some d → ∃ v, vs[i]? = some v ∧ Rp H v d
  | _, _, _, _, .nil, h => by simp at h
  | _, _, 0, _, .cons r _, h => by
    simp at h
    subst h
    exact ⟨_, rfl, r⟩
  | _, _, i + 1, _, .cons _ t, h => by
    obtain ⟨v, h1, h2⟩ := RpAll.at' (i := i) t (by simpa using h)
    exact ⟨v, by simpa using h1, h2⟩
theorem RpAll.take {H : Hp} : ∀ (n : Nat) {vs : List V} {ds : List PyData}, RpAll H vs ds → RpAll H (vs.take n) (ds.take n)
  | 0, _, _, _ => by simpa using RpAll.nil
  | n + 1, _, _, .nil => by simpa using RpAll.nil
  | n + 1, _, _, .cons r t => .cons r (RpAll.take n t)
theorem RpAll.drop {H : Hp} : ∀ (n : Nat) {vs : List V} {ds : List PyData}, RpAll H vs ds → RpAll H (vs.drop n) (ds.drop n)
  | 0, _, _, r => r
  | n + 1, _, _, .nil => by simpa using RpAll.nil
  | n + 1, _, _, .cons r t => RpAll.drop n t
theorem RpAll.set {H : Hp} {v : V} {d : PyData} (h : Rp H v d) : ∀ (n : Nat) {vs : List V} {ds : List PyData}, RpAll H vs ds → RpAll H (vs.set n v) (ds.set n d)
  | _, _, _, .nil => .nil
  | 0, _, _, .cons _ t => .cons h t
  | n + 1, _, _, .cons r t => .cons r (RpAll.set h n t)
theorem RpAll.rep {H : Hp} {vs : List V} {ds : List PyData} (h : RpAll H vs ds) : ∀ n : Nat, RpAll H (List.replicate n vs).flatten (List.replicate n ds).flatten
  | 0 => by simpa using RpAll.nil
  | n + 1 => by
    rw [List.replicate_succ, List.flatten_cons, List.replicate_succ, List.flatten_cons]
    exact RpAll.append h (RpAll.rep h n)
theorem RpAll.get {α : Type} {f : α → PyData} {H : Hp} {vs : List V} {xs : List α} {i : Nat} {v : V} (r : RpAll H vs (xs.map f)) (h : vs[i]? = some v) : ∃ x, xs[i]? = some x ∧ Rp H v (f x) := by
  obtain ⟨d, h1, h2⟩ := RpAll.at r h
  rw [List.getElem?_map] at h1
  cases e : xs[i]? with
  | none => rw [e] at h1; cases h1
  | some x =>
    rw [e] at h1
    have : f x = d := Option.some.inj h1
    exact ⟨x, rfl, this ▸ h2⟩
/-- the item at an index, data -/
theorem RpAll.ix {α : Type} {f : α → PyData} {H : Hp} {vs : List V} {xs : List α} {k : Int} (r : RpAll H vs (xs.map f)) (h : -(xs.length : Int) ≤ k ∧ k < xs.length) : ∃ v x, atI vs k = some v ∧ atI xs k = some x ∧ Rp H v (f x) := by
  have hl : vs.length = xs.length := by rw [r.len, List.length_map]
  have hk : ∃ j, ixN xs.length k = some j ∧ j < xs.length := by
    unfold ixN
    by_cases h0 : 0 ≤ k
    · refine ⟨k.toNat, ?_, by omega⟩
      rw [if_pos h0, if_pos h.2]
    · refine ⟨(k + xs.length).toNat, ?_, by omega⟩
      rw [if_neg h0, if_pos h.1]
  obtain ⟨j, e, hj⟩ := hk
  have hx := List.getElem?_eq_getElem hj
  obtain ⟨v, h1, h2⟩ := RpAll.at' (i := j) (d := f xs[j]) r (by rw [List.getElem?_map, hx] <;> rfl)
  refine ⟨v, xs[j], ?_, ?_, h2⟩
  · unfold atI
    rw [hl, e]
    exact h1
  · unfold atI
    rw [e]
    exact hx

/-! ### types -/
def encL {α : Type} (f : α → PyData) (xs : List α) : PyData := .list (xs.map f)
def encT2 {α β : Type} (f : α → PyData) (g : β → PyData) (p : α × β) : PyData := .tuple [f p.1, g p.2]
def encT3 {α β γ : Type} (f : α → PyData) (g : β → PyData) (h : γ → PyData) (p : α × β × γ) : PyData := .tuple [f p.1, g p.2.1, h p.2.2]
def encT4 {α β γ δ : Type} (f : α → PyData) (g : β → PyData) (h : γ → PyData) (i : δ → PyData) (p : α × β × γ × δ) : PyData := .tuple [f p.1, g p.2.1, h p.2.2.1, i p.2.2.2]
structure EncOk {α : Type} [DecidableEq α] (n : Nat) (f : α → PyData) : Prop where
  lay : ∀ x, PyData.canLay0 (f x) = true
  dep : ∀ x, PyData.depth (f x) ≤ n
  eqv : ∀ x y, PyData.eqv (f x) (f y) = decide (x = y)
theorem encOk_int : EncOk 0 PyData.int := ⟨fun _ => by simp [PyData.canLay0], fun _ => by simp [PyData.depth], fun x y => by simp [PyData.eqv]; by_cases h : x = y <;> simp [h]⟩
theorem encOk_bool : EncOk 0 PyData.bool := ⟨fun _ => by simp [PyData.canLay0], fun _ => by simp [PyData.depth], fun x y => by cases x <;> cases y <;> simp [PyData.eqv]⟩
section
variable {α β γ δ : Type} [DecidableEq α] [DecidableEq β] [DecidableEq γ] [DecidableEq δ] {n m l o : Nat} {f : α → PyData} {g : β → PyData} {h : γ → PyData} {i : δ → PyData}
theorem lay_map (ok : EncOk n f) : ∀ xs : List α, PyData.canLayAll0 (xs.map f) = true
  | [] => by simp [PyData.canLayAll0]
  | x :: xs => by simp [PyData.canLayAll0, ok.lay x, lay_map ok xs]
theorem dep_map (ok : EncOk n f) : ∀ xs : List α, PyData.depthAll (xs.map f) ≤ n
  | [] => by simp [PyData.depthAll]
  | x :: xs => by
    have h1 := ok.dep x
    have h2 := dep_map ok xs
    simp only [List.map_cons, PyData.depthAll]
    omega
theorem eqv_map (ok : EncOk n f) : ∀ xs ys : List α, PyData.eqvAll (xs.map f) (ys.map f) = decide (xs = ys)
  | [], [] => by simp [PyData.eqvAll]
  | [], y :: ys => by simp [PyData.eqvAll]
  | x :: xs, [] => by simp [PyData.eqvAll]
  | x :: xs, y :: ys => by
    have ih := eqv_map ok xs ys
    simp only [List.map_cons, PyData.eqvAll, ok.eqv, ih]
    by_cases h : x = y <;> by_cases h2 : xs = ys <;> simp [h, h2]
theorem encOk_L (ok : EncOk n f) : EncOk (n + 1) (encL f) := ⟨fun xs => by simp [encL, PyData.canLay0, lay_map ok], fun xs => by
  have := dep_map ok xs
  simp only [encL, PyData.depth]
  omega, fun xs ys => by simp only [encL, PyData.eqv]; exact eqv_map ok xs ys⟩
theorem encOk_T2 (ok : EncOk n f) (ok2 : EncOk m g) : EncOk (max n m + 1) (encT2 f g) := ⟨fun x => by simp [encT2, PyData.canLay0, PyData.canLayAll0, ok.lay, ok2.lay], fun x => by
  have h1 := ok.dep x.1
  have h2 := ok2.dep x.2
  simp only [encT2, PyData.depth, PyData.depthAll]
  omega, fun x y => by
  obtain ⟨a, b⟩ := x
  obtain ⟨c, d⟩ := y
  simp only [encT2, PyData.eqv, PyData.eqvAll, ok.eqv, ok2.eqv, Prod.mk.injEq]
  by_cases h1 : a = c <;> by_cases h2 : b = d <;> simp [h1, h2]⟩
theorem encOk_T3 (ok : EncOk n f) (ok2 : EncOk m g) (ok3 : EncOk l h) : EncOk (max n (max m l) + 1) (encT3 f g h) := ⟨fun x => by simp [encT3, PyData.canLay0, PyData.canLayAll0, ok.lay, ok2.lay, ok3.lay], fun x => by
  have h1 := ok.dep x.1
  have h2 := ok2.dep x.2.1
  have h3 := ok3.dep x.2.2
  simp only [encT3, PyData.depth, PyData.depthAll]
  omega, fun x y => by
  obtain ⟨a, b, e⟩ := x
  obtain ⟨c, d, e'⟩ := y
  simp only [encT3, PyData.eqv, PyData.eqvAll, ok.eqv, ok2.eqv, ok3.eqv, Prod.mk.injEq]
  by_cases h1 : a = c <;> by_cases h2 : b = d <;> by_cases h3 : e = e' <;> simp [h1, h2, h3]⟩
theorem encOk_T4 (ok : EncOk n f) (ok2 : EncOk m g) (ok3 : EncOk l h) (ok4 : EncOk o i) : EncOk (max n (max m (max l o)) + 1) (encT4 f g h i) := ⟨fun x => by simp [encT4, PyData.canLay0, PyData.canLayAll0, ok.lay, ok2.lay, ok3.lay, ok4.lay], fun x => by
  have h1 := ok.dep x.1
  have h2 := ok2.dep x.2.1
  have h3 := ok3.dep x.2.2.1
  have h4 := ok4.dep x.2.2.2
  simp only [encT4, PyData.depth, PyData.depthAll]
  omega, fun x y => by
  obtain ⟨a, b, e, u⟩ := x
  obtain ⟨c, d, e', u'⟩ := y
  simp only [encT4, PyData.eqv, PyData.eqvAll, ok.eqv, ok2.eqv, ok3.eqv, ok4.eqv, Prod.mk.injEq]
  by_cases h1 : a = c <;> by_cases h2 : b = d <;> by_cases h3 : e = e' <;> by_cases h4 : u = u' <;> simp [h1, h2, h3, h4]⟩
end
section
variable {X : Cx} {α : Type} [DecidableEq α] {n : Nat} {f : α → PyData}
def rEqT (f : α → PyData) : R2 := fun x y H Q => ∃ (a b : α), Rp H x (f a) ∧ Rp H y (f b) ∧ Q (.bl (decide (a = b))) H
def rNeT (f : α → PyData) : R2 := fun x y H Q => ∃ (a b : α), Rp H x (f a) ∧ Rp H y (f b) ∧ Q (.bl (!decide (a = b))) H
theorem shaped_of (ok : EncOk n f) (hn : n ≤ 64) (a : α) : SeqAt.shaped (f a) = true := by
  unfold SeqAt.shaped
  have h := ok.dep a
  rw [ok.lay]
  simp
  omega
theorem op_eqT (ok : EncOk n f) (hu : X.A.units + 64 < cLine) (hn : n ≤ 64 := by decide) : OpR X (compareOp .Eq) (rEqT f) := by
  intro pins s σ H x y v u Q I rx ry h
  obtain ⟨a, b, h1, h2, q⟩ := h
  exact op_eqD hu pins s σ H _ _ v u Q I rx ry ⟨_, _, h1.dp, h2.dp, shaped_of ok hn a, shaped_of ok hn b, by rw [ok.eqv]; exact q⟩
theorem op_neT (ok : EncOk n f) (hu : X.A.units + 64 < cLine) (hn : n ≤ 64 := by decide) : OpR X (compareOp .NotEq) (rNeT f) := by
  intro pins s σ H x y v u Q I rx ry h
  obtain ⟨a, b, h1, h2, q⟩ := h
  exact op_neD hu pins s σ H _ _ v u Q I rx ry ⟨_, _, h1.dp, h2.dp, shaped_of ok hn a, shaped_of ok hn b, by rw [ok.eqv]; exact q⟩
end
section
variable {H : Hp} {v : V} {α β γ δ : Type} {f : α → PyData} {g : β → PyData} {h : γ → PyData} {i : δ → PyData}
theorem rp_int {x : Int} (r : Rp H v (.int x)) : v = .int x := by cases r; rfl
theorem rp_bool {x : Bool} (r : Rp H v (.bool x)) : v = .bl x := by cases r; rfl
theorem rp_str {x : Str} (r : Rp H v (.str x)) : v = .str x := by cases r; rfl
theorem rp_list {xs : List α} (r : Rp H v (encL f xs)) : ∃ a vs, v = .ref a ∧ H a = some (.lst vs) ∧ RpAll H vs (xs.map f) := by
  unfold encL at r
  cases r with
  | lst h1 h2 => exact ⟨_, _, rfl, h1, h2⟩
theorem rpAll_ints : ∀ {vs : List V} {xs : List Int}, RpAll H vs (xs.map PyData.int) → vs = xs.map V.int
  | _, [], .nil => rfl
  | _, x :: xs, .cons r t => by rw [rp_int r, rpAll_ints t] <;> rfl
theorem rp_ints {xs : List Int} (r : Rp H v (encL PyData.int xs)) : ∃ a, v = .ref a ∧ H a = some (.lst (xs.map V.int)) := by
  obtain ⟨a, vs, e, h1, h2⟩ := rp_list r
  rw [rpAll_ints h2] at h1
  exact ⟨a, e, h1⟩
theorem rp_tup2 {x : α × β} (r : Rp H v (encT2 f g x)) : ∃ a v1 v2, v = .ref a ∧ H a = some (.tup [v1, v2]) ∧ Rp H v1 (f x.1) ∧ Rp H v2 (g x.2) := by
  unfold encT2 at r
  cases r with
  | tup h1 h2 =>
    cases h2 with
    | cons a b =>
      cases b with
      | cons b c =>
        cases c
        exact ⟨_, _, _, rfl, h1, a, b⟩
theorem rp_tup3 {x : α × β × γ} (r : Rp H v (encT3 f g h x)) : ∃ a v1 v2 v3, v = .ref a ∧ H a = some (.tup [v1, v2, v3]) ∧ Rp H v1 (f x.1) ∧ Rp H v2 (g x.2.1) ∧ Rp H v3 (h x.2.2) := by
  unfold encT3 at r
  cases r with
  | tup h1 h2 =>
    cases h2 with
    | cons a b =>
      cases b with
      | cons b c =>
        cases c with
        | cons c d =>
          cases d
          exact ⟨_, _, _, _, rfl, h1, a, b, c⟩
theorem rp_mk_list {a : Addr} {vs : List V} {xs : List α} (h1 : H a = some (.lst vs)) (h2 : RpAll H vs (xs.map f)) : Rp H (.ref a) (encL f xs) := .lst h1 h2
theorem rp_mk_ints {a : Addr} {xs : List Int} (h1 : H a = some (.lst (xs.map V.int))) : Rp H (.ref a) (encL PyData.int xs) := .lst h1 (RpAll.ints xs)
theorem rp_mk2 {a : Addr} {v1 v2 : V} {x : α} {y : β} (h1 : H a = some (.tup [v1, v2])) (r1 : Rp H v1 (f x)) (r2 : Rp H v2 (g y)) : Rp H (.ref a) (encT2 f g (x, y)) := .tup h1 (.cons r1 (.cons r2 .nil))
theorem rp_mk3 {a : Addr} {v1 v2 v3 : V} {x : α} {y : β} {z : γ} (h1 : H a = some (.tup [v1, v2, v3])) (r1 : Rp H v1 (f x)) (r2 : Rp H v2 (g y)) (r3 : Rp H v3 (h z)) : Rp H (.ref a) (encT3 f g h (x, y, z)) := .tup h1 (.cons r1 (.cons r2 (.cons r3 .nil)))
end

/-! ### the two heaps -/
def SameXs (L : List Addr) (H H' : Hp) : Prop := ∀ b o, H b = some o → b ∉ L → H' b = some o
theorem SameXs.of {H H' : Hp} {m : Addr} (x : SameX m H H') : SameXs [m] H H' := fun b o e n => x b o e (fun z => n (by rw [z]; exact List.mem_cons_self))
theorem ni1 {b m : Addr} (h : b ≠ m) : b ∉ [m] := by simpa using h
theorem ni2 {b m n : Addr} (h : b ≠ m) (h2 : b ≠ n) : b ∉ [m, n] := by simp [h, h2]
theorem ni3 {b m n o : Addr} (h : b ≠ m) (h2 : b ≠ n) (h3 : b ≠ o) : b ∉ [m, n, o] := by simp [h, h2, h3]
theorem ni4 {b m n o p : Addr} (h : b ≠ m) (h2 : b ≠ n) (h3 : b ≠ o) (h4 : b ≠ p) : b ∉ [m, n, o, p] := by simp [h, h2, h3, h4]
def hideL (L : List Addr) (H : Hp) : Hp := fun b => if b ∈ L then none else H b
theorem hideL_same (L : List Addr) (H : Hp) : Same (hideL L H) H := fun b o e => by
  unfold hideL at e
  split at e
  · cases e
  · exact e
theorem hideL_in {L : List Addr} {H : Hp} {b : Addr} (h : b ∈ L) : hideL L H b = none := if_pos h
theorem hideL_out {L : List Addr} {H : Hp} {b : Addr} (h : b ∉ L) : hideL L H b = H b := if_neg h
/-- M: owned from outside; H0, G0: at the entry; G: what stays as it is; O: what may change -/
structure Sep (M : List Addr) (H0 G0 G H : Hp) (O : List Addr) : Prop where
  base : SameXs M H0 H
  pm : ∀ a ∈ M, H a ≠ none
  sG : Same G H
  g0 : Same G0 G
  gn : ∀ b, H0 b ≠ none → G0 b = none → G b = none
  ow : ∀ a ∈ O, G a = none ∧ H a ≠ none ∧ (a ∈ M ∨ H0 a = none)
theorem all_nil {P : Addr → Prop} : ∀ x ∈ ([] : List Addr), P x := fun x h => by cases h
theorem all_cons {P : Addr → Prop} {a : Addr} {l : List Addr} (h : P a) (t : ∀ x ∈ l, P x) : ∀ x ∈ a :: l, P x := fun x hx => by
  cases hx with
  | head => exact h
  | tail _ hx => exact t x hx
theorem some_ne {H : Hp} {a : Addr} {o : HO} (h : H a = some o) : H a ≠ none := by
  rw [h]
  exact fun z => nomatch z
theorem same_ne {H H' : Hp} {a : Addr} (e : Same H H') (h : H a ≠ none) : H' a ≠ none := by
  cases q : H a with
  | none => exact absurd q h
  | some o => exact some_ne (e a o q)
section
variable {M : List Addr} {H0 G0 G H H' : Hp} {O : List Addr} {p m : Addr} {o : HO}
theorem Sep.start (M : List Addr) (H : Hp) (hM : ∀ a ∈ M, H a ≠ none) : Sep M H (hideL M H) (hideL M H) H M :=
  ⟨fun _ _ e _ => e, hM, hideL_same M H, Same.refl _, fun _ _ e => e, fun a ha => ⟨hideL_in ha, hM a ha, .inl ha⟩⟩
theorem Sep.startG {G H : Hp} (e : Same G H) : Sep [] H G G H [] := ⟨fun _ _ e _ => e, all_nil, e, Same.refl _, fun _ _ e => e, fun a ha => by cases ha⟩
theorem Sep.start0 (H : Hp) : Sep [] H H H H [] := Sep.startG (Same.refl H)
theorem Sep.b0 (S : Sep [] H0 G0 G H O) : Same H0 H := fun b o e => S.base b o e List.not_mem_nil
theorem Sep.free (S : Sep M H0 G0 G H O) {q : Addr} (n : H q = none) : H0 q = none := by
  cases e : H0 q with
  | none => rfl
  | some o =>
    by_cases h : q ∈ M
    · exact absurd n (S.pm q h)
    · rw [S.base q o e h] at n
      cases n
theorem Sep.same (S : Sep M H0 G0 G H O) (e : Same H H') : Sep M H0 G0 G H' O :=
  ⟨fun b o h n => e b o (S.base b o h n), fun a ha => same_ne e (S.pm a ha), S.sG.trans e, S.g0, S.gn, fun a ha => ⟨(S.ow a ha).1, same_ne e (S.ow a ha).2.1, (S.ow a ha).2.2⟩⟩
theorem Sep.gfree (S : Sep M H0 G0 G H O) {q : Addr} (n : H q = none) : G q = none := by
  cases e : G q with
  | none => rfl
  | some o => rw [S.sG q o e] at n; cases n
theorem Sep.new (S : Sep M H0 G0 G H O) (n : H p = none) (e : Same H H') (h : H' p = some o) (hm : H0 p = none) : Sep M H0 G0 G H' (p :: O) := by
  have S1 := S.same e
  refine ⟨S1.base, S1.pm, S1.sG, S1.g0, S1.gn, fun a ha => ?_⟩
  cases ha with
  | head => exact ⟨S.gfree n, some_ne h, .inr hm⟩
  | tail _ ha => exact S1.ow a ha
theorem Sep.grow (S : Sep M H0 G0 G H O) (n : H p = none) (e : Same H H') (h : H' p = some o) (hm : H0 p = none) : ∃ G', Same G G' ∧ G' p = some o ∧ Sep M H0 G0 G' H' O := by
  have S1 := S.same e
  have ng := S.gfree n
  refine ⟨upd G p o, fun b u q => by rw [upd_ne (ne_of_none q ng)]; exact q, upd_same, S1.base, S1.pm, fun b u q => ?_, fun b u q => ?_, fun b hb gb => ?_, fun a ha => ?_⟩
  · by_cases z : b = p
    · subst z
      rw [upd_same] at q
      exact q ▸ h
    · rw [upd_ne z] at q
      exact S1.sG b u q
  · have := S.g0 b u q
    rw [upd_ne (ne_of_none this ng)]
    exact this
  · by_cases z : b = p
    · subst z
      exact absurd hm hb
    · rw [upd_ne z]
      exact S.gn b hb gb
  · have hne : a ≠ p := fun z => (S.ow a ha).2.1 (by rw [z]; exact n)
    rw [upd_ne hne]
    exact S1.ow a ha
theorem Sep.mut (S : Sep M H0 G0 G H O) {L : List Addr} (x : SameXs L H H') (hL : ∀ a ∈ L, a ∈ O) (hs : ∀ a ∈ L, H' a ≠ none) : Sep M H0 G0 G H' O := by
  have keep : ∀ a, H a ≠ none → H' a ≠ none := fun a h => by
    by_cases hb : a ∈ L
    · exact hs a hb
    · cases q : H a with
      | none => exact absurd q h
      | some o => exact some_ne (x a o q hb)
  refine ⟨fun b o e n => ?_, fun a ha => keep a (S.pm a ha), fun b o e => ?_, S.g0, S.gn, fun a ha => ⟨(S.ow a ha).1, keep a (S.ow a ha).2.1, (S.ow a ha).2.2⟩⟩
  · refine x b o (S.base b o e n) fun hb => ?_
    rcases (S.ow b (hL b hb)).2.2 with z | z
    · exact n z
    · rw [e] at z; cases z
  · refine x b o (S.sG b o e) fun hb => ?_
    have := (S.ow b (hL b hb)).1
    rw [e] at this
    cases this
theorem Sep.mut1 (S : Sep M H0 G0 G H O) (x : SameX m H H') (hm : m ∈ O) (h : H' m = some o) : Sep M H0 G0 G H' O :=
  S.mut (SameXs.of x) (all_cons hm all_nil) (all_cons (some_ne h) all_nil)
theorem Sep.sub (S : Sep M H0 G0 G H O) {O' : List Addr} (h : ∀ a ∈ O', a ∈ O) : Sep M H0 G0 G H O' := ⟨S.base, S.pm, S.sG, S.g0, S.gn, fun a ha => S.ow a (h a ha)⟩
/-- what was owned and is to stay as it is from now on -/
theorem Sep.freeze (S : Sep M H0 G0 G H O) {O' : List Addr} (hp : p ∈ O) (h : H p = some o) (hm : H0 p = none) (hO : ∀ a ∈ O', a ∈ O ∧ a ≠ p) : ∃ G', Same G G' ∧ G' p = some o ∧ Sep M H0 G0 G' H O' := by
  have ng := (S.ow p hp).1
  refine ⟨upd G p o, fun b u q => by rw [upd_ne (ne_of_none q ng)]; exact q, upd_same, S.base, S.pm, fun b u q => ?_, fun b u q => ?_, fun b hb gb => ?_, fun a ha => ?_⟩
  · by_cases z : b = p
    · subst z
      rw [upd_same] at q
      exact q ▸ h
    · rw [upd_ne z] at q
      exact S.sG b u q
  · have := S.g0 b u q
    rw [upd_ne (ne_of_none this ng)]
    exact this
  · by_cases z : b = p
    · subst z
      exact absurd hm hb
    · rw [upd_ne z]
      exact S.gn b hb gb
  · rw [upd_ne (hO a ha).2]
    exact S.ow a (hO a ha).1
/-- a callee that hands on data in a stable heap of its own -/
theorem Sep.step (S : Sep M H0 G0 G H O) {G' : Hp} (e : Same H H') (eG : Same G G') (sG : Same G' H') (hn : ∀ b, H b ≠ none → G b = none → G' b = none) : Sep M H0 G0 G' H' O := by
  have S1 := S.same e
  refine ⟨S1.base, S1.pm, sG, S.g0.trans eG, fun b hb gb => ?_, fun a ha => ⟨hn a (S.ow a ha).2.1 (S.ow a ha).1, (S1.ow a ha).2⟩⟩
  refine hn b (fun z => ?_) (S.gn b hb gb)
  exact hb (S.free z)
theorem Sep.hid (S : Sep M H0 G0 G H O) {L : List Addr} (h : ∀ a ∈ L, a ∈ O) : Same G (hideL L H) := fun b o e => by
  rw [hideL_out fun z => by
    have := (S.ow b (h b z)).1
    rw [e] at this
    cases this]
  exact S.sG b o e
end
end Vx

namespace Vx
open PySem PySem.Spec PyProof.Rows L2
/-! ### lists of plain things (f : V.int, V.bl, V.str) -/
section
variable {α : Type} {f : α → V} {H : Hp} {p : Addr}
theorem cat_map {xs ys : List α} (h : H p = some (.lst (xs.map f ++ ys.map f))) : H p = some (.lst ((xs ++ ys).map f)) := by
  rw [List.map_append]; exact h
theorem snoc_map {xs : List α} {y : α} (h : H p = some (.lst (xs.map f ++ [f y]))) : H p = some (.lst ((xs ++ [y]).map f)) := by
  rw [List.map_append]; exact h
def repL (xs : List α) (k : Int) : List α := (List.replicate k.toNat xs).flatten
theorem rep_map {xs : List α} {k : Int} (h : H p = some (.lst (List.replicate k.toNat (xs.map f)).flatten)) : H p = some (.lst ((repL xs k).map f)) := by
  rw [h]
  unfold repL
  rw [List.map_flatten, List.map_replicate]
def cutL (xs : List α) (lo hi : Option Int) : List α := (xs.drop (HT.sIx xs.length 0 lo)).take (HT.sIx xs.length xs.length hi - HT.sIx xs.length 0 lo)
theorem cut_map {xs : List α} {lo hi : Option Int} (h : H p = some (.lst (cutV (xs.map f) lo hi))) : H p = some (.lst ((cutL xs lo hi).map f)) := by
  rw [h]
  unfold cutV cutL
  rw [List.length_map, List.map_take, List.map_drop]
theorem cast_map {xs ys : List α} (h : H p = some (.lst (xs.map f))) (e : xs = ys) : H p = some (.lst (ys.map f)) := e ▸ h
theorem drop_map {xs : List α} (h : H p = some (.lst (xs.map f).dropLast)) : H p = some (.lst (xs.dropLast.map f)) := by
  rw [h, List.map_dropLast]
theorem ixN_some {n : Nat} {k : Int} (h : -(n : Int) ≤ k ∧ k < n) : ∃ j, ixN n k = some j ∧ j < n := by
  unfold ixN
  by_cases h0 : 0 ≤ k
  · exact ⟨k.toNat, by rw [if_pos h0, if_pos h.2], by omega⟩
  · exact ⟨(k + n).toNat, by rw [if_neg h0, if_pos h.1], by omega⟩
def itD [Inhabited α] (xs : List α) (k : Int) : α := (atI xs k).getD default
theorem atI_map [Inhabited α] {xs : List α} {k : Int} (h : -(xs.length : Int) ≤ k ∧ k < xs.length) : atI (xs.map f) k = some (f (itD xs k)) := by
  obtain ⟨j, e, hj⟩ := ixN_some h
  unfold itD atI
  rw [List.length_map, e]
  show (xs.map f)[j]? = some (f ((xs[j]?).getD default))
  rw [List.getElem?_map, List.getElem?_eq_getElem hj] <;> rfl
def setL (xs : List α) (k : Int) (y : α) : List α := xs.set ((ixN xs.length k).getD 0) y
theorem ixN_map {xs : List α} {k : Int} (h : -(xs.length : Int) ≤ k ∧ k < xs.length) : ixN (xs.map f).length k = some ((ixN xs.length k).getD 0) := by
  obtain ⟨j, e, hj⟩ := ixN_some h
  rw [List.length_map, e] <;> rfl
theorem set_map {xs : List α} {k : Int} {y : α} (h : H p = some (.lst ((xs.map f).set ((ixN xs.length k).getD 0) (f y)))) : H p = some (.lst ((setL xs k y).map f)) := by
  rw [h]
  unfold setL
  rw [List.map_set]
def lastD [Inhabited α] (xs : List α) : α := xs.getLastD default
theorem pop_map [Inhabited α] {xs : List α} (h : xs ≠ []) : (xs.map f)[(xs.map f).length - 1]? = some (f (lastD xs)) := by
  rw [← List.getLast?_eq_getElem?, List.getLast?_map]
  unfold lastD
  cases e : xs.getLast? with
  | none => exact absurd (List.getLast?_eq_none_iff.mp e) h
  | some y =>
    rw [List.getLastD_eq_getLast?, e] <;> rfl
end
/-! ### lists of data -/
section
variable {α β : Type} {f : α → PyData} {g : β → PyData} {G : Hp} {vs ws : List V} {xs ys : List α}
theorem app_map (a : RpAll G vs (xs.map f)) (b : RpAll G ws (ys.map f)) : RpAll G (vs ++ ws) ((xs ++ ys).map f) := by
  rw [List.map_append]; exact a.append b
theorem one_map {v : V} {y : α} (a : RpAll G vs (xs.map f)) (b : Rp G v (f y)) : RpAll G (vs ++ [v]) ((xs ++ [y]).map f) := by
  rw [List.map_append]; exact a.append (.one b)
theorem rep_all (k : Int) (a : RpAll G vs (xs.map f)) : RpAll G (List.replicate k.toNat vs).flatten ((repL xs k).map f) := by
  unfold repL
  rw [List.map_flatten, List.map_replicate]
  exact a.rep _
theorem cut_all (lo hi : Option Int) (a : RpAll G vs (xs.map f)) : RpAll G (cutV vs lo hi) ((cutL xs lo hi).map f) := by
  unfold cutV cutL
  rw [a.len, List.length_map, List.map_take, List.map_drop]
  exact (a.drop _).take _
theorem rp_cast {v : V} {d e : PyData} (r : Rp G v d) (h : d = e) : Rp G v e := h ▸ r
theorem comp_listD {i : Nat} {x : α} {y : β} {v : V} {h : α → β} (hi : xs[i]? = some x) (a : RpAll G vs (((xs.take i).map h).map g)) (r : Rp G v (g y)) (e : h x = y) : RpAll G (vs ++ [v]) (((xs.take (i + 1)).map h).map g) := by
  rw [take_succ_get hi, List.map_append, List.map_append]
  exact a.append (.one (e ▸ r))
theorem comp_rangeD {i : Nat} {y : β} {v : V} {h : Nat → β} (a : RpAll G vs (((List.range i).map h).map g)) (r : Rp G v (g y)) (e : h i = y) : RpAll G (vs ++ [v]) (((List.range (i + 1)).map h).map g) := by
  rw [List.range_succ, List.map_append, List.map_append]
  exact a.append (.one (e ▸ r))
theorem comp_doneD {n : Nat} {h : List α → List β} (hl : n = xs.length) (a : RpAll G vs ((h (xs.take n)).map g)) : RpAll G vs ((h xs).map g) := by
  rw [hl, List.take_length] at a
  exact a
theorem comp_listFD {i : Nat} {x : α} {y : β} {v : V} {h : α → β} {q : α → Bool} (hi : xs[i]? = some x) (hq : q x = true) (a : RpAll G vs ((((xs.take i).filter q).map h).map g)) (r : Rp G v (g y)) (e : h x = y) : RpAll G (vs ++ [v]) ((((xs.take (i + 1)).filter q).map h).map g) := by
  rw [take_succ_get hi, List.filter_append, List.filter_cons, if_pos hq, List.map_append, List.map_append]
  exact a.append (.one (e ▸ r))
theorem skip_listD {i : Nat} {x : α} {h : α → β} {q : α → Bool} (hi : xs[i]? = some x) (hq : q x = false) (a : RpAll G vs ((((xs.take i).filter q).map h).map g)) : RpAll G vs ((((xs.take (i + 1)).filter q).map h).map g) := by
  rw [take_succ_get hi, List.filter_append, List.filter_cons, if_neg (by rw [hq]; decide), List.filter_nil, List.append_nil]
  exact a
end
section
variable {α β : Type} {f : β → V} {H : Hp} {D : Addr} {xs : List α}
theorem compM_list {i : Nat} {x : α} {y : β} {h : α → β} (hi : xs[i]? = some x) (a : H D = some (.lst (((xs.take i).map h).map f ++ [f y]))) (e : h x = y) : H D = some (.lst (((xs.take (i + 1)).map h).map f)) := by
  rw [a, ← e, take_succ_get hi, List.map_append, List.map_append] <;> rfl
theorem compM_range {i : Nat} {y : β} {h : Nat → β} (a : H D = some (.lst (((List.range i).map h).map f ++ [f y]))) (e : h i = y) : H D = some (.lst (((List.range (i + 1)).map h).map f)) := by
  rw [a, ← e, List.range_succ, List.map_append, List.map_append] <;> rfl
theorem compM_done {n : Nat} {h : List α → List β} (hl : n = xs.length) (a : H D = some (.lst ((h (xs.take n)).map f))) : H D = some (.lst ((h xs).map f)) := by
  rw [hl, List.take_length] at a
  exact a
theorem compM_listF {i : Nat} {x : α} {y : β} {h : α → β} {q : α → Bool} (hi : xs[i]? = some x) (hq : q x = true) (a : H D = some (.lst ((((xs.take i).filter q).map h).map f ++ [f y]))) (e : h x = y) : H D = some (.lst ((((xs.take (i + 1)).filter q).map h).map f)) := by
  rw [a, ← e, take_succ_get hi, List.filter_append, List.filter_cons, if_pos hq, List.map_append, List.map_append] <;> rfl
theorem skipM_list {i : Nat} {x : α} {h : α → β} {q : α → Bool} (hi : xs[i]? = some x) (hq : q x = false) (a : H D = some (.lst ((((xs.take i).filter q).map h).map f))) : H D = some (.lst ((((xs.take (i + 1)).filter q).map h).map f)) := by
  rw [a, take_succ_get hi, List.filter_append, List.filter_cons, if_neg (by rw [hq]; decide), List.filter_nil, List.append_nil]
theorem compM_rangeF {i : Nat} {y : β} {h : Nat → β} {q : Nat → Bool} (hq : q i = true) (a : H D = some (.lst ((((List.range i).filter q).map h).map f ++ [f y]))) (e : h i = y) : H D = some (.lst ((((List.range (i + 1)).filter q).map h).map f)) := by
  rw [a, ← e, List.range_succ, List.filter_append, List.filter_cons, if_pos hq, List.map_append, List.map_append] <;> rfl
theorem skipM_range {i : Nat} {h : Nat → β} {q : Nat → Bool} (hq : q i = false) (a : H D = some (.lst ((((List.range i).filter q).map h).map f))) : H D = some (.lst ((((List.range (i + 1)).filter q).map h).map f)) := by
  rw [a, List.range_succ, List.filter_append, List.filter_cons, if_neg (by rw [hq]; decide), List.filter_nil, List.append_nil]
end
/-! ### more rules -/
section
variable {X : Cx} {K : PySem.W.Frag}
theorem ix_tupK (hK : X.K = K := by rfl) : IxR X (rIxT K) := hK ▸ ix_tup
def rLenLK (K : PySem.W.Frag) : List V → Hp → VK → Prop := fun xs H Q => ∃ (p : Addr) (vs : List V) (n : Nat), xs = [.ref p] ∧ SqL K H p vs ∧ vs.length = n ∧ Q (.int (n : Int)) H
theorem call_lenLK (hK : X.K = K := by rfl) : CallR X (.builtin "len") (rLenLK K) := by
  subst hK
  intro pins s σ H xs us Q I r h
  obtain ⟨p, vs, n, rfl, hs, hn, q⟩ := h
  exact call_len_seq pins s σ H _ us Q I r ⟨p, _, rfl, Or.inl hs, by rw [hn]; exact q⟩
def rListLK (K : PySem.W.Frag) : List V → Hp → VK → Prop := fun xs H Q => ∃ (p : Addr) (vs : List V), xs = [.ref p] ∧ SqL K H p vs ∧ ∀ l, H l = none → Q (.ref l) (upd H l (.lst vs))
theorem call_listLK (hK : X.K = K := by rfl) : CallR X (.type "list") (rListLK K) := by
  subst hK
  intro pins s σ H xs us Q I r h
  obtain ⟨p, vs, rfl, hs, q⟩ := h
  exact call_list_of pins s σ H _ us Q I r ⟨p, _, rfl, Or.inl hs, q⟩
theorem cr_anyK (hc : X.calm = true) (hK : X.K = K := by rfl) : CallR X (.builtin "any") (rAny K) := hK ▸ cr_any hc
theorem cr_allK (hc : X.calm = true) (hK : X.K = K := by rfl) : CallR X (.builtin "all") (rAll K) := hK ▸ cr_all hc
theorem pi_tupK {tg l : Expr} {tl : TE} (hl : PE X l tl) (hK : X.K = K := by rfl) : PI X tg l (iTup K tl) := hK ▸ pi_tup hl
theorem pip {op : Operator} {r : R2} (h : OpR X (inplaceOp op) r) : PIp X op r := fun pins s σ H x y v u Q I rx ry q => h pins s σ H x y v u Q I rx ry q
/-- an item at a place from 0 on, by itself (ahead of o[i] op= e) -/
def rIxP (K : PySem.W.Frag) : R2 := fun x y H Q => ∃ (p : Addr) (xs : List V) (k : Int) (v : V), x = .ref p ∧ y = .int k ∧ SqL K H p xs ∧ 0 ≤ k ∧ k < 2 ^ 62 ∧ atI xs k = some v ∧ Q v H
theorem pget_list (hK : X.K = K := by rfl) : PGet X (rIxP K) := by
  subst hK
  intro pins s σ H o i ov iv Q I ro ri h
  obtain ⟨p, xs, k, v, rfl, rfl, hq, h0, h62, ha, q⟩ := h
  cases ro
  obtain ⟨t, rfl⟩ := ri
  obtain ⟨its, r, pl, hz⟩ := I.list hq
  obtain ⟨j, h1, h2, h3, h4, h5⟩ := atI_get ha
  obtain ⟨w, ew, rw'⟩ := r.get h2
  have hj : k.toNat = j := by
    rw [seqIndex_of h0 h5] at h1
    exact Option.some.inj h1
  exact getItem_listL pl.isList h0 (by omega) (by rw [hj]; simpa using ew) ⟨v, H, I, rw', q⟩
theorem tru_map {α : Type} [DecidableEq α] {f : α → V} {xs : List α} : (!decide (xs = [])) = !(xs.map f).isEmpty := by
  cases xs <;> simp
end
end Vx

namespace Vx
open PySem PySem.Spec PyProof.Rows L2
/-! ### objects -/
section
variable {M : List Addr} {H0 G0 G H H' : Hp} {O : List Addr} {p m : Addr} {o : HO}
theorem gen_obj {x dx : Addr} {o1 o2 : HO} (nx : H x = none) (nd : H dx = none) (ne : dx ≠ x) (h : upd (upd H dx o1) x o2 = H') : Same H H' ∧ H' x = some o2 := by
  subst h
  exact ⟨fun b u e => by rw [upd_ne (ne_of_none e nx), upd_ne (ne_of_none e nd)]; exact e, upd_same⟩
theorem sameX_of {m : Addr} (x : SameXs [m] H H') : SameX m H H' := fun b o e n => x b o e (by simpa using n)
theorem g_ne {a b : Addr} (h : G a = some o) (S : Sep M H0 G0 G H O) (hb : b ∈ O) : a ≠ b := fun z => by
  have := (S.ow b hb).1
  rw [← z, h] at this
  cases this
/-- an object whose making has laid some lists -/
theorem Sep.mutnew (S : Sep M H0 G0 G H O) {L : List Addr} (x : SameXs L H H') (hL : ∀ a ∈ L, a ∈ O) (hs : ∀ a ∈ L, H' a ≠ none) (hn : H p = none) (hp : H' p ≠ none) (h0 : H0 p = none) : Sep M H0 G0 G H' (p :: O) := by
  have S1 := S.mut x hL hs
  refine ⟨S1.base, S1.pm, S1.sG, S1.g0, S1.gn, all_cons ⟨S.gfree hn, hp, .inr h0⟩ S1.ow⟩
theorem Sep.init (S : Sep M H0 G0 G H O) (x : SameX m H H') (hm : m ∈ O) (h : H' m = some o) (L : List Addr) (hL : ∀ a ∈ L, H a = none ∧ H' a ≠ none ∧ H0 a = none) : Sep M H0 G0 G H' (L ++ O) := by
  have S1 := S.mut1 x hm h
  refine ⟨S1.base, S1.pm, S1.sG, S1.g0, S1.gn, fun a ha => ?_⟩
  rcases List.mem_append.mp ha with z | z
  · obtain ⟨h1, h2, h3⟩ := hL a z
    exact ⟨S.gfree h1, h2, .inr h3⟩
  · exact S1.ow a z
end
section
variable {P : Program} {w : World} {K : PySem.W.Frag} {mg : Str → Option Value} {base : Heap}
structure MethIn (K : PySem.W.Frag) (C : Addr) (q m : Str) (st : Stmt) (ps : List Str) : Prop where
  ex : ∃ (f : Addr) (fd : FuncData), Fun K m q st f fd ∧ Meth K C m f ∧ Binds K fd ps []
structure PropIn (K : PySem.W.Frag) (C : Addr) (q m : Str) (st : Stmt) (ps : List Str) : Prop where
  ex : ∃ (r f : Addr) (fd : FuncData), Fun K m q st f fd ∧ PropOf K C m r f ∧ Binds K fd ps []
structure InitIn (K : PySem.W.Frag) (mg : Str → Option Value) (C : Addr) (cn q : Str) (st : Stmt) (ps : List Str) : Prop where
  ex : ∃ (f : Addr) (fd : FuncData), Fun K "__init__" q st f fd ∧ Mk K C f ∧ mg cn = some (.ref C) ∧ Binds K fd ps []
structure MetC (P : Program) (w : World) (K : PySem.W.Frag) (mg : Str → Option Value) (base : Heap) (k : Nat) (C : Addr) (m : Str) (sp : Sp) : Prop where
  ex : ∃ (f : Addr) (fd : FuncData) (ps : List Str), Cls K C ∧ Meth K C m f ∧ FnOk P w K mg base CX0 k f fd ps sp ∧ Binds K fd ps []
structure PropC (P : Program) (w : World) (K : PySem.W.Frag) (mg : Str → Option Value) (base : Heap) (k : Nat) (C : Addr) (m : Str) (sp : Sp) : Prop where
  ex : ∃ (q f : Addr) (fd : FuncData) (ps : List Str), Cls K C ∧ PropOf K C m q f ∧ FnOk P w K mg base CX0 k f fd ps sp ∧ Binds K fd ps []
structure MakC (P : Program) (w : World) (K : PySem.W.Frag) (mg : Str → Option Value) (base : Heap) (k : Nat) (cn : Str) (C : Addr) (sp : Sp) : Prop where
  ex : ∃ (f : Addr) (fd : FuncData) (ps : List Str), Mk K C f ∧ FnOk P w K mg base CX0 k f fd ps sp ∧ mg cn = some (.ref C) ∧ Binds K fd ps []
abbrev Body (P : Program) (w : World) (K : PySem.W.Frag) (mg : Str → Option Value) (base : Heap) (x : Str) (st : Stmt) (N : List Str) (k : Nat) (sp : Sp) : Prop :=
  ∀ (f : Addr) (cdv : Value) (A : Around) (outer : List Env) (s : Shared) (H : Hp) (vs : List V) (Q : VK) (E : XK), Room k (A.deeper (envOfC x (defScope st) s.heap.objs.size f cdv)) → sp vs H Q E →
    ∃ t, PSs (cxOf CX0 P w K mg base N x (defScope st) f cdv A outer s H E).nox (defBody st) t ∧ t { nx := fun _ H' => Q .non H', rt := Q } (start N vs) H
theorem MethIn.ok {C : Addr} {q m : Str} {st : Stmt} {N ps : List Str} {k : Nat} {sp : Sp} (D : MethIn K C q m st ps) (c : Cls K C) (S : FnScope N ps (defScope st)) (len : ∀ vs H Q E, sp vs H Q E → vs.length = ps.length)
    (hbody : Body P w K mg base q st N k sp) : MetC P w K mg base (k + 1) C m sp := by
  obtain ⟨f, fd, F, me, b⟩ := D.ex
  exact ⟨f, fd, ps, c, me, F.ok S len (fun cdv A outer s H vs Q E hr h => hbody f cdv A outer s H vs Q E hr h), b⟩
theorem PropIn.ok {C : Addr} {q m : Str} {st : Stmt} {N ps : List Str} {k : Nat} {sp : Sp} (D : PropIn K C q m st ps) (c : Cls K C) (S : FnScope N ps (defScope st)) (len : ∀ vs H Q E, sp vs H Q E → vs.length = ps.length)
    (hbody : Body P w K mg base q st N k sp) : PropC P w K mg base (k + 1) C m sp := by
  obtain ⟨r, f, fd, F, me, b⟩ := D.ex
  exact ⟨r, f, fd, ps, c, me, F.ok S len (fun cdv A outer s H vs Q E hr h => hbody f cdv A outer s H vs Q E hr h), b⟩
theorem InitIn.ok {C : Addr} {cn q : Str} {st : Stmt} {N ps : List Str} {k : Nat} {sp : Sp} (D : InitIn K mg C cn q st ps) (S : FnScope N ps (defScope st)) (len : ∀ vs H Q E, sp vs H Q E → vs.length = ps.length)
    (hbody : Body P w K mg base q st N k sp) : MakC P w K mg base (k + 1) cn C sp := by
  obtain ⟨f, fd, F, me, hm, b⟩ := D.ex
  exact ⟨f, fd, ps, me, F.ok S len (fun cdv A outer s H vs Q E hr h => hbody f cdv A outer s H vs Q E hr h), hm, b⟩
end
section
variable {X : Cx} {k j : Nat} {C : Addr} {x m : Str} {sp : Sp} {p pos apos : Pos} {e o : Expr} {es : List Expr} {ta : TE} {t : TA}
theorem vx_call0 (c : Cal X.prog X.w X.K X.mg X.base k x sp) (hr : Room j X.A) (hk : k ≤ j) (hg : Gl X x) (hdb : (x == ("__debug__" : Str)) = false := by decide) : PE X (.Call (.Name x p) [] [] pos) (tCall sp [] E0 tNil) := by
  obtain ⟨f, fd, ps, F, hm, kp, b⟩ := c.ex
  exact pe_call0 F (hr.mono hk) hg hm kp b .nil pass0 hdb
theorem vx_make (c : MakC X.prog X.w X.K X.mg X.base k x C sp) (hr : Room j X.A) (hk : k + 1 ≤ j) (hg : Gl X x) (ha : PA X (e :: es) t)
    (hdb : (x == ("__debug__" : Str)) = false := by decide) (he : starEach (e :: es) X.env = (false, eval e X.env) :: starEach es X.env := by rfl) (hpl : (backTo pos (starEach es X.env)).any (·.1) = false := by rfl) :
    PE X (.Call (.Name x p) (e :: es) [] pos) (tMake C sp [] E0 t) := by
  obtain ⟨f, fd, ps, M, F, hm, b⟩ := c.ex
  exact pe_make M F (hr.mono hk) hg hm b .nil pass0 ha hdb he hpl
theorem vx_make0 (c : MakC X.prog X.w X.K X.mg X.base k x C sp) (hr : Room j X.A) (hk : k + 1 ≤ j) (hg : Gl X x) (hdb : (x == ("__debug__" : Str)) = false := by decide) :
    PE X (.Call (.Name x p) [] [] pos) (tMake C sp [] E0 tNil) := by
  obtain ⟨f, fd, ps, M, F, hm, b⟩ := c.ex
  exact pe_make0 M F (hr.mono hk) hg hm b .nil pass0 hdb
theorem vx_meth {pl : Sem Bool} (c : MetC X.prog X.w X.K X.mg X.base k C m sp) (hr : Room j X.A) (hk : k ≤ j) (he : PE X o ta) (ha : PA X (e :: es) t)
    (hst : starEach (e :: es) X.env = (false, eval e X.env) :: starEach es X.env := by rfl) (hpl : (backTo pos (starEach es X.env)).any (·.1) = false := by rfl)
    (ht : eval (.Call (.Attribute o m apos) (e :: es) [] pos) X.env = (do
      let ov ← eval o X.env
      standAt apos.atName
      let (f, first) ← holding [ov] (getMethod ov m pl)
      callWith pos f first (backTo pos (starEach (e :: es) X.env)) (backToKw pos (keywordEach [] X.env))) := by rfl) :
    PE X (.Call (.Attribute o m apos) (e :: es) [] pos) (tMeth C m sp [] E0 ta t) := by
  obtain ⟨f, fd, ps, hc, hm, F, b⟩ := c.ex
  exact pe_meth he hc hm F (hr.mono hk) b .nil pass0 ha hst hpl ht
theorem vx_meth0 {pl : Sem Bool} (c : MetC X.prog X.w X.K X.mg X.base k C m sp) (hr : Room j X.A) (hk : k ≤ j) (he : PE X o ta)
    (ht : eval (.Call (.Attribute o m apos) [] [] pos) X.env = (do
      let ov ← eval o X.env
      standAt apos.atName
      let (f, first) ← holding [ov] (getMethod ov m pl)
      callWith pos f first (backTo pos (starEach [] X.env)) (backToKw pos (keywordEach [] X.env))) := by rfl) :
    PE X (.Call (.Attribute o m apos) [] [] pos) (tMeth C m sp [] E0 ta tNil) := by
  obtain ⟨f, fd, ps, hc, hm, F, b⟩ := c.ex
  exact pe_meth0 he hc hm F (hr.mono hk) b .nil pass0 ht
theorem vx_prop (c : PropC X.prog X.w X.K X.mg X.base k C m sp) (hr : Room j X.A) (hk : k + 1 ≤ j) (he : PE X o ta) (hab : attributeBase o m X.env (eval o X.env) = eval o X.env) : PE X (.Attribute o m pos) (tProp C sp [] E0 ta) := by
  obtain ⟨q, f, fd, ps, hc, hp, F, b⟩ := c.ex
  exact pe_prop he hc hp F (hr.mono hk) b .nil pass0 hab
end
theorem iteBNT {b : Bool} {A B : Prop} (h : b = false) (k : A) : if (!b) = true then A else B := by rw [h]; exact iteT k
theorem iteNN {b : Bool} {A B : Prop} (h : if b = true then A else B) : if (!!b) = true then A else B := by rw [Bool.not_not]; exact h
theorem iteBNF {b : Bool} {A B : Prop} (h : b = true) (k : B) : if (!b) = true then A else B := by rw [h]; exact iteF k
theorem shl_side {i j : Int} (h0 : 0 ≤ j) (h1 : j ≤ 4096) (h2 : -(2 ^ 4096) < i) (h3 : i < 2 ^ 4096) : CShl i j := by
  obtain ⟨k, rfl⟩ := Int.eq_ofNat_of_zero_le h0
  exact shl_ok (n := 4096) (by omega) (by omega)
end Vx

namespace Vx
open PySem PySem.Spec PyProof.Rows L2
section
variable {X : Cx} {K : PySem.W.Frag}
theorem fldK {e : Expr} {f : Str} {pos : Pos} {ta : TE} (he : PE X e ta) (hb : attributeBase e f X.env (eval e X.env) = eval e X.env := by rfl) (hK : X.K = K := by rfl) : PE X (.Attribute e f pos) (tFld K ta f) := hK ▸ pe_fld he hb
theorem pg_tupK {es : List Expr} {k : Nat} {t : TGs} {n : Nat} {pos : Pos} (h : PGs X es t) (hc : X.calm = true := by rfl)
    (hn : (assignEach es X.env).length = n := by rfl) (hst : (assignEach es X.env).findIdx? (·.1) = none := by rfl) (hK : X.K = K := by rfl) : PG X (.Tuple es k pos) (gTup K n t) := hK ▸ pg_tup hc h hn hst
end
end Vx

namespace Vx
open PySem PySem.Spec PyProof.Rows L2
section
variable {α β : Type} {f : α → PyData} {g : β → PyData} {fv : α → V} {gv : β → V} {G : Hp} {vs ws : List V} {xs : List α} {ys : List β}
theorem big1 {n : Nat} (h : n ≤ 1000000) : n ≤ sizeLine := smallE h
theorem cat_len (a : RpAll G vs (xs.map f)) (b : RpAll G ws (ys.map g)) (h : xs.length + ys.length ≤ 1000000) : vs.length + ws.length ≤ sizeLine := by
  rw [a.len, b.len, List.length_map, List.length_map]; exact smallE h
theorem cat_lenM (h : xs.length + ys.length ≤ 1000000) : (xs.map fv).length + (ys.map gv).length ≤ sizeLine := by
  rw [List.length_map, List.length_map]; exact smallE h
theorem rep_len {k : Nat} (a : RpAll G vs (xs.map f)) (h : xs.length * k ≤ 1000000) : vs.length * k ≤ sizeLine := by
  rw [a.len, List.length_map]; exact smallE h
theorem rep_lenM {k : Nat} (h : xs.length * k ≤ 1000000) : (xs.map fv).length * k ≤ sizeLine := by
  rw [List.length_map]; exact smallE h
theorem app_len (a : RpAll G vs (xs.map f)) (h : xs.length ≤ 1000000) : vs.length < sizeLine := by
  rw [a.len, List.length_map]; exact small h
theorem app_lenM (h : xs.length ≤ 1000000) : (xs.map fv).length < sizeLine := by
  rw [List.length_map]; exact small h
theorem cutL_len {α : Type} (xs : List α) (lo hi : Option Int) : (cutL xs lo hi).length ≤ xs.length := by
  unfold cutL
  rw [List.length_take, List.length_drop]
  omega
theorem repL_len {α : Type} (xs : List α) (k : Int) : (repL xs k).length = k.toNat * xs.length := by
  unfold repL
  simp
end
end Vx
namespace Vx
open PySem PySem.Spec PyProof.Rows L2

def cellI (ns : List Int) (k : Int) : Int := if k < (ns.length : Int) then itD ns k else 0
def drawStep (free : Bool) (s : List Int × Int × Int) (l : Int) : List Int × Int × Int :=
  if free = true ∧ 1 < s.2.1 then (s.1 ++ [s.2.1 % l], s.2.1 / l, s.2.2)
  else (s.1 ++ [((s.2.2 * 48271 + 11) % 2147483647 * 69621 + 7) % 2147483647 / 13 % l], s.2.1, ((s.2.2 * 48271 + 11) % 2147483647 * 69621 + 7) % 2147483647)
def draws (cell : Int) (limits : List Int) : List Int :=
  (limits.foldl (drawStep (decide (cell < 0) || decide (1000000000000000000 ≤ cell))) ([], (if cell < 0 then -cell else cell), (if cell < 0 then -cell else cell) % 2147483647)).1
theorem draw_step_len (f : Bool) (s : List Int × Int × Int) (l : Int) : (drawStep f s l).1.length = s.1.length + 1 := by
  unfold drawStep
  split <;> simp
theorem draw_fold_len (f : Bool) : ∀ (ls : List Int) (s : List Int × Int × Int), (ls.foldl (drawStep f) s).1.length = s.1.length + ls.length
  | [], s => by simp
  | l :: ls, s => by
    rw [List.foldl_cons, draw_fold_len f ls, draw_step_len, List.length_cons]
    omega
theorem draws_len (cell : Int) (ls : List Int) : (draws cell ls).length = ls.length := by
  unfold draws
  rw [draw_fold_len]
  simp
/-- each draw is below its limit -/
def Below (xs ls : List Int) : Prop := xs.length = ls.length ∧ ∀ (j : Nat) (x l : Int), xs[j]? = some x → ls[j]? = some l → 0 ≤ x ∧ x < l
theorem draw_step_low (f : Bool) (s : List Int × Int × Int) (l : Int) (h : 0 < l) : ∃ x st, drawStep f s l = (s.1 ++ [x], st) ∧ 0 ≤ x ∧ x < l := by
  unfold drawStep
  split
  · exact ⟨_, _, rfl, Int.emod_nonneg _ (by omega), Int.emod_lt_of_pos _ h⟩
  · exact ⟨_, _, rfl, Int.emod_nonneg _ (by omega), Int.emod_lt_of_pos _ h⟩
theorem draw_fold_low (f : Bool) : ∀ (ls : List Int) (done : List Int) (s : List Int × Int × Int), (∀ l ∈ ls, 0 < l) → Below s.1 done → Below (ls.foldl (drawStep f) s).1 (done ++ ls)
  | [], done, s, _, b => by simpa using b
  | l :: ls, done, s, h, b => by
    obtain ⟨x, st, e, h1, h2⟩ := draw_step_low f s l (h l List.mem_cons_self)
    rw [List.foldl_cons, e]
    have := draw_fold_low f ls (done ++ [l]) (s.1 ++ [x], st) (fun m hm => h m (List.mem_cons_of_mem _ hm)) ⟨by simp [b.1], fun j y m hy hm => by
      by_cases hj : j < s.1.length
      · rw [List.getElem?_append_left hj] at hy
        rw [List.getElem?_append_left (by rw [← b.1]; exact hj)] at hm
        exact b.2 j y m hy hm
      · have hj2 := (List.getElem?_eq_some_iff.mp hy).1
        simp at hj2
        have ej : j = s.1.length := by omega
        subst ej
        simp at hy
        rw [b.1] at hm
        simp at hm
        subst hy hm
        exact ⟨h1, h2⟩⟩
    simpa using this
theorem draws_low {cell : Int} {ls : List Int} (h : ∀ l ∈ ls, 0 < l) : Below (draws cell ls) ls := by
  have := draw_fold_low (decide (cell < 0) || decide (1000000000000000000 ≤ cell)) ls [] ([], (if cell < 0 then -cell else cell), (if cell < 0 then -cell else cell) % 2147483647) h ⟨rfl, fun j x l hx => by simp at hx⟩
  rw [List.nil_append] at this
  exact this
/-- the k-th draw -/
theorem draw_at {cell : Int} {ls : List Int} (h : ∀ l ∈ ls, 0 < l) (k : Nat) {l : Int} (hk : ls[k]? = some l) : 0 ≤ itD (draws cell ls) (k : Int) ∧ itD (draws cell ls) (k : Int) < l := by
  have b := draws_low (cell := cell) h
  have hl : k < (draws cell ls).length := by
    rw [b.1]
    exact (List.getElem?_eq_some_iff.mp hk).1
  have e := List.getElem?_eq_getElem hl
  have : itD (draws cell ls) (k : Int) = (draws cell ls)[k] := by
    unfold itD atI ixN
    rw [if_pos (by omega), if_pos (by omega)]
    simp [e]
  rw [this]
  exact b.2 k _ l e hk
theorem len_rep1 {α : Type} (a : α) (k : Int) : (repL [a] k).length = k.toNat := by
  unfold repL
  simp
theorem mem_rep1 {α : Type} {a x : α} {k : Int} (h : x ∈ repL [a] k) : x = a := by
  unfold repL at h
  simp at h
  exact h.2
theorem lims_rep {n k : Int} (h : 0 < n ∧ n < 2 ^ 128) : ∀ l ∈ repL [n] k, 0 < l ∧ l < 2 ^ 128 := fun l hl => by
  rw [mem_rep1 hl]
  exact h
theorem itD_nat {α : Type} [Inhabited α] {e : List α} {k : Nat} {x : α} (h : e[k]? = some x) : itD e (k : Int) = x := by
  unfold itD atI ixN
  have hk := (List.getElem?_eq_some_iff.mp h).1
  rw [if_pos (by omega), if_pos (by omega)]
  simp [h]
theorem itD_mem {α : Type} [Inhabited α] {e : List α} {k : Int} (h : -(e.length : Int) ≤ k ∧ k < e.length) : itD e k ∈ e := by
  obtain ⟨j, hj, hl⟩ := ixN_some h
  unfold itD atI
  rw [hj]
  show (e[j]?).getD default ∈ e
  rw [List.getElem?_eq_getElem hl]
  exact List.getElem_mem hl
theorem repl_get {α : Type} {a x : α} {k : Int} {j : Nat} (h : (repL [a] k)[j]? = some x) : x = a := mem_rep1 (List.mem_of_getElem? h)

structure EncS where
  probs : List Int
  front : List Int
  low : Int
  span : Int
def adaptE (p d : Int) : Int := if d = 0 then p + (4096 - p) / 32 else p - p / 32
theorem adaptE_in {p d : Int} (h : 31 ≤ p ∧ p ≤ 4065) : 31 ≤ adaptE p d ∧ adaptE p d ≤ 4065 := by
  unfold adaptE
  split <;> omega
def num (xs : List Int) : Int := xs.foldl (fun a x => a * 256 + x) 0
theorem num_snoc (xs : List Int) (x : Int) : num (xs ++ [x]) = num xs * 256 + x := by
  unfold num
  rw [List.foldl_append] <;> rfl
def incR : List Int → List Int
  | [] => []
  | x :: r => if x = 255 then 0 :: incR r else (x + 1) :: r
def incE (xs : List Int) : List Int := (incR xs.reverse).reverse
theorem incR_rep (x : Int) (r : List Int) (hx : x ≠ 255) : ∀ j : Nat, incR (List.replicate j 255 ++ x :: r) = List.replicate j 0 ++ (x + 1) :: r
  | 0 => by simp [incR, hx]
  | j + 1 => by
    rw [List.replicate_succ, List.cons_append, incR, if_pos rfl, incR_rep x r hx j, List.replicate_succ, List.cons_append]
theorem incE_mid {A : List Int} {x : Int} {j : Nat} (hx : x ≠ 255) : incE (A ++ [x] ++ List.replicate j 255) = A ++ [x + 1] ++ List.replicate j 0 := by
  unfold incE
  rw [show (A ++ [x] ++ List.replicate j (255 : Int)).reverse = List.replicate j 255 ++ x :: A.reverse by simp, incR_rep x _ hx]
  simp
theorem mid_in {F A : List Int} {x pl : Int} {j : Nat} (h : F = A ++ [x] ++ List.replicate j 0) (hp : pl = (A.length : Int)) : -(F.length : Int) ≤ pl ∧ pl < F.length := by
  subst h hp
  simp only [List.length_append, List.length_cons, List.length_nil, List.length_replicate]
  omega
theorem get_mid {α : Type} {A R : List α} {x : α} : (A ++ [x] ++ R)[A.length]? = some x := by simp
theorem mid_at {F A : List Int} {x pl : Int} {j : Nat} (h : F = A ++ [x] ++ List.replicate j 0) (hp : pl = (A.length : Int)) : itD F pl = x := by
  subst h hp
  exact itD_nat get_mid
theorem ixN_nat' {n j : Nat} (hj : j < n) : ixN n (j : Int) = some j := by
  unfold ixN
  rw [if_pos (by omega), if_pos (by omega)]
  simp
theorem setL_mid {A R : List Int} {x y : Int} : setL (A ++ [x] ++ R) (A.length : Int) y = A ++ [y] ++ R := by
  unfold setL
  rw [ixN_nat' (by simp)]
  simp
theorem all255 {F : List Int} {j : Nat} (h : ∃ y ∈ F, y ≠ 255) (e : F = List.replicate j 255) : False := by
  obtain ⟨y, hy, hn⟩ := h
  rw [e] at hy
  exact hn (List.eq_of_mem_replicate hy)
theorem carry_start {F : List Int} (h : ∃ y ∈ F, y ≠ 255) : ∃ (A : List Int) (x : Int) (j : Nat), F = A ++ [x] ++ List.replicate j 255 ∧ F = A ++ [x] ++ List.replicate j 0 ∧ ((F.length : Int) - 1) = (A.length : Int) := by
  have hn : F ≠ [] := by
    obtain ⟨y, hy, _⟩ := h
    intro z
    rw [z] at hy
    cases hy
  refine ⟨F.dropLast, F.getLast hn, 0, ?_, ?_, ?_⟩
  · rw [List.dropLast_concat_getLast]
    simp
  · rw [List.dropLast_concat_getLast]
    simp
  · have := List.length_pos_iff.mpr hn
    rw [List.length_dropLast]
    omega
theorem carry_A {F A : List Int} {x : Int} {j : Nat} (h : ∃ y ∈ F, y ≠ 255) (e : F = A ++ [x] ++ List.replicate j 255) (hx : x = 255) : A ≠ [] := by
  intro z
  subst z hx
  refine all255 (j := j + 1) h ?_
  rw [e, List.replicate_succ] <;> rfl
theorem carry_turn {F F' A : List Int} {x pl : Int} {j : Nat} (h : ∃ y ∈ F, y ≠ 255) (e : F = A ++ [x] ++ List.replicate j 255) (e' : F' = A ++ [x] ++ List.replicate j 0) (hp : pl = (A.length : Int)) (hx : x = 255) :
    ∃ (B : List Int) (y : Int) (k : Nat), F = B ++ [y] ++ List.replicate k 255 ∧ setL F' pl 0 = B ++ [y] ++ List.replicate k 0 ∧ pl - 1 = (B.length : Int) := by
  have hA := carry_A h e hx
  refine ⟨A.dropLast, A.getLast hA, j + 1, ?_, ?_, ?_⟩
  · rw [e, hx, List.dropLast_concat_getLast hA, List.replicate_succ]
    simp
  · rw [e', hp, setL_mid, List.dropLast_concat_getLast hA, List.replicate_succ]
    simp
  · have := List.length_pos_iff.mpr hA
    rw [hp, List.length_dropLast]
    omega
theorem carry_less {F A : List Int} {x pl : Int} {j : Nat} (h : ∃ y ∈ F, y ≠ 255) (e : F = A ++ [x] ++ List.replicate j 255) (hp : pl = (A.length : Int)) (hx : x = 255) : (pl - 1).toNat < pl.toNat := by
  have := List.length_pos_iff.mpr (carry_A h e hx)
  omega
theorem carry_end {F F' A : List Int} {x pl : Int} {j : Nat} (e : F = A ++ [x] ++ List.replicate j 255) (e' : F' = A ++ [x] ++ List.replicate j 0) (hp : pl = (A.length : Int)) (hx : x ≠ 255) : setL F' pl (itD F' pl + 1) = incE F := by
  rw [mid_at e' hp, e', hp, setL_mid, e, incE_mid hx]

def encInit : EncS := ⟨repL [2048] 256, [], 0, 4294967296 - 1⟩
def encPre (e : EncS) (p d : Int) : EncS :=
  if d = 0 then ⟨e.probs, e.front, e.low, e.span / 4096 * p⟩
  else if 4294967296 ≤ e.low + e.span / 4096 * p then ⟨e.probs, incE e.front, e.low + e.span / 4096 * p - 4294967296, e.span - e.span / 4096 * p⟩
  else ⟨e.probs, e.front, e.low + e.span / 4096 * p, e.span - e.span / 4096 * p⟩
def encNorm1 (e : EncS) : EncS := ⟨e.probs, e.front ++ [e.low / 16777216], e.low * 256 % 4294967296, e.span * 256⟩
def encNorm (e : EncS) : EncS := if e.span < 16777216 then encNorm1 e else e
def encNarrow (e : EncS) (p d : Int) : EncS := encNorm (encPre e p d)
def encCode (e : EncS) (c d : Int) : EncS := ⟨setL (encNarrow e (itD e.probs c) d).probs c (adaptE (itD e.probs c) d), (encNarrow e (itD e.probs c) d).front, (encNarrow e (itD e.probs c) d).low, (encNarrow e (itD e.probs c) d).span⟩
structure EncMid (e : EncS) : Prop where
  oct : ∀ x ∈ e.front, 0 ≤ x ∧ x ≤ 255
  low : 0 ≤ e.low ∧ e.low < 4294967296
  span0 : 0 < e.span
  span : 65536 ≤ e.span ∧ e.span < 4294967296
  fit : num e.front * 4294967296 + e.low + e.span ≤ 256 ^ e.front.length * 4294967296
structure EncG (e : EncS) : Prop where
  len : e.probs.length = 256
  prob : ∀ p ∈ e.probs, 31 ≤ p ∧ p ≤ 4065
  mid : EncMid e
  big : 16777216 ≤ e.span
theorem EncG.chance {e : EncS} (h : EncG e) {c : Int} (h0 : 0 ≤ c) (h1 : c < 256) : 31 ≤ itD e.probs c ∧ itD e.probs c ≤ 4065 := h.prob _ (itD_mem (by rw [h.len]; omega))
theorem part_in {s p : Int} (hs : 16777216 ≤ s ∧ s < 4294967296) (hp : 31 ≤ p ∧ p ≤ 4065) : 65536 ≤ s / 4096 * p ∧ 65536 ≤ s - s / 4096 * p := by
  have h1 : 4096 ≤ s / 4096 := by omega
  have h2 : s / 4096 * 4096 ≤ s := by omega
  have a : s / 4096 * 31 ≤ s / 4096 * p := Int.mul_le_mul_of_nonneg_left hp.1 (by omega)
  have b : s / 4096 * p ≤ s / 4096 * 4065 := Int.mul_le_mul_of_nonneg_left hp.2 (by omega)
  omega
theorem snocInd {α : Type} {motive : List α → Prop} (nil : motive []) (snoc : ∀ xs x, motive xs → motive (xs ++ [x])) (xs : List α) : motive xs := by
  have : ∀ l : List α, motive l.reverse := by
    intro l
    induction l with
    | nil => exact nil
    | cons x r ih =>
      rw [List.reverse_cons]
      exact snoc _ _ ih
  have h := this xs.reverse
  rwa [List.reverse_reverse] at h
theorem num_nn : ∀ {xs : List Int}, (∀ x ∈ xs, 0 ≤ x ∧ x ≤ 255) → 0 ≤ num xs := by
  intro xs
  induction xs using snocInd with
  | nil => intro _; decide
  | snoc xs x ih =>
    intro h
    rw [num_snoc]
    have h1 := ih fun y hy => h y (List.mem_append_left _ hy)
    have h2 := h x (List.mem_append_right _ List.mem_cons_self)
    omega
theorem inc_len (xs : List Int) : (incE xs).length = xs.length := by
  have : ∀ l : List Int, (incR l).length = l.length := by
    intro l
    induction l with
    | nil => rfl
    | cons x r ih =>
      unfold incR
      split
      · rw [List.length_cons, List.length_cons, ih]
      · rfl
  unfold incE
  rw [List.length_reverse, this, List.length_reverse]
theorem split255 : ∀ {xs : List Int}, (∃ y ∈ xs, y ≠ 255) → ∃ (A : List Int) (x : Int) (j : Nat), xs = A ++ [x] ++ List.replicate j 255 ∧ x ≠ 255 := by
  intro xs
  induction xs using snocInd with
  | nil => rintro ⟨y, hy, _⟩; cases hy
  | snoc xs x ih =>
    intro h
    by_cases hx : x = 255
    · subst hx
      obtain ⟨y, hy, hn⟩ := h
      have : ∃ y ∈ xs, y ≠ 255 := by
        rcases List.mem_append.mp hy with z | z
        · exact ⟨y, z, hn⟩
        · simp at z
          exact absurd z hn
      obtain ⟨A, x, j, e, hx⟩ := ih this
      refine ⟨A, x, j + 1, ?_, hx⟩
      rw [e, List.replicate_succ', List.append_assoc]
    · exact ⟨xs, x, 0, by simp, hx⟩
theorem num_rep (A : List Int) (x : Int) : ∀ j : Nat, num (A ++ [x + 1] ++ List.replicate j 0) = num (A ++ [x] ++ List.replicate j 255) + 1
  | 0 => by simp [num_snoc]; omega
  | j + 1 => by
    rw [List.replicate_succ', List.replicate_succ', ← List.append_assoc, ← List.append_assoc, num_snoc, num_snoc, num_rep A x j]
    omega
theorem inc_num {xs : List Int} (h : ∃ y ∈ xs, y ≠ 255) : num (incE xs) = num xs + 1 := by
  obtain ⟨A, x, j, e, hx⟩ := split255 h
  rw [e, incE_mid hx, num_rep]
theorem inc_oct {xs : List Int} (h : ∃ y ∈ xs, y ≠ 255) (ho : ∀ x ∈ xs, 0 ≤ x ∧ x ≤ 255) : ∀ x ∈ incE xs, 0 ≤ x ∧ x ≤ 255 := by
  obtain ⟨A, x, j, e, hx⟩ := split255 h
  subst e
  rw [incE_mid hx]
  intro y hy
  have hxo := ho x (by simp)
  simp at hy
  rcases hy with z | z | z
  · exact ho y (by simp [z])
  · omega
  · omega
theorem num_all255 : ∀ {xs : List Int}, (∀ y ∈ xs, y = 255) → num xs = 256 ^ xs.length - 1 := by
  intro xs
  induction xs using snocInd with
  | nil => intro _; decide
  | snoc xs x ih =>
    intro h
    rw [num_snoc, ih fun y hy => h y (List.mem_append_left _ hy), h x (List.mem_append_right _ List.mem_cons_self), List.length_append, List.length_cons, List.length_nil, Int.pow_succ]
    omega
theorem carry_pre {e : EncS} (h : EncG e) {p : Int} (hp : 31 ≤ p ∧ p ≤ 4065) (c : 4294967296 ≤ e.low + e.span / 4096 * p) : ∃ y ∈ e.front, y ≠ 255 := by
  by_cases z : ∃ y ∈ e.front, y ≠ 255
  · exact z
  · have a : ∀ y ∈ e.front, y = 255 := fun y hy => by
      by_cases q : y = 255
      · exact q
      · exact absurd ⟨y, hy, q⟩ z
    have n := num_all255 a
    have f := h.mid.fit
    have q := part_in ⟨h.big, h.mid.span.2⟩ hp
    rw [n] at f
    have : (256 ^ e.front.length - 1 : Int) * 4294967296 = 256 ^ e.front.length * 4294967296 - 4294967296 := by rw [Int.sub_mul]; omega
    omega
theorem encPre_ok {e : EncS} (h : EncG e) {p : Int} (hp : 31 ≤ p ∧ p ≤ 4065) (d : Int) : EncMid (encPre e p d) := by
  have q := part_in ⟨h.big, h.mid.span.2⟩ hp
  have f := h.mid.fit
  have l := h.mid.low
  have s := h.mid.span
  unfold encPre
  split
  · exact ⟨h.mid.oct, l, by show 0 < e.span / 4096 * p; omega, by show 65536 ≤ e.span / 4096 * p ∧ e.span / 4096 * p < 4294967296; omega, by show num e.front * 4294967296 + e.low + e.span / 4096 * p ≤ 256 ^ e.front.length * 4294967296; omega⟩
  · split
    · rename_i c
      have cp := carry_pre h hp c
      refine ⟨inc_oct cp h.mid.oct, ?_, ?_, ?_, ?_⟩
      · show 0 ≤ e.low + e.span / 4096 * p - 4294967296 ∧ e.low + e.span / 4096 * p - 4294967296 < 4294967296
        omega
      · show 0 < e.span - e.span / 4096 * p
        omega
      · show 65536 ≤ e.span - e.span / 4096 * p ∧ e.span - e.span / 4096 * p < 4294967296
        omega
      · show num (incE e.front) * 4294967296 + (e.low + e.span / 4096 * p - 4294967296) + (e.span - e.span / 4096 * p) ≤ 256 ^ (incE e.front).length * 4294967296
        rw [inc_num cp, inc_len]
        omega
    · refine ⟨h.mid.oct, ?_, ?_, ?_, ?_⟩
      · show 0 ≤ e.low + e.span / 4096 * p ∧ e.low + e.span / 4096 * p < 4294967296
        omega
      · show 0 < e.span - e.span / 4096 * p
        omega
      · show 65536 ≤ e.span - e.span / 4096 * p ∧ e.span - e.span / 4096 * p < 4294967296
        omega
      · show num e.front * 4294967296 + (e.low + e.span / 4096 * p) + (e.span - e.span / 4096 * p) ≤ 256 ^ e.front.length * 4294967296
        omega
theorem norm_span {e : EncS} (h : EncMid e) : 16777216 ≤ (encNorm1 e).span := by
  have := h.span
  show 16777216 ≤ e.span * 256
  omega
theorem shl32 {i j : Int} (h : 0 ≤ i ∧ i < 4294967296) (hj : 0 ≤ j ∧ j ≤ 64) : CShl i j := by
  obtain ⟨k, rfl⟩ := Int.eq_ofNat_of_zero_le hj.1
  exact shl_ok (n := 64) (by omega) (by omega)
theorem encNorm_eq (e : EncS) : (⟨e.probs, e.front ++ [e.low / 16777216], PySem.Builtin.bitAnd (e.low * 256) (4294967296 - 1), e.span * 256⟩ : EncS) = encNorm1 e := by
  unfold encNorm1
  rw [show (4294967296 - 1 : Int) = 4294967295 by decide, bitAnd_m32] <;> rfl
theorem norm_ok {e : EncS} (h : EncMid e) : EncMid (encNorm e) ∧ 16777216 ≤ (encNorm e).span := by
  unfold encNorm
  split
  · rename_i c
    have l := h.low
    have s := h.span
    have f := h.fit
    refine ⟨⟨?_, ?_, ?_, ?_, ?_⟩, norm_span h⟩
    · intro x hx
      rcases List.mem_append.mp hx with z | z
      · exact h.oct x z
      · simp at z
        omega
    · show 0 ≤ e.low * 256 % 4294967296 ∧ e.low * 256 % 4294967296 < 4294967296
      omega
    · show 0 < e.span * 256
      omega
    · show 65536 ≤ e.span * 256 ∧ e.span * 256 < 4294967296
      omega
    · show num (e.front ++ [e.low / 16777216]) * 4294967296 + e.low * 256 % 4294967296 + e.span * 256 ≤ 256 ^ (e.front ++ [e.low / 16777216]).length * 4294967296
      rw [num_snoc, List.length_append, List.length_cons, List.length_nil, Int.pow_succ]
      have e1 : (num e.front * 256 + e.low / 16777216) * 4294967296 + e.low * 256 % 4294967296 = (num e.front * 4294967296 + e.low) * 256 := by omega
      have e2 : (256 : Int) ^ e.front.length * 256 * 4294967296 = 256 ^ e.front.length * 4294967296 * 256 := by rw [Int.mul_right_comm]
      rw [e1, e2]
      omega
  · exact ⟨h, by omega⟩
theorem probs_pre (e : EncS) (p d : Int) : (encPre e p d).probs = e.probs := by
  unfold encPre
  split
  · rfl
  · split <;> rfl
theorem len_pre (e : EncS) (p d : Int) : (encPre e p d).front.length = e.front.length := by
  unfold encPre
  split
  · rfl
  · split
    · exact inc_len _
    · rfl
theorem len_narrow (e : EncS) (p d : Int) : (encNarrow e p d).front.length ≤ e.front.length + 1 := by
  have := len_pre e p d
  unfold encNarrow encNorm
  split
  · show ((encPre e p d).front ++ [(encPre e p d).low / 16777216]).length ≤ e.front.length + 1
    rw [List.length_append, List.length_cons, List.length_nil]
    omega
  · omega
theorem probs_narrow (e : EncS) (p d : Int) : (encNarrow e p d).probs = e.probs := by
  unfold encNarrow encNorm
  split
  · exact probs_pre e p d
  · exact probs_pre e p d
theorem narrow_ok {e : EncS} (h : EncG e) {p : Int} (hp : 31 ≤ p ∧ p ≤ 4065) (d : Int) : EncG (encNarrow e p d) := by
  obtain ⟨m, b⟩ := norm_ok (encPre_ok h hp d)
  exact ⟨by rw [probs_narrow]; exact h.len, by rw [probs_narrow]; exact h.prob, m, b⟩
theorem even_ok {e : EncS} (h : EncG e) (d : Int) : EncG (encNarrow e 2048 d) := narrow_ok h (by decide) d
theorem setL_len {α : Type} (xs : List α) (k : Int) (y : α) : (setL xs k y).length = xs.length := by
  unfold setL
  rw [List.length_set]
theorem setL_mem {α : Type} {xs : List α} {k : Int} {x y : α} (h : x ∈ setL xs k y) : x ∈ xs ∨ x = y := by
  unfold setL at h
  exact List.mem_or_eq_of_mem_set h
theorem code_ok {e : EncS} (h : EncG e) {c d : Int} (h0 : 0 ≤ c) (h1 : c < 256) : EncG (encCode e c d) := by
  have hc := h.chance h0 h1
  have n := narrow_ok h hc d
  refine ⟨?_, ?_, ⟨n.mid.oct, n.mid.low, n.mid.span0, n.mid.span, n.mid.fit⟩, n.big⟩
  · show (setL _ _ _).length = 256
    rw [setL_len]
    exact n.len
  · intro p hp
    rcases setL_mem hp with z | z
    · exact n.prob p z
    · rw [z]
      exact adaptE_in hc
theorem init_ok : EncG encInit := by
  refine ⟨by decide, fun p hp => ?_, ⟨fun x hx => (by cases hx), by decide, by decide, by decide, by decide⟩, by decide⟩
  rw [mem_rep1 hp]
  decide
/-! the octets -/
def stripZ (xs : List Int) : List Int := (xs.reverse.dropWhile (fun x => decide (x = 0))).reverse
def digits4 (n : Int) : List Int := ([24, 16, 8, 0] : List Int).map (fun k => PySem.Builtin.bitAnd (n / 2 ^ Int.toNat k) 255)
def encOctets (e : EncS) : List Int := stripZ (e.front ++ digits4 e.low)
theorem shifts_nn {k : Int} (h : k ∈ ([24, 16, 8, 0] : List Int)) : 0 ≤ k := by
  simp at h
  omega
theorem last_in {xs : List Int} (h : xs ≠ []) : -(xs.length : Int) ≤ -1 ∧ -1 < (xs.length : Int) := by
  have := List.length_pos_iff.mpr h
  omega
theorem itD_last {xs : List Int} (h : xs ≠ []) : itD xs (-1) = xs.getLast h := by
  unfold itD atI ixN
  have := List.length_pos_iff.mpr h
  rw [if_neg (by omega), if_pos (by omega)]
  have e : (-1 + (xs.length : Int)).toNat = xs.length - 1 := by omega
  show (xs[(-1 + (xs.length : Int)).toNat]?).getD default = _
  rw [e, ← List.getLast?_eq_getElem?, List.getLast?_eq_some_getLast h] <;> rfl
theorem strip_pop {xs : List Int} (h : xs ≠ []) (hz : itD xs (-1) = 0) : stripZ xs.dropLast = stripZ xs := by
  rw [itD_last h] at hz
  unfold stripZ
  have e : xs.reverse = 0 :: xs.dropLast.reverse := by
    conv => lhs; rw [← List.dropLast_concat_getLast h, List.reverse_append, hz]
    rfl
  rw [e, List.dropWhile_cons, if_pos (by decide)]
theorem drop_less {xs : List Int} (h : xs ≠ []) : xs.dropLast.length < xs.length := by
  have := List.length_pos_iff.mpr h
  rw [List.length_dropLast]
  omega
theorem strip_nil : stripZ [] = [] := rfl
theorem strip_last {xs : List Int} (h : xs ≠ []) (hz : ¬ itD xs (-1) = 0) : stripZ xs = xs := by
  rw [itD_last h] at hz
  unfold stripZ
  have e : xs.reverse = xs.getLast h :: xs.dropLast.reverse := by
    conv => lhs; rw [← List.dropLast_concat_getLast h, List.reverse_append]
    rfl
  rw [e, List.dropWhile_cons, if_neg (by simpa using hz), ← e, List.reverse_reverse]
theorem strip_done {xs : List Int} (h : xs = [] ∨ ¬ itD xs (-1) = 0) : stripZ xs = xs := by
  by_cases n : xs = []
  · rw [n] <;> rfl
  · rcases h with z | z
    · exact absurd z n
    · exact strip_last n z

theorem five (cell a b c d e : Int) (h : 0 < a ∧ 0 < b ∧ 0 < c ∧ 0 < d ∧ 0 < e) : (draws cell [a, b, c, d, e]).length = 5 ∧ (0 ≤ itD (draws cell [a, b, c, d, e]) 0 ∧ itD (draws cell [a, b, c, d, e]) 0 < a) ∧
    (0 ≤ itD (draws cell [a, b, c, d, e]) 1 ∧ itD (draws cell [a, b, c, d, e]) 1 < b) ∧ (0 ≤ itD (draws cell [a, b, c, d, e]) 2 ∧ itD (draws cell [a, b, c, d, e]) 2 < c) ∧
    (0 ≤ itD (draws cell [a, b, c, d, e]) 3 ∧ itD (draws cell [a, b, c, d, e]) 3 < d) ∧ (0 ≤ itD (draws cell [a, b, c, d, e]) 4 ∧ itD (draws cell [a, b, c, d, e]) 4 < e) := by
  have hp : ∀ l ∈ [a, b, c, d, e], 0 < l := by
    intro l hl
    simp at hl
    omega
  exact ⟨draws_len _ _, draw_at hp 0 rfl, draw_at hp 1 rfl, draw_at hp 2 rfl, draw_at hp 3 rfl, draw_at hp 4 rfl⟩
theorem item_draws (cell : Int) : (draws cell [4, 8, 256, 2, 40]).length = 5 ∧ (0 ≤ itD (draws cell [4, 8, 256, 2, 40]) 0 ∧ itD (draws cell [4, 8, 256, 2, 40]) 0 < 4) ∧
    (0 ≤ itD (draws cell [4, 8, 256, 2, 40]) 1 ∧ itD (draws cell [4, 8, 256, 2, 40]) 1 < 8) ∧ (0 ≤ itD (draws cell [4, 8, 256, 2, 40]) 2 ∧ itD (draws cell [4, 8, 256, 2, 40]) 2 < 256) ∧
    (0 ≤ itD (draws cell [4, 8, 256, 2, 40]) 3 ∧ itD (draws cell [4, 8, 256, 2, 40]) 3 < 2) ∧ (0 ≤ itD (draws cell [4, 8, 256, 2, 40]) 4 ∧ itD (draws cell [4, 8, 256, 2, 40]) 4 < 40) := five cell 4 8 256 2 40 (by decide)
theorem bits_len (cell : Int) : (draws (cell / 1000) (repL [2] (itD (draws cell [4, 8, 256, 2, 40]) 4))).length ≤ 39 := by
  have := item_draws cell
  rw [draws_len, len_rep1]
  omega
def itemCtx (cell : Int) : Int := itD [0, 255, 1, 128, itD (draws cell [4, 8, 256, 2, 40]) 2, itD (draws cell [4, 8, 256, 2, 40]) 2, itD (draws cell [4, 8, 256, 2, 40]) 2, (-1)] (itD (draws cell [4, 8, 256, 2, 40]) 1)
def itemsStep (items : List (Int × Int)) (cell : Int) : List (Int × Int) :=
  if itD (draws cell [4, 8, 256, 2, 40]) 0 < 2 then items ++ repL [(itemCtx cell, itD (draws cell [4, 8, 256, 2, 40]) 3)] (itD (draws cell [4, 8, 256, 2, 40]) 4)
  else items ++ (List.range (((draws (cell / 1000) (repL [2] (itD (draws cell [4, 8, 256, 2, 40]) 4))).length : Int)).toNat).map fun (j : Nat) => ((itemCtx cell + 1) * (if 0 < (0 + (j : Int)) % 3 then 1 else 0) - 1, itD (draws (cell / 1000) (repL [2] (itD (draws cell [4, 8, 256, 2, 40]) 4))) (0 + (j : Int)))
def itemsL (script : List Int) (most : Int) : List (Int × Int) := cutL (script.foldl itemsStep []) none (some most)
def ItemsOk (items : List (Int × Int)) : Prop := ∀ it ∈ items, (-1 ≤ it.1 ∧ it.1 ≤ 255) ∧ 0 ≤ it.2 ∧ it.2 ≤ 1
theorem ctx_ok (cell : Int) : -1 ≤ itemCtx cell ∧ itemCtx cell ≤ 255 := by
  have D := item_draws cell
  have m : itemCtx cell ∈ [0, 255, 1, 128, itD (draws cell [4, 8, 256, 2, 40]) 2, itD (draws cell [4, 8, 256, 2, 40]) 2, itD (draws cell [4, 8, 256, 2, 40]) 2, (-1)] := itD_mem (by simp only [List.length_cons, List.length_nil]; omega)
  simp only [List.mem_cons, List.not_mem_nil, or_false] at m
  omega
theorem step_ok {items : List (Int × Int)} {cell : Int} (h : ItemsOk items) : ItemsOk (itemsStep items cell) := by
  have D := item_draws cell
  have C := ctx_ok cell
  intro it hit
  unfold itemsStep at hit
  split at hit
  · rcases List.mem_append.mp hit with z | z
    · exact h it z
    · rw [mem_rep1 z]
      exact ⟨C, by omega⟩
  · rcases List.mem_append.mp hit with z | z
    · exact h it z
    · obtain ⟨j, hj, e⟩ := List.mem_map.mp z
      rw [← e]
      have hj2 : j < (draws (cell / 1000) (repL [2] (itD (draws cell [4, 8, 256, 2, 40]) 4))).length := by
        have := List.mem_range.mp hj
        omega
      have hb : 0 ≤ itD (draws (cell / 1000) (repL [2] (itD (draws cell [4, 8, 256, 2, 40]) 4))) (j : Int) ∧ itD (draws (cell / 1000) (repL [2] (itD (draws cell [4, 8, 256, 2, 40]) 4))) (j : Int) < 2 := by
        have hj3 : j < (repL [(2 : Int)] (itD (draws cell [4, 8, 256, 2, 40]) 4)).length := by rw [draws_len] at hj2; exact hj2
        refine draw_at (fun l hl => (lims_rep (by decide) l hl).1) j ?_
        rw [List.getElem?_eq_getElem hj3]
        exact congrArg some (mem_rep1 (List.getElem_mem hj3))
      rw [Int.zero_add]
      refine ⟨?_, by show 0 ≤ itD (draws (cell / 1000) _) (j : Int) ∧ itD (draws (cell / 1000) _) (j : Int) ≤ 1; omega⟩
      show -1 ≤ (itemCtx cell + 1) * (if 0 < (j : Int) % 3 then 1 else 0) - 1 ∧ (itemCtx cell + 1) * (if 0 < (j : Int) % 3 then 1 else 0) - 1 ≤ 255
      split <;> omega
theorem fold_items_ok : ∀ (cells : List Int) (items : List (Int × Int)), ItemsOk items → ItemsOk (cells.foldl itemsStep items)
  | [], _, h => h
  | c :: r, items, h => by
    rw [List.foldl_cons]
    exact fold_items_ok r _ (step_ok h)
theorem mem_cutL {α : Type} {xs : List α} {lo hi : Option Int} {x : α} (h : x ∈ cutL xs lo hi) : x ∈ xs := by
  unfold cutL at h
  exact List.mem_of_mem_drop (List.mem_of_mem_take h)
theorem itemsL_ok (script : List Int) (most : Int) : ItemsOk (itemsL script most) := fun it h => fold_items_ok script [] (fun _ z => by cases z) it (mem_cutL h)
theorem cut_ok {items : List (Int × Int)} (h : ItemsOk items) (lo hi : Option Int) : ItemsOk (cutL items lo hi) := fun it z => h it (mem_cutL z)
theorem cut_most {α : Type} (xs : List α) (n : Nat) : (cutL xs none (some (n : Int))).length ≤ n := by
  unfold cutL
  rw [HT.sIx_nat, HT.sIx_none, List.length_take]
  omega
theorem itemsL_len (script : List Int) : (itemsL script 300).length ≤ 300 := cut_most _ 300

def encItem (e : EncS) (it : Int × Int) : EncS := if 0 ≤ it.1 then encCode e it.1 it.2 else encNarrow e 2048 it.2
def encItems (e : EncS) (items : List (Int × Int)) : EncS := items.foldl encItem e
theorem items_turn {e : EncS} {items : List (Int × Int)} {i : Nat} {it : Int × Int} {e' : EncS} (hi : items[i]? = some it) (h : encItem (encItems e (items.take i)) it = e') : e' = encItems e (items.take (i + 1)) := by
  unfold encItems at h ⊢
  rw [take_succ_get hi, List.foldl_append, ← h] <;> rfl
theorem len_code (e : EncS) (c d : Int) : (encCode e c d).front.length ≤ e.front.length + 1 := len_narrow e _ d
theorem item_ok {e : EncS} {it : Int × Int} (h : EncG e) (hi : (-1 ≤ it.1 ∧ it.1 ≤ 255) ∧ 0 ≤ it.2 ∧ it.2 ≤ 1) : EncG (encItem e it) := by
  unfold encItem
  split
  · exact code_ok h (by omega) (by omega)
  · exact even_ok h _
theorem item_len (e : EncS) (it : Int × Int) : (encItem e it).front.length ≤ e.front.length + 1 := by
  unfold encItem
  split
  · exact len_code _ _ _
  · exact len_narrow _ _ _
theorem items_ok : ∀ {items : List (Int × Int)} {e : EncS}, EncG e → ItemsOk items → EncG (encItems e items)
  | [], _, h, _ => h
  | it :: r, e, h, hi => items_ok (items := r) (item_ok h (hi it List.mem_cons_self)) fun x hx => hi x (List.mem_cons_of_mem _ hx)
theorem items_len : ∀ (items : List (Int × Int)) (e : EncS), (encItems e items).front.length ≤ e.front.length + items.length
  | [], e => Nat.le_refl _
  | it :: r, e => by
    have h1 := item_len e it
    have h2 := items_len r (encItem e it)
    have h3 : encItems e (it :: r) = encItems (encItem e it) r := rfl
    rw [h3, List.length_cons]
    omega
theorem items_app (e : EncS) (xs ys : List (Int × Int)) : encItems e (xs ++ ys) = encItems (encItems e xs) ys := by
  unfold encItems
  rw [List.foldl_append]

structure CodeN (e : EncS) (low span count : Int) : Prop where
  low : low = num e.front * 4294967296 + e.low
  span : span = e.span
  count : count = (e.front.length : Int)
structure CodeR (e : EncS) (chances : List Int) (low span count : Int) : Prop where
  toN : CodeN e low span count
  chances : chances = e.probs ++ [2048]
theorem codeR_init : CodeR encInit (repL [2048] 257) 0 (4294967296 - 1) 0 := ⟨⟨rfl, rfl, rfl⟩, by decide⟩
theorem itD_app {e : List Int} {a c : Int} (h0 : 0 ≤ c) (h1 : c < e.length) : itD (e ++ [a]) c = itD e c := by
  obtain ⟨k, rfl⟩ := Int.eq_ofNat_of_zero_le h0
  have hk : k < e.length := by omega
  rw [itD_nat (List.getElem?_eq_getElem hk), itD_nat (x := e[k]) (by rw [List.getElem?_append_left hk, List.getElem?_eq_getElem hk])]
theorem itD_end {e : List Int} {a : Int} : itD (e ++ [a]) (-1) = a := by
  rw [itD_last (by simp), List.getLast_append] <;> simp
theorem setL_app {e : List Int} {a c y : Int} (h0 : 0 ≤ c) (h1 : c < e.length) : setL (e ++ [a]) c y = setL e c y ++ [a] := by
  obtain ⟨k, rfl⟩ := Int.eq_ofNat_of_zero_le h0
  have hk : k < e.length := by omega
  unfold setL
  rw [ixN_nat' hk, ixN_nat' (by rw [List.length_append]; omega)]
  exact List.set_append_left _ _ hk
theorem codeR_chance {e : EncS} {chances : List Int} {low span count c : Int} (hg : EncG e) (hr : CodeR e chances low span count) (hc : -1 ≤ c ∧ c ≤ 255) :
    (-(chances.length : Int) ≤ c ∧ c < chances.length) ∧ 31 ≤ itD chances c ∧ itD chances c ≤ 4065 := by
  have hl := hg.len
  refine ⟨by rw [hr.chances, List.length_append, hl]; simp; omega, ?_⟩
  rw [hr.chances]
  by_cases h : 0 ≤ c
  · rw [itD_app h (by omega)]
    exact hg.chance h (by omega)
  · rw [show c = -1 from by omega, itD_end]
    decide
theorem codeN_pre {e : EncS} {p d low span count low' span' : Int} (hg : EncG e) (hp : 31 ≤ p ∧ p ≤ 4065) (h : CodeN e low span count) (hl : low' = if d = 0 then low else low + span / 4096 * p)
    (hs : span' = if d = 0 then span / 4096 * p else span - span / 4096 * p) : CodeN (encPre e p d) low' span' count := by
  have h1 := h.low
  have h2 := h.span
  have h3 := h.count
  unfold encPre
  split
  · rw [if_pos ‹_›] at hl hs
    exact ⟨by rw [hl, h1], by rw [hs, h2], h3⟩
  · rw [if_neg ‹_›] at hl hs
    split
    · have hy := carry_pre hg hp ‹_›
      have hn := inc_num hy
      rw [h2] at hl hs
      exact ⟨by show low' = num (incE e.front) * 4294967296 + (e.low + e.span / 4096 * p - 4294967296); rw [hl, hn, h1, Int.add_mul]; omega, hs, by show count = ((incE e.front).length : Int); rw [inc_len]; exact h3⟩
    · rw [h2] at hl hs
      exact ⟨by show low' = num e.front * 4294967296 + (e.low + e.span / 4096 * p); rw [hl, h1]; omega, hs, h3⟩
theorem codeN_norm {e : EncS} {low span count : Int} (h : CodeN e low span count) : CodeN (encNorm1 e) (low * 256) (span * 256) (count + 1) := by
  have h1 := h.low
  have h2 := h.span
  have h3 := h.count
  refine ⟨?_, by rw [h2]; rfl, by show count + 1 = (((e.front ++ [e.low / 16777216]).length : Nat) : Int); rw [List.length_append]; simp; omega⟩
  show low * 256 = num (e.front ++ [e.low / 16777216]) * 4294967296 + e.low * 256 % 4294967296
  rw [num_snoc]
  omega
theorem codeN_turn {em : EncS} {low span count cn0 low' span' count' : Int} {i : Nat} (hm : EncMid em) (h : CodeN (if i = 0 then em else encNorm em) low span count) (h0 : cn0 ≤ count) (h1 : count ≤ cn0 + 1) (h2 : i = 0 → count = cn0)
    (hs : (span < 16777216 ∧ low' = low * 256 ∧ span' = span * 256 ∧ count' = count + 1) ∨ (¬ span < 16777216 ∧ low' = low ∧ span' = span ∧ count' = count)) :
    CodeN (if i + 1 = 0 then em else encNorm em) low' span' count' ∧ cn0 ≤ count' ∧ count' ≤ cn0 + 1 ∧ (i + 1 = 0 → count' = cn0) := by
  rw [if_neg (by omega)]
  have hb := (norm_ok hm).2
  by_cases hi : i = 0
  · rw [if_pos hi] at h
    have hc := h2 hi
    have hsp := h.span
    rcases hs with ⟨a, rfl, rfl, rfl⟩ | ⟨a, rfl, rfl, rfl⟩
    · have e1 : encNorm em = encNorm1 em := if_pos (by omega)
      rw [e1]
      exact ⟨codeN_norm h, by omega, by omega, by omega⟩
    · have e1 : encNorm em = em := if_neg (by omega)
      rw [e1]
      exact ⟨h, by omega, by omega, by omega⟩
  · rw [if_neg hi] at h
    have hsp := h.span
    rcases hs with ⟨a, rfl, rfl, rfl⟩ | ⟨a, rfl, rfl, rfl⟩
    · omega
    · exact ⟨h, by omega, by omega, by omega⟩
def codeChances (chances : List Int) (c d : Int) : List Int := if 0 ≤ c then setL chances c (adaptE (itD chances c) d) else chances
theorem codeR_turn {items : List (Int × Int)} {i : Nat} {item : Int × Int} {chances chances' : List Int} {low span count low' span' count' : Int} {em : EncS} (hi : items[i]? = some item) (hg : EncG (encItems encInit (items.take i)))
    (hr : CodeR (encItems encInit (items.take i)) chances low span count) (hit : (-1 ≤ item.1 ∧ item.1 ≤ 255) ∧ 0 ≤ item.2 ∧ item.2 ≤ 1)
    (hme : em = encPre (encItems encInit (items.take i)) (itD chances item.1) item.2) (hc : codeChances chances item.1 item.2 = chances') (hn : CodeN (encNorm em) low' span' count') :
    CodeR (encItems encInit (items.take (i + 1))) chances' low' span' count' := by
  have hl := hg.len
  rw [← items_turn hi rfl]
  generalize encItems encInit (items.take i) = e at *
  rw [hr.chances] at hc hme
  unfold encItem
  unfold codeChances at hc
  by_cases h : 0 ≤ item.1
  · rw [if_pos h] at hc ⊢
    rw [itD_app h (by omega)] at hc hme
    rw [setL_app h (by omega)] at hc
    rw [hme] at hn
    refine ⟨⟨hn.low, hn.span, hn.count⟩, ?_⟩
    rw [← hc]
    show _ = setL (encNarrow e (itD e.probs item.1) item.2).probs item.1 _ ++ [2048]
    rw [probs_narrow]
  · rw [if_neg h] at hc ⊢
    rw [show item.1 = -1 from by omega, itD_end] at hme
    rw [hme] at hn
    refine ⟨hn, ?_⟩
    rw [← hc, probs_narrow]
def digs (n : Int) (k : Nat) : List Int := (List.range k).map fun j => n / 2 ^ (8 * (k - 1 - j)) % 256
theorem digs_snoc (n x : Int) (k : Nat) (hx : 0 ≤ x ∧ x ≤ 255) : digs (n * 256 + x) (k + 1) = digs n k ++ [x] := by
  unfold digs
  rw [List.range_succ, List.map_append]
  congr 1
  · apply List.map_congr_left
    intro j hj
    have hj := List.mem_range.mp hj
    show (n * 256 + x) / 2 ^ (8 * (k + 1 - 1 - j)) % 256 = n / 2 ^ (8 * (k - 1 - j)) % 256
    rw [show 8 * (k + 1 - 1 - j) = 8 + 8 * (k - 1 - j) from by omega, Int.pow_add, ← Int.ediv_ediv_of_nonneg (by decide)]
    rw [show (n * 256 + x) / 2 ^ 8 = n from by omega]
  · show [(n * 256 + x) / 2 ^ (8 * (k + 1 - 1 - k)) % 256] = [x]
    rw [show 8 * (k + 1 - 1 - k) = 0 from by omega]
    congr 1
    simp
    omega
theorem digs_num : ∀ {xs : List Int}, (∀ x ∈ xs, 0 ≤ x ∧ x ≤ 255) → digs (num xs) xs.length = xs := by
  intro xs
  refine snocInd (motive := fun xs => (∀ x ∈ xs, 0 ≤ x ∧ x ≤ 255) → digs (num xs) xs.length = xs) (fun _ => rfl) (fun ys y ih h => ?_) xs
  rw [num_snoc, List.length_append]
  show digs _ (ys.length + 1) = _
  rw [digs_snoc _ _ _ (h y (by simp)), ih fun x hx => h x (by simp [hx])]
theorem digits4_eq {n : Int} : digits4 n = [n / 16777216 % 256, n / 65536 % 256, n / 256 % 256, n % 256] := by
  unfold digits4
  simp only [List.map_cons, List.map_nil, bitAnd_m8]
  simp
theorem digits4_len (n : Int) : (digits4 n).length = 4 := rfl
theorem code_digits {e : EncS} (h : EncMid e) : digs (num e.front * 4294967296 + e.low) (e.front.length + 4) = e.front ++ digits4 e.low := by
  have ho : ∀ x ∈ e.front ++ digits4 e.low, 0 ≤ x ∧ x ≤ 255 := by
    intro x hx
    rcases List.mem_append.mp hx with z | z
    · exact h.oct x z
    · rw [digits4_eq] at z
      simp only [List.mem_cons, List.not_mem_nil, or_false] at z
      omega
  have hl := h.low
  have hd := digs_num ho
  rw [List.length_append, digits4_len] at hd
  rw [← hd]
  congr 1
  rw [digits4_eq, show e.front ++ [e.low / 16777216 % 256, e.low / 65536 % 256, e.low / 256 % 256, e.low % 256] = e.front ++ [e.low / 16777216 % 256] ++ [e.low / 65536 % 256] ++ [e.low / 256 % 256] ++ [e.low % 256] from by simp]
  rw [num_snoc, num_snoc, num_snoc, num_snoc]
  omega
theorem ne_len {xs : List Int} (h : 0 < (xs.length : Int)) : xs ≠ [] := by
  intro z
  rw [z] at h
  simp at h
theorem nil_len {xs : List Int} (h : ¬ 0 < (xs.length : Int)) : xs = [] := by
  cases xs with
  | nil => rfl
  | cons a r => exact absurd (by rw [List.length_cons]; omega) h
theorem code_oct {e : EncS} {low span count : Int} (hm : EncMid e) (hn : CodeN e low span count) :
    (List.range (count + 4).toNat).map (fun (j : Nat) => PySem.Builtin.bitAnd (low / 2 ^ Int.toNat (8 * (count + 3 - (0 + (j : Int))))) 255) = e.front ++ digits4 e.low := by
  rw [← code_digits hm, hn.low, hn.count]
  unfold digs
  rw [show ((e.front.length : Int) + 4).toNat = e.front.length + 4 from by omega]
  apply List.map_congr_left
  intro j hj
  have hj := List.mem_range.mp hj
  rw [bitAnd_m8, show Int.toNat (8 * ((e.front.length : Int) + 3 - (0 + (j : Int)))) = 8 * (e.front.length + 4 - 1 - j) from by omega]
theorem strip_len (xs : List Int) : (stripZ xs).length ≤ xs.length := by
  unfold stripZ
  rw [List.length_reverse]
  have h := (List.dropWhile_sublist (fun x => decide (x = 0)) (l := xs.reverse)).length_le
  rw [List.length_reverse] at h
  exact h
theorem oct_turn {octets o E : List Int} {i : Nat} {count : Int} (hs : stripZ octets = E) (hl : octets = E ∨ (octets.length : Int) + i ≤ count + 4)
    (h : (octets ≠ [] ∧ itD octets (-1) = 0 ∧ o = octets.dropLast) ∨ ((¬ itD octets (-1) = 0 ∨ octets = []) ∧ o = octets)) : stripZ o = E ∧ (o = E ∨ (o.length : Int) + ((i + 1 : Nat) : Int) ≤ count + 4) := by
  rcases h with ⟨h1, h2, rfl⟩ | ⟨h1, rfl⟩
  · have e1 := strip_pop h1 h2
    have e2 := drop_less h1
    have e3 := strip_len octets.dropLast
    refine ⟨e1.trans hs, .inr ?_⟩
    rcases hl with z | z
    · rw [e1, hs, ← z] at e3
      omega
    · omega
  · have e1 := strip_done (xs := o) (by rcases h1 with z | z; exact .inr z; exact .inl z)
    exact ⟨hs, .inl (e1.symm.trans hs)⟩
theorem oct_end {octets E : List Int} {count : Int} (hs : stripZ octets = E) (hl : octets = E ∨ (octets.length : Int) + ((count + 4).toNat : Int) ≤ count + 4) (hc : 0 ≤ count) : octets = E := by
  rcases hl with z | z
  · exact z
  · have e : octets = [] := nil_len (by omega)
    rw [← hs, e]
    rfl
theorem chances_cut {e : EncS} {chances : List Int} {low span count : Int} (hg : EncG e) (hr : CodeR e chances low span count) : cutL chances none (some 256) = e.probs := by
  rw [hr.chances]
  have hl := hg.len
  unfold cutL
  rw [HT.sIx_none, show (256 : Int) = ((256 : Nat) : Int) from rfl, HT.sIx_nat, List.length_append, hl]
  show List.take 256 (List.drop 0 (e.probs ++ [2048])) = e.probs
  rw [List.drop_zero, List.take_append_of_le_length (by omega), List.take_of_length_le (by omega)]

theorem dw_idem (p : Int → Bool) : ∀ ys : List Int, (ys.dropWhile p).dropWhile p = ys.dropWhile p
  | [] => rfl
  | y :: r => by
    rw [List.dropWhile_cons]
    split
    · exact dw_idem p r
    · rw [List.dropWhile_cons, if_neg ‹_›]
theorem strip_idem (xs : List Int) : stripZ (stripZ xs) = stripZ xs := by
  unfold stripZ
  rw [List.reverse_reverse, dw_idem]
theorem octs_len (e : EncS) : (encOctets e).length ≤ e.front.length + 4 := by
  have h := strip_len (e.front ++ digits4 e.low)
  rw [List.length_append, digits4_len] at h
  exact h
theorem strip_end {xs : List Int} (h : stripZ xs ≠ []) : ¬ itD (stripZ xs) (-1) = 0 := by
  intro z
  have e1 := strip_pop h z
  have e2 := drop_less h
  have e3 := strip_len (stripZ xs).dropLast
  rw [e1, strip_idem] at e3
  omega
theorem cut_len {α : Type} (xs : List α) (lo hi : Option Int) : (cutL xs lo hi).length ≤ xs.length := by
  unfold cutL
  rw [List.length_take, List.length_drop]
  omega
theorem cut_join {α : Type} (xs : List α) {n : Int} (h : 0 ≤ n ∧ n ≤ xs.length) : cutL xs none (some n) ++ cutL xs (some n) none = xs := by
  obtain ⟨k, rfl⟩ := Int.eq_ofNat_of_zero_le h.1
  have hk : k ≤ xs.length := by omega
  unfold cutL
  rw [HT.sIx_none, HT.sIx_none, HT.sIx_nat, HT.sIx_nat, Nat.min_eq_left hk]
  show List.take (k - 0) (List.drop 0 xs) ++ List.take (xs.length - k) (List.drop k xs) = xs
  rw [Nat.sub_zero, List.drop_zero, List.take_of_length_le (l := List.drop k xs) (by rw [List.length_drop]; omega), List.take_append_drop]

end Vx
namespace Vx
open PySem PySem.Spec PyProof.Rows L2
def topS (i : Nat) : Stmt := PySem.Challenge.pw_thaumatrope_k12_decisions_coded.main.body.getD i (.Pass ⟨0, 0, 0, 0⟩)
abbrev s__check_context : Stmt := topS 12
abbrev s__check_decision : Stmt := topS 13
abbrev s__adapted : Stmt := topS 14
abbrev s_Encoder___init__ : Stmt := inClass (topS 11) 0
abbrev s_Encoder__carry : Stmt := inClass (topS 11) 6
abbrev s_Encoder__narrow : Stmt := inClass (topS 11) 5
abbrev s_Encoder_code : Stmt := inClass (topS 11) 1
abbrev s_Encoder_code_even : Stmt := inClass (topS 11) 2
abbrev s_Encoder_octets : Stmt := inClass (topS 11) 3
abbrev s_Encoder_probability : Stmt := inClass (topS 11) 4
abbrev s__law_draws : Stmt := topS 17
abbrev s__law_items : Stmt := topS 18
abbrev s__law_moved : Stmt := topS 19
abbrev s__law_code_items : Stmt := topS 21
abbrev s__law_code : Stmt := topS 20
abbrev s_law : Stmt := topS 22
structure Ads where
  c_Encoder : Addr
structure Txt (K : PySem.W.Frag) (mg : Str → Option Value) (AD : Ads) : Prop where
  g_CONTEXTS : ∃ u, mg "CONTEXTS" = some u ∧ RelV (V.int 256) u
  g_SCALE : ∃ u, mg "SCALE" = some u ∧ RelV (V.int 4096) u
  g_RATE : ∃ u, mg "RATE" = some u ∧ RelV (V.int 5) u
  g_EVEN : ∃ u, mg "EVEN" = some u ∧ RelV (V.int 2048) u
  g_WORD : ∃ u, mg "WORD" = some u ∧ RelV (V.int 4294967296) u
  b_len : mg "len" = none
  g_SCALE_BITS : ∃ u, mg "SCALE_BITS" = some u ∧ RelV (V.int 12) u
  g_LEAST_SPAN : ∃ u, mg "LEAST_SPAN" = some u ∧ RelV (V.int 16777216) u
  b_abs : mg "abs" = none
  b_int : mg "int" = none
  b_range : mg "range" = none
  b_isinstance : mg "isinstance" = none
  b_list : mg "list" = none
  cl_Encoder : Cls K AD.c_Encoder
  n_Encoder__probabilities : NoAttr K AD.c_Encoder "_probabilities"
  n_Encoder__front : NoAttr K AD.c_Encoder "_front"
  n_Encoder__low : NoAttr K AD.c_Encoder "_low"
  n_Encoder__span : NoAttr K AD.c_Encoder "_span"
def sp__check_context (K : PySem.W.Frag) (AD : Ads) : Sp := fun vs H Q _ => ∃ (context : Int), vs = [.int context] ∧ (0 ≤ context) ∧ (context < 256) ∧ Q (.non) H
def sp__check_decision (K : PySem.W.Frag) (AD : Ads) : Sp := fun vs H Q _ => ∃ (decision : Int), vs = [.int decision] ∧ (0 ≤ decision) ∧ (decision ≤ 1) ∧ Q (.non) H
def sp__adapted (K : PySem.W.Frag) (AD : Ads) : Sp := fun vs H Q _ => ∃ (chance : Int) (decision : Int), vs = [.int chance, .int decision] ∧ Q (.int (adaptE chance decision)) H
def sp_Encoder___init__ (K : PySem.W.Frag) (AD : Ads) : Sp := fun vs H Q _ => ∃ (p_self dx_self : Addr), vs = [.ref p_self] ∧ H p_self = some (.ins AD.c_Encoder dx_self []) ∧ ∀ (H' : Hp) (l_probs l_front : Addr) (s : EncS), s = encInit → SameX p_self H H' → H l_probs = none → H l_front = none → l_probs ≠ l_front → H' p_self = some (.ins AD.c_Encoder dx_self [("_probabilities", V.ref l_probs), ("_front", V.ref l_front), ("_low", V.int s.low), ("_span", V.int s.span)]) → H' l_probs = some (.lst (s.probs.map V.int)) → H' l_front = some (.lst (s.front.map V.int)) → Q .non H'
def sp_Encoder__carry (K : PySem.W.Frag) (AD : Ads) : Sp := fun vs H Q _ => ∃ (p_self dx_self l_self_probs l_self_front : Addr) (self_ : EncS), vs = [.ref p_self] ∧ H p_self = some (.ins AD.c_Encoder dx_self [("_probabilities", V.ref l_self_probs), ("_front", V.ref l_self_front), ("_low", V.int self_.low), ("_span", V.int self_.span)]) ∧ H l_self_probs = some (.lst (self_.probs.map V.int)) ∧ H l_self_front = some (.lst (self_.front.map V.int)) ∧ l_self_probs ≠ l_self_front ∧ (∃ y ∈ self_.front, y ≠ 255) ∧ (self_.front.length ≤ 100000) ∧ ∀ (H' : Hp) (s : EncS), s = (⟨self_.probs, incE self_.front, self_.low, self_.span⟩ : EncS) → SameXs [p_self, l_self_probs, l_self_front] H H' → H' p_self = some (.ins AD.c_Encoder dx_self [("_probabilities", V.ref l_self_probs), ("_front", V.ref l_self_front), ("_low", V.int s.low), ("_span", V.int s.span)]) → H' l_self_probs = some (.lst (s.probs.map V.int)) → H' l_self_front = some (.lst (s.front.map V.int)) → Q (.non) H'
def sp_Encoder__narrow (K : PySem.W.Frag) (AD : Ads) : Sp := fun vs H Q _ => ∃ (p_self dx_self l_self_probs l_self_front : Addr) (self_ : EncS) (chance : Int) (decision : Int), vs = [.ref p_self, .int chance, .int decision] ∧ H p_self = some (.ins AD.c_Encoder dx_self [("_probabilities", V.ref l_self_probs), ("_front", V.ref l_self_front), ("_low", V.int self_.low), ("_span", V.int self_.span)]) ∧ H l_self_probs = some (.lst (self_.probs.map V.int)) ∧ H l_self_front = some (.lst (self_.front.map V.int)) ∧ l_self_probs ≠ l_self_front ∧ (EncG self_) ∧ (31 ≤ chance ∧ chance ≤ 4065) ∧ (self_.front.length ≤ 90000) ∧ ∀ (H' : Hp) (s : EncS), s = encNarrow self_ chance decision → SameXs [p_self, l_self_probs, l_self_front] H H' → H' p_self = some (.ins AD.c_Encoder dx_self [("_probabilities", V.ref l_self_probs), ("_front", V.ref l_self_front), ("_low", V.int s.low), ("_span", V.int s.span)]) → H' l_self_probs = some (.lst (s.probs.map V.int)) → H' l_self_front = some (.lst (s.front.map V.int)) → Q (.non) H'
def sp_Encoder_code (K : PySem.W.Frag) (AD : Ads) : Sp := fun vs H Q _ => ∃ (p_self dx_self l_self_probs l_self_front : Addr) (self_ : EncS) (context : Int) (decision : Int), vs = [.ref p_self, .int context, .int decision] ∧ H p_self = some (.ins AD.c_Encoder dx_self [("_probabilities", V.ref l_self_probs), ("_front", V.ref l_self_front), ("_low", V.int self_.low), ("_span", V.int self_.span)]) ∧ H l_self_probs = some (.lst (self_.probs.map V.int)) ∧ H l_self_front = some (.lst (self_.front.map V.int)) ∧ l_self_probs ≠ l_self_front ∧ (EncG self_) ∧ (0 ≤ context) ∧ (context < 256) ∧ (0 ≤ decision) ∧ (decision ≤ 1) ∧ (self_.front.length ≤ 90000) ∧ ∀ (H' : Hp) (s : EncS), s = encCode self_ context decision → SameXs [p_self, l_self_probs, l_self_front] H H' → H' p_self = some (.ins AD.c_Encoder dx_self [("_probabilities", V.ref l_self_probs), ("_front", V.ref l_self_front), ("_low", V.int s.low), ("_span", V.int s.span)]) → H' l_self_probs = some (.lst (s.probs.map V.int)) → H' l_self_front = some (.lst (s.front.map V.int)) → Q (.non) H'
def sp_Encoder_code_even (K : PySem.W.Frag) (AD : Ads) : Sp := fun vs H Q _ => ∃ (p_self dx_self l_self_probs l_self_front : Addr) (self_ : EncS) (decision : Int), vs = [.ref p_self, .int decision] ∧ H p_self = some (.ins AD.c_Encoder dx_self [("_probabilities", V.ref l_self_probs), ("_front", V.ref l_self_front), ("_low", V.int self_.low), ("_span", V.int self_.span)]) ∧ H l_self_probs = some (.lst (self_.probs.map V.int)) ∧ H l_self_front = some (.lst (self_.front.map V.int)) ∧ l_self_probs ≠ l_self_front ∧ (EncG self_) ∧ (0 ≤ decision) ∧ (decision ≤ 1) ∧ (self_.front.length ≤ 90000) ∧ ∀ (H' : Hp) (s : EncS), s = encNarrow self_ 2048 decision → SameXs [p_self, l_self_probs, l_self_front] H H' → H' p_self = some (.ins AD.c_Encoder dx_self [("_probabilities", V.ref l_self_probs), ("_front", V.ref l_self_front), ("_low", V.int s.low), ("_span", V.int s.span)]) → H' l_self_probs = some (.lst (s.probs.map V.int)) → H' l_self_front = some (.lst (s.front.map V.int)) → Q (.non) H'
def sp_Encoder_octets (K : PySem.W.Frag) (AD : Ads) : Sp := fun vs H Q _ => ∃ (p_self dx_self l_self_probs l_self_front : Addr) (self_ : EncS), vs = [.ref p_self] ∧ H p_self = some (.ins AD.c_Encoder dx_self [("_probabilities", V.ref l_self_probs), ("_front", V.ref l_self_front), ("_low", V.int self_.low), ("_span", V.int self_.span)]) ∧ H l_self_probs = some (.lst (self_.probs.map V.int)) ∧ H l_self_front = some (.lst (self_.front.map V.int)) ∧ l_self_probs ≠ l_self_front ∧ (self_.front.length ≤ 100000) ∧ ∀ p H', H p = none → Same H H' → H' p = some (.lst ((encOctets self_ : (List Int)).map V.int)) → Q (.ref p) H'
def sp_Encoder_probability (K : PySem.W.Frag) (AD : Ads) : Sp := fun vs H Q _ => ∃ (p_self dx_self l_self_probs l_self_front : Addr) (self_ : EncS) (context : Int), vs = [.ref p_self, .int context] ∧ H p_self = some (.ins AD.c_Encoder dx_self [("_probabilities", V.ref l_self_probs), ("_front", V.ref l_self_front), ("_low", V.int self_.low), ("_span", V.int self_.span)]) ∧ H l_self_probs = some (.lst (self_.probs.map V.int)) ∧ H l_self_front = some (.lst (self_.front.map V.int)) ∧ l_self_probs ≠ l_self_front ∧ (0 ≤ context) ∧ (context < 256) ∧ (self_.probs.length = 256) ∧ Q (.int (itD self_.probs context)) H
def sp__law_draws (K : PySem.W.Frag) (AD : Ads) : Sp := fun vs H Q _ => ∃ (cell : Int) (a_limits : Addr) (limits : List Int), vs = [.int cell, .ref a_limits] ∧ H a_limits = some (.lst (limits.map V.int)) ∧ (∀ l ∈ limits, 0 < l ∧ l < 2 ^ 128) ∧ (limits.length ≤ 100000) ∧ ∀ p H', H p = none → Same H H' → H' p = some (.lst ((draws cell limits : (List Int)).map V.int)) → Q (.ref p) H'
def sp__law_items (K : PySem.W.Frag) (AD : Ads) : Sp := fun vs H Q _ => ∃ (G : Hp) (a_script : Addr) (script : List Int) (most : Int), vs = [.ref a_script, .int most] ∧ Same G H ∧ SqL K H a_script (script.map V.int) ∧ (script.length ≤ 63) ∧ ∀ v H' G', Same H H' → Same G G' → Same G' H' → (∀ b, H b ≠ none → G b = none → G' b = none) → Rp G' v ((encL (encT2 PyData.int PyData.int)) (itemsL script most)) → Q v H'
def sp__law_moved (K : PySem.W.Frag) (AD : Ads) : Sp := fun vs H Q _ => ∃ (p : Int) (decision : Int), vs = [.int p, .int decision] ∧ Q (.int (adaptE p decision)) H
def sp__law_code_items (K : PySem.W.Frag) (AD : Ads) : Sp := fun vs H Q _ => ∃ (p_encoder dx_encoder l_encoder_probs l_encoder_front : Addr) (enc : EncS) (v_items : V) (items : (List (Int × Int))), vs = [.ref p_encoder, v_items] ∧ H p_encoder = some (.ins AD.c_Encoder dx_encoder [("_probabilities", V.ref l_encoder_probs), ("_front", V.ref l_encoder_front), ("_low", V.int enc.low), ("_span", V.int enc.span)]) ∧ H l_encoder_probs = some (.lst (enc.probs.map V.int)) ∧ H l_encoder_front = some (.lst (enc.front.map V.int)) ∧ l_encoder_probs ≠ l_encoder_front ∧ Rp (hideL [p_encoder, l_encoder_probs, l_encoder_front] H) v_items ((encL (encT2 PyData.int PyData.int)) items) ∧ (EncG enc) ∧ (ItemsOk items) ∧ (enc.front.length + items.length ≤ 90000) ∧ ∀ (H' : Hp) (s : EncS), s = encItems enc items → SameXs [p_encoder, l_encoder_probs, l_encoder_front] H H' → H' p_encoder = some (.ins AD.c_Encoder dx_encoder [("_probabilities", V.ref l_encoder_probs), ("_front", V.ref l_encoder_front), ("_low", V.int s.low), ("_span", V.int s.span)]) → H' l_encoder_probs = some (.lst (s.probs.map V.int)) → H' l_encoder_front = some (.lst (s.front.map V.int)) → Q (.non) H'
def sp__law_code (K : PySem.W.Frag) (AD : Ads) : Sp := fun vs H Q _ => ∃ (G : Hp) (v_items : V) (items : (List (Int × Int))), vs = [v_items] ∧ Same G H ∧ Rp G v_items ((encL (encT2 PyData.int PyData.int)) items) ∧ (ItemsOk items) ∧ (items.length ≤ 5000) ∧ ∀ v H' G', Same H H' → Same G G' → Same G' H' → (∀ b, H b ≠ none → G b = none → G' b = none) → Rp G' v ((encT2 (encL PyData.int) (encL PyData.int)) ((encOctets (encItems encInit items), (encItems encInit items).probs))) → Q v H'
def sp_law (K : PySem.W.Frag) (AD : Ads) : Sp := fun vs H Q _ => ∃ (a_script : Addr) (script : List Int), vs = [.ref a_script] ∧ SqL K H a_script (script.map V.int) ∧ script.length ≤ 63 ∧ ∀ H', Q (.bl true) H'
section
variable {P : Program} {w : World} {K : PySem.W.Frag} {mg : Str → Option Value} {base : Heap} {AD : Ads}
abbrev N__check_context : List Str := ["context"]
theorem sc__check_context : FnScope N__check_context ["context"] (defScope s__check_context) := ⟨rfl, rfl, rfl, by decide +kernel, rfl, by decide +kernel, by decide +kernel⟩
theorem ok__check_context (D : DefIn K mg "_check_context" s__check_context ["context"]) (T : Txt K mg AD)  : Cal P w K mg base 1 "_check_context" (sp__check_context K AD) := by
  refine D.ok sc__check_context (fun vs H Q E h => ?_) (fun f cdv A_ outer s H vs Q E hr h => ?_)
  · obtain ⟨context, rfl, _⟩ := h
    rfl
  · obtain ⟨context, rfl, pre0, pre1, k⟩ := h
    refine ⟨_, (pss_one (ps_if (pt_not (pt_chain op_le op_lt pe_int (pv 0) (C8.pe_gc rfl T.g_CONTEXTS))) (pss_one ps_never) pss_nil)), ?_⟩
    have S0 := Sep.start0 H
    refine ⟨_, rfl, _, _, rfl, rfl, _, rfl, ?_⟩
    refine iteDT (show 0 ≤ context from by omega) ?_
    refine ⟨_, _, rfl, rfl, _, rfl, ?_⟩
    refine iteNF (show context < 256 from by omega) ?_
    exact k

abbrev N__check_decision : List Str := ["decision"]
theorem sc__check_decision : FnScope N__check_decision ["decision"] (defScope s__check_decision) := ⟨rfl, rfl, rfl, by decide +kernel, rfl, by decide +kernel, by decide +kernel⟩
theorem ok__check_decision (D : DefIn K mg "_check_decision" s__check_decision ["decision"]) (T : Txt K mg AD)  : Cal P w K mg base 1 "_check_decision" (sp__check_decision K AD) := by
  refine D.ok sc__check_decision (fun vs H Q E h => ?_) (fun f cdv A_ outer s H vs Q E hr h => ?_)
  · obtain ⟨decision, rfl, _⟩ := h
    rfl
  · obtain ⟨decision, rfl, pre0, pre1, k⟩ := h
    refine ⟨_, (pss_one (ps_if (pt_not (pt_chain op_le op_le pe_int (pv 0) pe_int)) (pss_one ps_never) pss_nil)), ?_⟩
    have S0 := Sep.start0 H
    refine ⟨_, rfl, _, _, rfl, rfl, _, rfl, ?_⟩
    refine iteDT (show 0 ≤ decision from by omega) ?_
    refine ⟨_, _, rfl, rfl, _, rfl, ?_⟩
    refine iteNF (show decision ≤ 1 from by omega) ?_
    exact k

abbrev N__adapted : List Str := ["chance", "decision"]
theorem sc__adapted : FnScope N__adapted ["chance", "decision"] (defScope s__adapted) := ⟨rfl, rfl, rfl, by decide +kernel, rfl, by decide +kernel, by decide +kernel⟩
theorem ok__adapted (D : DefIn K mg "_adapted" s__adapted ["chance", "decision"]) (T : Txt K mg AD)  : Cal P w K mg base 1 "_adapted" (sp__adapted K AD) := by
  refine D.ok sc__adapted (fun vs H Q E h => ?_) (fun f cdv A_ outer s H vs Q E hr h => ?_)
  · obtain ⟨chance, decision, rfl, _⟩ := h
    rfl
  · obtain ⟨chance, decision, rfl, k⟩ := h
    refine ⟨_, (pss_cons (ps_if (pt_cmp (pc_eqI (pv 1) pe_int)) (pss_one (ps_ret (pe_op op_add (pv 0) (pe_op op_shr (pe_op op_sub (C8.pe_gc rfl T.g_SCALE) (pv 0)) (C8.pe_gc rfl T.g_RATE))))) pss_nil)
      (pss_one (ps_ret (pe_op op_sub (pv 0) (pe_op op_shr (pv 0) (C8.pe_gc rfl T.g_RATE)))))), ?_⟩
    have S0 := Sep.start0 H
    refine ⟨_, rfl, _, _, rfl, rfl, _, rfl, ?_⟩
    refine iteD (fun c1 => ?_) (fun c1 => ?_)
    · have c1 : (decision : Int) = 0 := c1
      refine ⟨_, rfl, _, rfl, _, _, rfl, rfl, _, _, rfl, rfl, (show (0 : Int) ≤ 5 by decide), _, _, rfl, rfl, ?_⟩
      exact eq_int k (by simp [adaptE, *])
    · have c1 : ¬ ((decision : Int) = 0) := c1
      refine ⟨_, rfl, _, rfl, _, _, rfl, rfl, (show (0 : Int) ≤ 5 by decide), _, _, rfl, rfl, ?_⟩
      exact eq_int k (by simp [adaptE, *])

abbrev N_Encoder___init__ : List Str := ["self"]
theorem sc_Encoder___init__ : FnScope N_Encoder___init__ ["self"] (defScope s_Encoder___init__) := ⟨rfl, rfl, rfl, by decide +kernel, rfl, by decide +kernel, by decide +kernel⟩
theorem ok_Encoder___init__ (D : InitIn K mg AD.c_Encoder "Encoder" "Encoder.__init__" s_Encoder___init__ ["self"]) (T : Txt K mg AD)  : MakC P w K mg base 1 "Encoder" AD.c_Encoder (sp_Encoder___init__ K AD) := by
  refine D.ok sc_Encoder___init__ (fun vs H Q E h => ?_) (fun f cdv A_ outer s H vs Q E hr h => ?_)
  · obtain ⟨p_self, dx_self, rfl, _⟩ := h
    rfl
  · obtain ⟨p_self, dx_self, rfl, h_self, k⟩ := h
    refine ⟨_, (pss_cons (ps_fld (pv 0) (pe_op op_rep (pe_lst (pa_cons (C8.pe_gc rfl T.g_EVEN) pa_nil)) (C8.pe_gc rfl T.g_CONTEXTS)) rfl)
      (pss_cons (ps_fld (pv 0) (pe_lst pa_nil) rfl)
      (pss_cons (ps_fld (pv 0) pe_int rfl)
      (pss_one (ps_fld (pv 0) (pe_op op_sub (C8.pe_gc rfl T.g_WORD) pe_int) rfl))))), ?_⟩
    have hM : ∀ a ∈ [p_self], H a ≠ none := (all_cons (some_ne h_self) all_nil)
    have S0 := Sep.start [p_self] H hM
    refine ⟨(by show 1 ≤ sizeLine; decide), fun p2 n3 => ?_⟩
    generalize g4 : upd H p2 _ = H5
    obtain ⟨e6, h7⟩ := gen_new n3 g4
    have h8 : H5 p2 = some (.lst (([2048] : (List Int)).map V.int)) := h7
    have fr9 := S0.free n3
    have S10 := S0.new n3 e6 h8 fr9
    refine ⟨_, _, _, rfl, rfl, h8, (by first | omega | decide), (by first | omega | decide), (rep_lenM (by first | omega | (simp only [List.length_map, List.length_append, List.length_take, List.length_range, List.length_cons, List.length_nil, repL_len]; omega))), fun p11 n12 => ?_⟩
    generalize g13 : upd H5 p11 _ = H14
    obtain ⟨e15, h16⟩ := gen_new n12 g13
    have h17 : H14 p11 = some (.lst ((repL ([2048]) (256) : (List Int)).map V.int)) := rep_map h16
    have fr18 := S10.free n12
    have S19 := S10.new n12 e15 h17 fr18
    have h20 := (e15 _ _ (e6 _ _ h_self))
    refine ⟨_, rfl, _, _, _, _, rfl, h20, T.cl_Encoder, T.n_Encoder__probabilities, (by show 0 < 1000; decide), ?_⟩
    generalize g21 : upd H14 p_self _ = H22
    obtain ⟨x23, h24⟩ := gen_mut g21
    have h25 : H22 p_self = some (.ins AD.c_Encoder dx_self [("_probabilities", V.ref p11)]) := h24
    have S26 := S19.mut1 x23 (.tail _ (.tail _ (.head _))) h25
    refine ⟨(by show 0 ≤ sizeLine; decide), fun p27 n28 => ?_⟩
    generalize g29 : upd H22 p27 _ = H30
    obtain ⟨e31, h32⟩ := gen_new n28 g29
    have h33 : H30 p27 = some (.lst (([] : (List Int)).map V.int)) := h32
    have fr34 := S26.free n28
    have S35 := S26.new n28 e31 h33 fr34
    have h36 := (e31 _ _ h25)
    refine ⟨_, rfl, _, _, _, _, rfl, h36, T.cl_Encoder, T.n_Encoder__front, (by show 1 < 1000; decide), ?_⟩
    generalize g37 : upd H30 p_self _ = H38
    obtain ⟨x39, h40⟩ := gen_mut g37
    have h41 : H38 p_self = some (.ins AD.c_Encoder dx_self [("_probabilities", V.ref p11), ("_front", V.ref p27)]) := h40
    have S42 := S35.mut1 x39 (.tail _ (.tail _ (.tail _ (.head _)))) h41
    refine ⟨_, rfl, _, _, _, _, rfl, h41, T.cl_Encoder, T.n_Encoder__low, (by show 2 < 1000; decide), ?_⟩
    generalize g43 : upd H38 p_self _ = H44
    obtain ⟨x45, h46⟩ := gen_mut g43
    have h47 : H44 p_self = some (.ins AD.c_Encoder dx_self [("_probabilities", V.ref p11), ("_front", V.ref p27), ("_low", V.int (0))]) := h46
    have S48 := S42.mut1 x45 (.tail _ (.tail _ (.tail _ (.head _)))) h47
    refine ⟨_, _, rfl, rfl, _, rfl, _, _, _, _, rfl, h47, T.cl_Encoder, T.n_Encoder__span, (by show 3 < 1000; decide), ?_⟩
    generalize g49 : upd H44 p_self _ = H50
    obtain ⟨x51, h52⟩ := gen_mut g49
    have h53 : H50 p_self = some (.ins AD.c_Encoder dx_self [("_probabilities", V.ref p11), ("_front", V.ref p27), ("_low", V.int (0)), ("_span", V.int ((4294967296 - 1)))]) := h52
    have S54 := S48.mut1 x51 (.tail _ (.tail _ (.tail _ (.head _)))) h53
    have h55 := (x51 _ _ (x45 _ _ (x39 _ _ (e31 _ _ (x23 _ _ h17 (ne_of_none (e6 _ _ h_self) n12).symm)) (ne_of_none (e6 _ _ h_self) n12).symm) (ne_of_none (e6 _ _ h_self) n12).symm) (ne_of_none (e6 _ _ h_self) n12).symm)
    have h56 := (x51 _ _ (x45 _ _ (x39 _ _ h33 (ne_of_none h25 n28).symm) (ne_of_none h25 n28).symm) (ne_of_none h25 n28).symm)
    have E57 : ((⟨repL ([2048]) (256), [], 0, (4294967296 - 1)⟩) : EncS) = encInit := by rfl
    exact k _ _ _ _ E57 (sameX_of S54.base) fr18 fr34 (ne_of_none (x23 _ _ h17 (ne_of_none (e6 _ _ h_self) n12).symm) n28) h53 h55 h56

abbrev N_Encoder__carry : List Str := ["self", "place"]
theorem sc_Encoder__carry : FnScope N_Encoder__carry ["self"] (defScope s_Encoder__carry) := ⟨rfl, rfl, rfl, by decide +kernel, rfl, by decide +kernel, by decide +kernel⟩
theorem ok_Encoder__carry (D : MethIn K AD.c_Encoder "Encoder._carry" "_carry" s_Encoder__carry ["self"]) (T : Txt K mg AD)  : MetC P w K mg base 1 AD.c_Encoder "_carry" (sp_Encoder__carry K AD) := by
  refine D.ok T.cl_Encoder sc_Encoder__carry (fun vs H Q E h => ?_) (fun f cdv A_ outer s H vs Q E hr h => ?_)
  · obtain ⟨p_self, dx_self, l_self_probs, l_self_front, self_, rfl, _⟩ := h
    rfl
  · obtain ⟨p_self, dx_self, l_self_probs, l_self_front, self_, rfl, h_self, h_self_probs, h_self_front, ne_self_0, pre0, pre1, k⟩ := h
    refine ⟨_, (pss_cons (ps_set (i := 1) sc_Encoder__carry.nd rfl (Or.inl rfl) (pe_op op_sub (pe_callB (call_lenLiK (K := K)) (by rfl) T.b_len (by decide +kernel) (pa_cons (fldK (K := K) (pv 0)) pa_nil)) pe_int))
      (pss_cons (ps_while PassesOwn.never (pt_cmp (pc_eqI (pe_ix (ix_listK (K := K)) (fldK (K := K) (pv 0)) (pv 1) (fun _ _ => rfl)) pe_int)) (pss_cons (ps_asg pe_int (pg_sub (fldK (K := K) (pv 0)) (pv 1) set_list))
      (pss_one (ps_aug (i := 1) sc_Encoder__carry.nd rfl (Or.inl rfl) pe_int (pip iop_sub)))))
      (pss_one (ps_augS (fldK (K := K) (pv 0)) (pv 1) (pget_list (K := K)) pe_int (pip iop_add) set_list)))), ?_⟩
    have hM : ∀ a ∈ [p_self, l_self_probs, l_self_front], H a ≠ none := (all_cons (some_ne h_self) (all_cons (some_ne h_self_probs) (all_cons (some_ne h_self_front) all_nil)))
    have S0 := Sep.start [p_self, l_self_probs, l_self_front] H hM
    refine ⟨_, rfl, _, _, _, _, _, rfl, h_self, T.cl_Encoder, T.n_Encoder__front, rfl, _, _, rfl, (SqL.of h_self_front), _, _, rfl, rfl, ⟨fun m σ H' => ∃ (self : EncS) (place : Int), σ = [some (V.ref p_self), some (V.int place)] ∧ Sep [p_self, l_self_probs, l_self_front] H (hideL [p_self, l_self_probs, l_self_front] H) (hideL [p_self, l_self_probs, l_self_front] H) H' [p_self, l_self_probs, l_self_front] ∧ H' p_self = some (.ins AD.c_Encoder dx_self [("_probabilities", V.ref l_self_probs), ("_front", V.ref l_self_front), ("_low", V.int (self.low)), ("_span", V.int (self.span))]) ∧ H' l_self_probs = some (.lst ((self.probs).map V.int)) ∧ H' l_self_front = some (.lst ((self.front).map V.int)) ∧ ((m = place.toNat) ∧ (self.probs = self_.probs ∧ self.low = self_.low ∧ self.span = self_.span ∧ ∃ (A : List Int) (x : Int) (j : Nat), self_.front = A ++ [x] ++ List.replicate j 255 ∧ self.front = A ++ [x] ++ List.replicate j 0 ∧ place = (A.length : Int))), ?_, ?_⟩⟩
    · refine ⟨_, self_, _, rfl, S0, h_self, h_self_probs, h_self_front, rfl, ?_⟩
      exact ⟨rfl, rfl, rfl, carry_start pre0⟩
    · intro m σ H58 hw
      obtain ⟨self, place, rfl, S59, h60, h61, h62, hu⟩ := hw
      obtain ⟨hm, hu⟩ := hu
      obtain ⟨hp, hlo, hsp, A, x, j, hf0, hf, hpl⟩ := hu
      have hin := mid_in hf hpl
      have hx := mid_at hf hpl
      refine ⟨_, rfl, _, _, _, _, _, rfl, h60, T.cl_Encoder, T.n_Encoder__front, rfl, _, rfl, _, _, _, _, rfl, rfl, (SqL.of h62), (atI_map (by exact hin)), _, _, rfl, rfl, _, rfl, ?_⟩
      refine iteD (fun c63 => ?_) (fun c63 => ?_)
      · have c63 : ((itD (self.front) (place)) : Int) = 255 := c63
        refine ⟨(fun σ H' => ∃ m', (∃ (self : EncS) (place : Int), σ = [some (V.ref p_self), some (V.int place)] ∧ Sep [p_self, l_self_probs, l_self_front] H (hideL [p_self, l_self_probs, l_self_front] H) (hideL [p_self, l_self_probs, l_self_front] H) H' [p_self, l_self_probs, l_self_front] ∧ H' p_self = some (.ins AD.c_Encoder dx_self [("_probabilities", V.ref l_self_probs), ("_front", V.ref l_self_front), ("_low", V.int (self.low)), ("_span", V.int (self.span))]) ∧ H' l_self_probs = some (.lst ((self.probs).map V.int)) ∧ H' l_self_front = some (.lst ((self.front).map V.int)) ∧ ((m' = place.toNat) ∧ (self.probs = self_.probs ∧ self.low = self_.low ∧ self.span = self_.span ∧ ∃ (A : List Int) (x : Int) (j : Nat), self_.front = A ++ [x] ++ List.replicate j 255 ∧ self.front = A ++ [x] ++ List.replicate j 0 ∧ place = (A.length : Int)))) ∧ m' < m), (fun _ _ ⟨m', a, b⟩ => ⟨m', b, a⟩), ?_⟩
        refine ⟨_, rfl, _, _, _, _, _, rfl, h60, T.cl_Encoder, T.n_Encoder__front, rfl, _, rfl, _, _, _, _, rfl, rfl, h62, (ixN_map (by exact hin)), ?_⟩
        generalize g64 : upd H58 l_self_front _ = H65
        obtain ⟨x66, h67⟩ := gen_mut g64
        have h68 : H65 l_self_front = some (.lst ((setL (self.front) (place) (0) : (List Int)).map V.int)) := set_map h67
        have S69 := S59.mut1 x66 (.tail _ (.tail _ (.head _))) h68
        refine ⟨_, rfl, _, _, rfl, rfl, ?_⟩
        have h70 := (x66 _ _ h60 (ne_of h60 h62 (fun z => nomatch z)))
        have h71 := (x66 _ _ h61 ne_self_0)
        refine ⟨_, ⟨⟨self.probs, setL (self.front) (place) (0), self.low, self.span⟩, _, rfl, S69, h70, h71, h68, rfl, ?_⟩, ?_⟩
        · exact ⟨hp, hlo, hsp, carry_turn pre0 hf0 hf hpl (hx.symm.trans ‹_›)⟩
        · rw [hm]
          exact carry_less pre0 hf0 hpl (hx.symm.trans ‹_›)
      · have c63 : ¬ (((itD (self.front) (place)) : Int) = 255) := c63
        refine ⟨_, rfl, _, _, _, _, _, rfl, h60, T.cl_Encoder, T.n_Encoder__front, rfl, _, rfl, _, _, _, _, rfl, rfl, (SqL.of h62), (by omega), (by rw [hf0] at pre1; simp only [List.length_append, List.length_cons, List.length_nil] at pre1; omega), (atI_map (by exact hin)), _, _, rfl, rfl, _, _, _, _, rfl, rfl, h62, (ixN_map (by exact hin)), ?_⟩
        generalize g72 : upd H58 l_self_front _ = H73
        obtain ⟨x74, h75⟩ := gen_mut g72
        have h76 : H73 l_self_front = some (.lst ((setL (self.front) (place) (((itD (self.front) (place)) + 1)) : (List Int)).map V.int)) := set_map h75
        have S77 := S59.mut1 x74 (.tail _ (.tail _ (.head _))) h76
        have h78 := (x74 _ _ h60 (ne_of h60 h62 (fun z => nomatch z)))
        have h79 := (x74 _ _ h61 ne_self_0)
        have E80 : ((⟨self.probs, setL (self.front) (place) (((itD (self.front) (place)) + 1)), self.low, self.span⟩) : EncS) = (⟨self_.probs, incE self_.front, self_.low, self_.span⟩ : EncS) := by rw [← hp, ← hlo, ← hsp]; congr 1; exact carry_end hf0 hf hpl (fun z => ‹¬ _› (hx.trans z))
        exact (k _ _ E80 S77.base h78 h79 h76)

abbrev N_Encoder__narrow : List Str := ["self", "chance", "decision", "part"]
theorem sc_Encoder__narrow : FnScope N_Encoder__narrow ["self", "chance", "decision"] (defScope s_Encoder__narrow) := ⟨rfl, rfl, rfl, by decide +kernel, rfl, by decide +kernel, by decide +kernel⟩
theorem ok_Encoder__narrow (D : MethIn K AD.c_Encoder "Encoder._narrow" "_narrow" s_Encoder__narrow ["self", "chance", "decision"]) (T : Txt K mg AD) (c_Encoder__carry : MetC P w K mg base 1 AD.c_Encoder "_carry" (sp_Encoder__carry K AD)) : MetC P w K mg base 2 AD.c_Encoder "_narrow" (sp_Encoder__narrow K AD) := by
  refine D.ok T.cl_Encoder sc_Encoder__narrow (fun vs H Q E h => ?_) (fun f cdv A_ outer s H vs Q E hr h => ?_)
  · obtain ⟨p_self, dx_self, l_self_probs, l_self_front, self_, chance, decision, rfl, _⟩ := h
    rfl
  · obtain ⟨p_self, dx_self, l_self_probs, l_self_front, self_, chance, decision, rfl, h_self, h_self_probs, h_self_front, ne_self_0, pre0, pre1, pre2, k⟩ := h
    refine ⟨_, (pss_cons (ps_set (i := 3) sc_Encoder__narrow.nd rfl (Or.inl rfl) (pe_op op_mul (pe_op op_shr (fldK (K := K) (pv 0)) (C8.pe_gc rfl T.g_SCALE_BITS)) (pv 1)))
      (pss_cons (ps_if (pt_cmp (pc_eqI (pv 2) pe_int)) (pss_one (ps_fld (pv 0) (pv 3) rfl)) (pss_cons (ps_fldaug (pv 0) (pv 3) (pip iop_sub))
      (pss_cons (ps_fldaug (pv 0) (pv 3) (pip iop_add))
      (pss_one (ps_if (pt_cmp (pc_ge (fldK (K := K) (pv 0)) (C8.pe_gc rfl T.g_WORD))) (pss_cons (ps_fldaug (pv 0) (C8.pe_gc rfl T.g_WORD) (pip iop_sub))
      (pss_one (ps_expr (vx_meth0 c_Encoder__carry hr (by decide) (pv 0))))) pss_nil)))))
      (pss_one (ps_while PassesOwn.never (pt_cmp (pc_lt (fldK (K := K) (pv 0)) (C8.pe_gc rfl T.g_LEAST_SPAN))) (pss_cons (ps_expr (pe_bm PySem.F.plainAttrs_list PySem.F.slot_list_append PySem.F.type_list_append mt_append (fldK (K := K) (pv 0)) (pa_cons (pe_op op_shr (fldK (K := K) (pv 0)) pe_int) pa_nil)))
      (pss_cons (ps_fld (pv 0) (pe_op op_and (pe_op op_shlW (fldK (K := K) (pv 0)) pe_int) (pe_op op_sub (C8.pe_gc rfl T.g_WORD) pe_int)) rfl)
      (pss_one (ps_fldaug (pv 0) pe_int (pip iop_shlW))))))))), ?_⟩
    have hM : ∀ a ∈ [p_self, l_self_probs, l_self_front], H a ≠ none := (all_cons (some_ne h_self) (all_cons (some_ne h_self_probs) (all_cons (some_ne h_self_front) all_nil)))
    have S0 := Sep.start [p_self, l_self_probs, l_self_front] H hM
    have hpre := encPre_ok pre0 pre1 decision
    refine ⟨_, rfl, _, _, _, _, _, rfl, h_self, T.cl_Encoder, T.n_Encoder__span, rfl, _, _, rfl, rfl, (show (0 : Int) ≤ 12 by decide), _, rfl, _, _, rfl, rfl, (by exact .inr ⟨by omega, by omega⟩), _, rfl, _, _, rfl, rfl, _, rfl, ?_⟩
    refine iteD (fun c81 => ?_) (fun c81 => ?_)
    · have c81 : (decision : Int) = 0 := c81
      refine ⟨_, rfl, _, rfl, _, _, _, _, rfl, h_self, T.cl_Encoder, T.n_Encoder__span, (by show 4 < 1000; decide), ?_⟩
      generalize g82 : upd H p_self _ = H83
      obtain ⟨x84, h85⟩ := gen_mut g82
      have h86 : H83 p_self = some (.ins AD.c_Encoder dx_self [("_probabilities", V.ref l_self_probs), ("_front", V.ref l_self_front), ("_low", V.int (self_.low)), ("_span", V.int (((self_.span / 4096) * chance)))]) := h85
      have S87 := S0.mut1 x84 (.head _) h86
      refine ⟨fun m σ H' => ∃ (self : EncS), σ = [some (V.ref p_self), some (V.int (chance)), some (V.int (decision)), some (V.int (((self_.span / 4096) * chance)))] ∧ Sep [p_self, l_self_probs, l_self_front] H (hideL [p_self, l_self_probs, l_self_front] H) (hideL [p_self, l_self_probs, l_self_front] H) H' [p_self, l_self_probs, l_self_front] ∧ H' p_self = some (.ins AD.c_Encoder dx_self [("_probabilities", V.ref l_self_probs), ("_front", V.ref l_self_front), ("_low", V.int (self.low)), ("_span", V.int (self.span))]) ∧ H' l_self_probs = some (.lst ((self.probs).map V.int)) ∧ H' l_self_front = some (.lst ((self.front).map V.int)) ∧ ((m = (16777216 - self.span).toNat) ∧ (self = encPre self_ chance decision ∨ (self = encNorm1 (encPre self_ chance decision) ∧ (encPre self_ chance decision).span < 16777216 ∧ 16777216 ≤ self.span))), ?_, ?_⟩
      · have h88 := (x84 _ _ h_self_probs (ne_of h_self_probs h_self (fun z => nomatch z)))
        have h89 := (x84 _ _ h_self_front (ne_of h_self_front h_self (fun z => nomatch z)))
        refine ⟨_, ⟨self_.probs, self_.front, self_.low, ((self_.span / 4096) * chance)⟩, rfl, S87, h86, h88, h89, rfl, ?_⟩
        left
        simp [encPre, *]
      · intro m σ H90 hw
        obtain ⟨self, rfl, S91, h92, h93, h94, hu⟩ := hw
        obtain ⟨hm, hu⟩ := hu
        refine ⟨_, rfl, _, _, _, _, _, rfl, h92, T.cl_Encoder, T.n_Encoder__span, rfl, _, _, rfl, rfl, _, rfl, ?_⟩
        refine iteD (fun c95 => ?_) (fun c95 => ?_)
        · have c95 : self.span < 16777216 := c95
          have hs : self = encPre self_ chance decision := by
            rcases hu with h | h
            · exact h
            · omega
          refine ⟨(fun σ H' => ∃ m', (∃ (self : EncS), σ = [some (V.ref p_self), some (V.int (chance)), some (V.int (decision)), some (V.int (((self_.span / 4096) * chance)))] ∧ Sep [p_self, l_self_probs, l_self_front] H (hideL [p_self, l_self_probs, l_self_front] H) (hideL [p_self, l_self_probs, l_self_front] H) H' [p_self, l_self_probs, l_self_front] ∧ H' p_self = some (.ins AD.c_Encoder dx_self [("_probabilities", V.ref l_self_probs), ("_front", V.ref l_self_front), ("_low", V.int (self.low)), ("_span", V.int (self.span))]) ∧ H' l_self_probs = some (.lst ((self.probs).map V.int)) ∧ H' l_self_front = some (.lst ((self.front).map V.int)) ∧ ((m' = (16777216 - self.span).toNat) ∧ (self = encPre self_ chance decision ∨ (self = encNorm1 (encPre self_ chance decision) ∧ (encPre self_ chance decision).span < 16777216 ∧ 16777216 ≤ self.span)))) ∧ m' < m), (fun _ _ ⟨m', a, b⟩ => ⟨m', b, a⟩), ?_⟩
          refine ⟨_, rfl, _, _, _, _, _, rfl, h92, T.cl_Encoder, T.n_Encoder__front, rfl, (.inl ⟨rfl, _, SqL.of h94⟩), _, rfl, _, _, _, _, _, rfl, h92, T.cl_Encoder, T.n_Encoder__low, rfl, _, _, rfl, rfl, (show (0 : Int) ≤ 24 by decide), _, _, _, rfl, rfl, h94, (app_lenM (by rw [hs]; have := len_pre self_ chance decision; omega)), ?_⟩
          generalize g96 : upd H90 l_self_front _ = H97
          obtain ⟨x98, h99⟩ := gen_mut g96
          have h100 : H97 l_self_front = some (.lst (((self.front) ++ [(self.low / 16777216)] : (List Int)).map V.int)) := snoc_map h99
          have S101 := S91.mut1 x98 (.tail _ (.tail _ (.head _))) h100
          have h102 := (x98 _ _ h92 (ne_of h92 h94 (fun z => nomatch z)))
          refine ⟨_, rfl, _, _, _, _, _, rfl, h102, T.cl_Encoder, T.n_Encoder__low, rfl, _, _, rfl, rfl, (by exact shl32 (by rw [hs]; exact hpre.low) (by decide)), _, _, rfl, rfl, _, _, rfl, rfl, _, rfl, _, _, _, _, rfl, h102, T.cl_Encoder, T.n_Encoder__low, (by show 4 < 1000; decide), ?_⟩
          generalize g103 : upd H97 p_self _ = H104
          obtain ⟨x105, h106⟩ := gen_mut g103
          have h107 : H104 p_self = some (.ins AD.c_Encoder dx_self [("_probabilities", V.ref l_self_probs), ("_front", V.ref l_self_front), ("_low", V.int ((PySem.Builtin.bitAnd ((self.low * 256)) ((4294967296 - 1))))), ("_span", V.int (self.span))]) := h106
          have S108 := S101.mut1 x105 (.head _) h107
          refine ⟨_, rfl, _, _, _, _, _, rfl, h107, T.cl_Encoder, T.n_Encoder__span, rfl, _, _, rfl, rfl, (by exact shl32 (by have := hpre.span0; rw [← hs] at this; omega) (by decide)), _, _, h107, (by show 4 < 1000; decide), ?_⟩
          generalize g109 : upd H104 p_self _ = H110
          obtain ⟨x111, h112⟩ := gen_mut g109
          have h113 : H110 p_self = some (.ins AD.c_Encoder dx_self [("_probabilities", V.ref l_self_probs), ("_front", V.ref l_self_front), ("_low", V.int ((PySem.Builtin.bitAnd ((self.low * 256)) ((4294967296 - 1))))), ("_span", V.int ((self.span * 256)))]) := h112
          have S114 := S108.mut1 x111 (.head _) h113
          have h115 := (x111 _ _ (x105 _ _ (x98 _ _ h93 ne_self_0) (ne_of h93 h92 (fun z => nomatch z))) (ne_of h93 h92 (fun z => nomatch z)))
          have h116 := (x111 _ _ (x105 _ _ h100 (ne_of h100 h102 (fun z => nomatch z))) (ne_of h100 h102 (fun z => nomatch z)))
          refine ⟨_, ⟨⟨self.probs, (self.front) ++ [(self.low / 16777216)], (PySem.Builtin.bitAnd ((self.low * 256)) ((4294967296 - 1))), (self.span * 256)⟩, rfl, S114, h113, h115, h116, rfl, ?_⟩, ?_⟩
          · right
            rw [hs]
            exact ⟨encNorm_eq _, by rw [← hs]; omega, norm_span hpre⟩
          · rw [hm]
            have := hpre.span0
            rw [← hs] at this
            show (16777216 - self.span * 256).toNat < (16777216 - self.span).toNat
            omega
        · have c95 : ¬ (self.span < 16777216) := c95
          have hs : self = encNarrow self_ chance decision := by
            unfold encNarrow encNorm
            rcases hu with h | h
            · rw [if_neg (by rw [← h]; omega)]; exact h
            · rw [if_pos h.2.1]; exact h.1
          have E117 : ((⟨self.probs, self.front, self.low, self.span⟩) : EncS) = encNarrow self_ chance decision := by exact hs
          exact (k _ _ E117 S91.base h92 h93 h94)
    · have c81 : ¬ ((decision : Int) = 0) := c81
      refine ⟨_, rfl, _, _, _, _, _, rfl, h_self, T.cl_Encoder, T.n_Encoder__span, rfl, _, rfl, _, _, rfl, rfl, _, _, h_self, (by show 4 < 1000; decide), ?_⟩
      generalize g118 : upd H p_self _ = H119
      obtain ⟨x120, h121⟩ := gen_mut g118
      have h122 : H119 p_self = some (.ins AD.c_Encoder dx_self [("_probabilities", V.ref l_self_probs), ("_front", V.ref l_self_front), ("_low", V.int (self_.low)), ("_span", V.int ((self_.span - ((self_.span / 4096) * chance))))]) := h121
      have S123 := S0.mut1 x120 (.head _) h122
      refine ⟨_, rfl, _, _, _, _, _, rfl, h122, T.cl_Encoder, T.n_Encoder__low, rfl, _, rfl, _, _, rfl, rfl, _, _, h122, (by show 4 < 1000; decide), ?_⟩
      generalize g124 : upd H119 p_self _ = H125
      obtain ⟨x126, h127⟩ := gen_mut g124
      have h128 : H125 p_self = some (.ins AD.c_Encoder dx_self [("_probabilities", V.ref l_self_probs), ("_front", V.ref l_self_front), ("_low", V.int ((self_.low + ((self_.span / 4096) * chance)))), ("_span", V.int ((self_.span - ((self_.span / 4096) * chance))))]) := h127
      have S129 := S123.mut1 x126 (.head _) h128
      refine ⟨_, rfl, _, _, _, _, _, rfl, h128, T.cl_Encoder, T.n_Encoder__low, rfl, _, _, rfl, rfl, _, rfl, ?_⟩
      refine iteD (fun c130 => ?_) (fun c130 => ?_)
      · have c130 : 4294967296 ≤ (self_.low + ((self_.span / 4096) * chance)) := c130
        refine ⟨_, rfl, _, _, _, _, _, rfl, h128, T.cl_Encoder, T.n_Encoder__low, rfl, _, _, rfl, rfl, _, _, h128, (by show 4 < 1000; decide), ?_⟩
        generalize g131 : upd H125 p_self _ = H132
        obtain ⟨x133, h134⟩ := gen_mut g131
        have h135 : H132 p_self = some (.ins AD.c_Encoder dx_self [("_probabilities", V.ref l_self_probs), ("_front", V.ref l_self_front), ("_low", V.int (((self_.low + ((self_.span / 4096) * chance)) - 4294967296))), ("_span", V.int ((self_.span - ((self_.span / 4096) * chance))))]) := h134
        have S136 := S129.mut1 x133 (.head _) h135
        have h137 := (x133 _ _ (x126 _ _ (x120 _ _ h_self_probs (ne_of h_self_probs h_self (fun z => nomatch z))) (ne_of h_self_probs h_self (fun z => nomatch z))) (ne_of h_self_probs h_self (fun z => nomatch z)))
        have h138 := (x133 _ _ (x126 _ _ (x120 _ _ h_self_front (ne_of h_self_front h_self (fun z => nomatch z))) (ne_of h_self_front h_self (fun z => nomatch z))) (ne_of h_self_front h_self (fun z => nomatch z)))
        refine ⟨_, rfl, _, _, _, rfl, h135, rfl, _, _, _, _, (⟨self_.probs, self_.front, ((self_.low + ((self_.span / 4096) * chance)) - 4294967296), (self_.span - ((self_.span / 4096) * chance))⟩ : EncS), rfl, h135, h137, h138, ne_self_0, (by first | (show ∃ y ∈ self_.front, y ≠ 255; exact carry_pre pre0 pre1 ‹_›) | (show self_.front.length ≤ 100000; omega)), (by first | (show ∃ y ∈ self_.front, y ≠ 255; exact carry_pre pre0 pre1 ‹_›) | (show self_.front.length ≤ 100000; omega)), fun H139 s140 q141 x142 h143 h145 h146  => ?_⟩
        have S144 := S136.mut x142 (all_cons (.head _) (all_cons (.tail _ (.head _)) (all_cons (.tail _ (.tail _ (.head _))) all_nil))) (all_cons (some_ne h143) (all_cons (some_ne h145) (all_cons (some_ne h146) all_nil)))
        refine ⟨fun m σ H' => ∃ (self : EncS), σ = [some (V.ref p_self), some (V.int (chance)), some (V.int (decision)), some (V.int (((self_.span / 4096) * chance)))] ∧ Sep [p_self, l_self_probs, l_self_front] H (hideL [p_self, l_self_probs, l_self_front] H) (hideL [p_self, l_self_probs, l_self_front] H) H' [p_self, l_self_probs, l_self_front] ∧ H' p_self = some (.ins AD.c_Encoder dx_self [("_probabilities", V.ref l_self_probs), ("_front", V.ref l_self_front), ("_low", V.int (self.low)), ("_span", V.int (self.span))]) ∧ H' l_self_probs = some (.lst ((self.probs).map V.int)) ∧ H' l_self_front = some (.lst ((self.front).map V.int)) ∧ ((m = (16777216 - self.span).toNat) ∧ (self = encPre self_ chance decision ∨ (self = encNorm1 (encPre self_ chance decision) ∧ (encPre self_ chance decision).span < 16777216 ∧ 16777216 ≤ self.span))), ?_, ?_⟩
        · refine ⟨_, s140, rfl, S144, h143, h145, h146, rfl, ?_⟩
          left
          simp [encPre, *]
        · intro m σ H147 hw
          obtain ⟨self, rfl, S148, h149, h150, h151, hu⟩ := hw
          obtain ⟨hm, hu⟩ := hu
          refine ⟨_, rfl, _, _, _, _, _, rfl, h149, T.cl_Encoder, T.n_Encoder__span, rfl, _, _, rfl, rfl, _, rfl, ?_⟩
          refine iteD (fun c152 => ?_) (fun c152 => ?_)
          · have c152 : self.span < 16777216 := c152
            have hs : self = encPre self_ chance decision := by
              rcases hu with h | h
              · exact h
              · omega
            refine ⟨(fun σ H' => ∃ m', (∃ (self : EncS), σ = [some (V.ref p_self), some (V.int (chance)), some (V.int (decision)), some (V.int (((self_.span / 4096) * chance)))] ∧ Sep [p_self, l_self_probs, l_self_front] H (hideL [p_self, l_self_probs, l_self_front] H) (hideL [p_self, l_self_probs, l_self_front] H) H' [p_self, l_self_probs, l_self_front] ∧ H' p_self = some (.ins AD.c_Encoder dx_self [("_probabilities", V.ref l_self_probs), ("_front", V.ref l_self_front), ("_low", V.int (self.low)), ("_span", V.int (self.span))]) ∧ H' l_self_probs = some (.lst ((self.probs).map V.int)) ∧ H' l_self_front = some (.lst ((self.front).map V.int)) ∧ ((m' = (16777216 - self.span).toNat) ∧ (self = encPre self_ chance decision ∨ (self = encNorm1 (encPre self_ chance decision) ∧ (encPre self_ chance decision).span < 16777216 ∧ 16777216 ≤ self.span)))) ∧ m' < m), (fun _ _ ⟨m', a, b⟩ => ⟨m', b, a⟩), ?_⟩
            refine ⟨_, rfl, _, _, _, _, _, rfl, h149, T.cl_Encoder, T.n_Encoder__front, rfl, (.inl ⟨rfl, _, SqL.of h151⟩), _, rfl, _, _, _, _, _, rfl, h149, T.cl_Encoder, T.n_Encoder__low, rfl, _, _, rfl, rfl, (show (0 : Int) ≤ 24 by decide), _, _, _, rfl, rfl, h151, (app_lenM (by rw [hs]; have := len_pre self_ chance decision; omega)), ?_⟩
            generalize g153 : upd H147 l_self_front _ = H154
            obtain ⟨x155, h156⟩ := gen_mut g153
            have h157 : H154 l_self_front = some (.lst (((self.front) ++ [(self.low / 16777216)] : (List Int)).map V.int)) := snoc_map h156
            have S158 := S148.mut1 x155 (.tail _ (.tail _ (.head _))) h157
            have h159 := (x155 _ _ h149 (ne_of h149 h151 (fun z => nomatch z)))
            refine ⟨_, rfl, _, _, _, _, _, rfl, h159, T.cl_Encoder, T.n_Encoder__low, rfl, _, _, rfl, rfl, (by exact shl32 (by rw [hs]; exact hpre.low) (by decide)), _, _, rfl, rfl, _, _, rfl, rfl, _, rfl, _, _, _, _, rfl, h159, T.cl_Encoder, T.n_Encoder__low, (by show 4 < 1000; decide), ?_⟩
            generalize g160 : upd H154 p_self _ = H161
            obtain ⟨x162, h163⟩ := gen_mut g160
            have h164 : H161 p_self = some (.ins AD.c_Encoder dx_self [("_probabilities", V.ref l_self_probs), ("_front", V.ref l_self_front), ("_low", V.int ((PySem.Builtin.bitAnd ((self.low * 256)) ((4294967296 - 1))))), ("_span", V.int (self.span))]) := h163
            have S165 := S158.mut1 x162 (.head _) h164
            refine ⟨_, rfl, _, _, _, _, _, rfl, h164, T.cl_Encoder, T.n_Encoder__span, rfl, _, _, rfl, rfl, (by exact shl32 (by have := hpre.span0; rw [← hs] at this; omega) (by decide)), _, _, h164, (by show 4 < 1000; decide), ?_⟩
            generalize g166 : upd H161 p_self _ = H167
            obtain ⟨x168, h169⟩ := gen_mut g166
            have h170 : H167 p_self = some (.ins AD.c_Encoder dx_self [("_probabilities", V.ref l_self_probs), ("_front", V.ref l_self_front), ("_low", V.int ((PySem.Builtin.bitAnd ((self.low * 256)) ((4294967296 - 1))))), ("_span", V.int ((self.span * 256)))]) := h169
            have S171 := S165.mut1 x168 (.head _) h170
            have h172 := (x168 _ _ (x162 _ _ (x155 _ _ h150 ne_self_0) (ne_of h150 h149 (fun z => nomatch z))) (ne_of h150 h149 (fun z => nomatch z)))
            have h173 := (x168 _ _ (x162 _ _ h157 (ne_of h157 h159 (fun z => nomatch z))) (ne_of h157 h159 (fun z => nomatch z)))
            refine ⟨_, ⟨⟨self.probs, (self.front) ++ [(self.low / 16777216)], (PySem.Builtin.bitAnd ((self.low * 256)) ((4294967296 - 1))), (self.span * 256)⟩, rfl, S171, h170, h172, h173, rfl, ?_⟩, ?_⟩
            · right
              rw [hs]
              exact ⟨encNorm_eq _, by rw [← hs]; omega, norm_span hpre⟩
            · rw [hm]
              have := hpre.span0
              rw [← hs] at this
              show (16777216 - self.span * 256).toNat < (16777216 - self.span).toNat
              omega
          · have c152 : ¬ (self.span < 16777216) := c152
            have hs : self = encNarrow self_ chance decision := by
              unfold encNarrow encNorm
              rcases hu with h | h
              · rw [if_neg (by rw [← h]; omega)]; exact h
              · rw [if_pos h.2.1]; exact h.1
            have E174 : ((⟨self.probs, self.front, self.low, self.span⟩) : EncS) = encNarrow self_ chance decision := by exact hs
            exact (k _ _ E174 S148.base h149 h150 h151)
      · have c130 : ¬ (4294967296 ≤ (self_.low + ((self_.span / 4096) * chance))) := c130
        refine ⟨fun m σ H' => ∃ (self : EncS), σ = [some (V.ref p_self), some (V.int (chance)), some (V.int (decision)), some (V.int (((self_.span / 4096) * chance)))] ∧ Sep [p_self, l_self_probs, l_self_front] H (hideL [p_self, l_self_probs, l_self_front] H) (hideL [p_self, l_self_probs, l_self_front] H) H' [p_self, l_self_probs, l_self_front] ∧ H' p_self = some (.ins AD.c_Encoder dx_self [("_probabilities", V.ref l_self_probs), ("_front", V.ref l_self_front), ("_low", V.int (self.low)), ("_span", V.int (self.span))]) ∧ H' l_self_probs = some (.lst ((self.probs).map V.int)) ∧ H' l_self_front = some (.lst ((self.front).map V.int)) ∧ ((m = (16777216 - self.span).toNat) ∧ (self = encPre self_ chance decision ∨ (self = encNorm1 (encPre self_ chance decision) ∧ (encPre self_ chance decision).span < 16777216 ∧ 16777216 ≤ self.span))), ?_, ?_⟩
        · have h175 := (x126 _ _ (x120 _ _ h_self_probs (ne_of h_self_probs h_self (fun z => nomatch z))) (ne_of h_self_probs h_self (fun z => nomatch z)))
          have h176 := (x126 _ _ (x120 _ _ h_self_front (ne_of h_self_front h_self (fun z => nomatch z))) (ne_of h_self_front h_self (fun z => nomatch z)))
          refine ⟨_, ⟨self_.probs, self_.front, (self_.low + ((self_.span / 4096) * chance)), (self_.span - ((self_.span / 4096) * chance))⟩, rfl, S129, h128, h175, h176, rfl, ?_⟩
          left
          simp [encPre, *]
        · intro m σ H177 hw
          obtain ⟨self, rfl, S178, h179, h180, h181, hu⟩ := hw
          obtain ⟨hm, hu⟩ := hu
          refine ⟨_, rfl, _, _, _, _, _, rfl, h179, T.cl_Encoder, T.n_Encoder__span, rfl, _, _, rfl, rfl, _, rfl, ?_⟩
          refine iteD (fun c182 => ?_) (fun c182 => ?_)
          · have c182 : self.span < 16777216 := c182
            have hs : self = encPre self_ chance decision := by
              rcases hu with h | h
              · exact h
              · omega
            refine ⟨(fun σ H' => ∃ m', (∃ (self : EncS), σ = [some (V.ref p_self), some (V.int (chance)), some (V.int (decision)), some (V.int (((self_.span / 4096) * chance)))] ∧ Sep [p_self, l_self_probs, l_self_front] H (hideL [p_self, l_self_probs, l_self_front] H) (hideL [p_self, l_self_probs, l_self_front] H) H' [p_self, l_self_probs, l_self_front] ∧ H' p_self = some (.ins AD.c_Encoder dx_self [("_probabilities", V.ref l_self_probs), ("_front", V.ref l_self_front), ("_low", V.int (self.low)), ("_span", V.int (self.span))]) ∧ H' l_self_probs = some (.lst ((self.probs).map V.int)) ∧ H' l_self_front = some (.lst ((self.front).map V.int)) ∧ ((m' = (16777216 - self.span).toNat) ∧ (self = encPre self_ chance decision ∨ (self = encNorm1 (encPre self_ chance decision) ∧ (encPre self_ chance decision).span < 16777216 ∧ 16777216 ≤ self.span)))) ∧ m' < m), (fun _ _ ⟨m', a, b⟩ => ⟨m', b, a⟩), ?_⟩
            refine ⟨_, rfl, _, _, _, _, _, rfl, h179, T.cl_Encoder, T.n_Encoder__front, rfl, (.inl ⟨rfl, _, SqL.of h181⟩), _, rfl, _, _, _, _, _, rfl, h179, T.cl_Encoder, T.n_Encoder__low, rfl, _, _, rfl, rfl, (show (0 : Int) ≤ 24 by decide), _, _, _, rfl, rfl, h181, (app_lenM (by rw [hs]; have := len_pre self_ chance decision; omega)), ?_⟩
            generalize g183 : upd H177 l_self_front _ = H184
            obtain ⟨x185, h186⟩ := gen_mut g183
            have h187 : H184 l_self_front = some (.lst (((self.front) ++ [(self.low / 16777216)] : (List Int)).map V.int)) := snoc_map h186
            have S188 := S178.mut1 x185 (.tail _ (.tail _ (.head _))) h187
            have h189 := (x185 _ _ h179 (ne_of h179 h181 (fun z => nomatch z)))
            refine ⟨_, rfl, _, _, _, _, _, rfl, h189, T.cl_Encoder, T.n_Encoder__low, rfl, _, _, rfl, rfl, (by exact shl32 (by rw [hs]; exact hpre.low) (by decide)), _, _, rfl, rfl, _, _, rfl, rfl, _, rfl, _, _, _, _, rfl, h189, T.cl_Encoder, T.n_Encoder__low, (by show 4 < 1000; decide), ?_⟩
            generalize g190 : upd H184 p_self _ = H191
            obtain ⟨x192, h193⟩ := gen_mut g190
            have h194 : H191 p_self = some (.ins AD.c_Encoder dx_self [("_probabilities", V.ref l_self_probs), ("_front", V.ref l_self_front), ("_low", V.int ((PySem.Builtin.bitAnd ((self.low * 256)) ((4294967296 - 1))))), ("_span", V.int (self.span))]) := h193
            have S195 := S188.mut1 x192 (.head _) h194
            refine ⟨_, rfl, _, _, _, _, _, rfl, h194, T.cl_Encoder, T.n_Encoder__span, rfl, _, _, rfl, rfl, (by exact shl32 (by have := hpre.span0; rw [← hs] at this; omega) (by decide)), _, _, h194, (by show 4 < 1000; decide), ?_⟩
            generalize g196 : upd H191 p_self _ = H197
            obtain ⟨x198, h199⟩ := gen_mut g196
            have h200 : H197 p_self = some (.ins AD.c_Encoder dx_self [("_probabilities", V.ref l_self_probs), ("_front", V.ref l_self_front), ("_low", V.int ((PySem.Builtin.bitAnd ((self.low * 256)) ((4294967296 - 1))))), ("_span", V.int ((self.span * 256)))]) := h199
            have S201 := S195.mut1 x198 (.head _) h200
            have h202 := (x198 _ _ (x192 _ _ (x185 _ _ h180 ne_self_0) (ne_of h180 h179 (fun z => nomatch z))) (ne_of h180 h179 (fun z => nomatch z)))
            have h203 := (x198 _ _ (x192 _ _ h187 (ne_of h187 h189 (fun z => nomatch z))) (ne_of h187 h189 (fun z => nomatch z)))
            refine ⟨_, ⟨⟨self.probs, (self.front) ++ [(self.low / 16777216)], (PySem.Builtin.bitAnd ((self.low * 256)) ((4294967296 - 1))), (self.span * 256)⟩, rfl, S201, h200, h202, h203, rfl, ?_⟩, ?_⟩
            · right
              rw [hs]
              exact ⟨encNorm_eq _, by rw [← hs]; omega, norm_span hpre⟩
            · rw [hm]
              have := hpre.span0
              rw [← hs] at this
              show (16777216 - self.span * 256).toNat < (16777216 - self.span).toNat
              omega
          · have c182 : ¬ (self.span < 16777216) := c182
            have hs : self = encNarrow self_ chance decision := by
              unfold encNarrow encNorm
              rcases hu with h | h
              · rw [if_neg (by rw [← h]; omega)]; exact h
              · rw [if_pos h.2.1]; exact h.1
            have E204 : ((⟨self.probs, self.front, self.low, self.span⟩) : EncS) = encNarrow self_ chance decision := by exact hs
            exact (k _ _ E204 S178.base h179 h180 h181)

abbrev N_Encoder_code : List Str := ["self", "context", "decision", "chance"]
theorem sc_Encoder_code : FnScope N_Encoder_code ["self", "context", "decision"] (defScope s_Encoder_code) := ⟨rfl, rfl, rfl, by decide +kernel, rfl, by decide +kernel, by decide +kernel⟩
theorem ok_Encoder_code (D : MethIn K AD.c_Encoder "Encoder.code" "code" s_Encoder_code ["self", "context", "decision"]) (T : Txt K mg AD) (c__check_context : Cal P w K mg base 1 "_check_context" (sp__check_context K AD)) (c__check_decision : Cal P w K mg base 1 "_check_decision" (sp__check_decision K AD)) (c_Encoder__narrow : MetC P w K mg base 2 AD.c_Encoder "_narrow" (sp_Encoder__narrow K AD)) (c__adapted : Cal P w K mg base 1 "_adapted" (sp__adapted K AD)) : MetC P w K mg base 3 AD.c_Encoder "code" (sp_Encoder_code K AD) := by
  refine D.ok T.cl_Encoder sc_Encoder_code (fun vs H Q E h => ?_) (fun f cdv A_ outer s H vs Q E hr h => ?_)
  · obtain ⟨p_self, dx_self, l_self_probs, l_self_front, self_, context, decision, rfl, _⟩ := h
    rfl
  · obtain ⟨p_self, dx_self, l_self_probs, l_self_front, self_, context, decision, rfl, h_self, h_self_probs, h_self_front, ne_self_0, pre0, pre1, pre2, pre3, pre4, pre5, k⟩ := h
    refine ⟨_, (pss_cons (ps_expr (vx_call c__check_context hr (by decide) rfl (pa_cons (pv 1) pa_nil)))
      (pss_cons (ps_expr (vx_call c__check_decision hr (by decide) rfl (pa_cons (pv 2) pa_nil)))
      (pss_cons (ps_set (i := 3) sc_Encoder_code.nd rfl (Or.inl rfl) (pe_ix (ix_listK (K := K)) (fldK (K := K) (pv 0)) (pv 1) (fun _ _ => rfl)))
      (pss_cons (ps_expr (vx_meth c_Encoder__narrow hr (by decide) (pv 0) (pa_cons (pv 3) (pa_cons (pv 2) pa_nil))))
      (pss_one (ps_asg (vx_call c__adapted hr (by decide) rfl (pa_cons (pv 3) (pa_cons (pv 2) pa_nil))) (pg_sub (fldK (K := K) (pv 0)) (pv 1) set_list))))))), ?_⟩
    have hM : ∀ a ∈ [p_self, l_self_probs, l_self_front], H a ≠ none := (all_cons (some_ne h_self) (all_cons (some_ne h_self_probs) (all_cons (some_ne h_self_front) all_nil)))
    have S0 := Sep.start [p_self, l_self_probs, l_self_front] H hM
    have hch := pre0.chance pre1 pre2
    have hlen := pre0.len
    refine ⟨_, rfl, _, rfl, (by first | assumption | omega | decide), (by first | assumption | omega | decide), _, rfl, _, rfl, (by first | assumption | omega | decide), (by first | assumption | omega | decide), _, rfl, _, _, _, _, _, rfl, h_self, T.cl_Encoder, T.n_Encoder__probabilities, rfl, _, rfl, _, _, _, _, rfl, rfl, (SqL.of h_self_probs), (atI_map (by first | (rw [hlen]; omega) | (rw [hlen, probs_narrow, hlen]; omega))), _, rfl, _, _, _, rfl, h_self, rfl, _, rfl, _, rfl, _, _, _, _, (self_ : EncS), _, _, rfl, h_self, h_self_probs, h_self_front, ne_self_0, (by first | assumption | omega | decide), (by first | assumption | omega | decide), (by first | assumption | omega | decide), fun H205 s206 q207 x208 h209 h211 h212  => ?_⟩
    have S210 := S0.mut x208 (all_cons (.head _) (all_cons (.tail _ (.head _)) (all_cons (.tail _ (.tail _ (.head _))) all_nil))) (all_cons (some_ne h209) (all_cons (some_ne h211) (all_cons (some_ne h212) all_nil)))
    refine ⟨_, rfl, _, rfl, _, _, rfl, _, rfl, _, _, _, _, _, rfl, h209, T.cl_Encoder, T.n_Encoder__probabilities, rfl, _, rfl, _, _, _, _, rfl, rfl, h211, (ixN_map (by first | (rw [hlen]; omega) | (rw [q207, probs_narrow, hlen]; omega))), ?_⟩
    generalize g213 : upd H205 l_self_probs _ = H214
    obtain ⟨x215, h216⟩ := gen_mut g213
    have h217 : H214 l_self_probs = some (.lst ((setL (s206.probs) (context) (adaptE ((itD (self_.probs) (context))) (decision)) : (List Int)).map V.int)) := set_map h216
    have S218 := S210.mut1 x215 (.tail _ (.head _)) h217
    have h219 := (x215 _ _ h209 (ne_of h209 h211 (fun z => nomatch z)))
    have h220 := (x215 _ _ h212 (ne_self_0).symm)
    have E221 : ((⟨setL (s206.probs) (context) (adaptE ((itD (self_.probs) (context))) (decision)), s206.front, s206.low, s206.span⟩) : EncS) = encCode self_ context decision := by rw [q207]; rfl
    exact (k _ _ E221 S218.base h219 h217 h220)

abbrev N_Encoder_code_even : List Str := ["self", "decision"]
theorem sc_Encoder_code_even : FnScope N_Encoder_code_even ["self", "decision"] (defScope s_Encoder_code_even) := ⟨rfl, rfl, rfl, by decide +kernel, rfl, by decide +kernel, by decide +kernel⟩
theorem ok_Encoder_code_even (D : MethIn K AD.c_Encoder "Encoder.code_even" "code_even" s_Encoder_code_even ["self", "decision"]) (T : Txt K mg AD) (c__check_decision : Cal P w K mg base 1 "_check_decision" (sp__check_decision K AD)) (c_Encoder__narrow : MetC P w K mg base 2 AD.c_Encoder "_narrow" (sp_Encoder__narrow K AD)) : MetC P w K mg base 3 AD.c_Encoder "code_even" (sp_Encoder_code_even K AD) := by
  refine D.ok T.cl_Encoder sc_Encoder_code_even (fun vs H Q E h => ?_) (fun f cdv A_ outer s H vs Q E hr h => ?_)
  · obtain ⟨p_self, dx_self, l_self_probs, l_self_front, self_, decision, rfl, _⟩ := h
    rfl
  · obtain ⟨p_self, dx_self, l_self_probs, l_self_front, self_, decision, rfl, h_self, h_self_probs, h_self_front, ne_self_0, pre0, pre1, pre2, pre3, k⟩ := h
    refine ⟨_, (pss_cons (ps_expr (vx_call c__check_decision hr (by decide) rfl (pa_cons (pv 1) pa_nil)))
      (pss_one (ps_expr (vx_meth c_Encoder__narrow hr (by decide) (pv 0) (pa_cons (C8.pe_gc rfl T.g_EVEN) (pa_cons (pv 1) pa_nil)))))), ?_⟩
    have hM : ∀ a ∈ [p_self, l_self_probs, l_self_front], H a ≠ none := (all_cons (some_ne h_self) (all_cons (some_ne h_self_probs) (all_cons (some_ne h_self_front) all_nil)))
    have S0 := Sep.start [p_self, l_self_probs, l_self_front] H hM
    refine ⟨_, rfl, _, rfl, (by first | assumption | omega | decide), (by first | assumption | omega | decide), _, rfl, _, _, _, rfl, h_self, rfl, _, rfl, _, _, _, _, (self_ : EncS), _, _, rfl, h_self, h_self_probs, h_self_front, ne_self_0, (by first | assumption | omega | decide), (by first | assumption | omega | decide), (by first | assumption | omega | decide), fun H222 s223 q224 x225 h226 h228 h229  => ?_⟩
    have S227 := S0.mut x225 (all_cons (.head _) (all_cons (.tail _ (.head _)) (all_cons (.tail _ (.tail _ (.head _))) all_nil))) (all_cons (some_ne h226) (all_cons (some_ne h228) (all_cons (some_ne h229) all_nil)))
    have E230 : ((⟨s223.probs, s223.front, s223.low, s223.span⟩) : EncS) = encNarrow self_ 2048 decision := by exact q224
    exact (k _ _ E230 S227.base h226 h228 h229)

abbrev N_Encoder_octets : List Str := ["self", "octets", "shift"]
theorem sc_Encoder_octets : FnScope N_Encoder_octets ["self"] (defScope s_Encoder_octets) := ⟨rfl, rfl, rfl, by decide +kernel, rfl, by decide +kernel, by decide +kernel⟩
theorem ok_Encoder_octets (D : MethIn K AD.c_Encoder "Encoder.octets" "octets" s_Encoder_octets ["self"]) (T : Txt K mg AD)  : MetC P w K mg base 1 AD.c_Encoder "octets" (sp_Encoder_octets K AD) := by
  refine D.ok T.cl_Encoder sc_Encoder_octets (fun vs H Q E h => ?_) (fun f cdv A_ outer s H vs Q E hr h => ?_)
  · obtain ⟨p_self, dx_self, l_self_probs, l_self_front, self_, rfl, _⟩ := h
    rfl
  · obtain ⟨p_self, dx_self, l_self_probs, l_self_front, self_, rfl, h_self, h_self_probs, h_self_front, ne_self_0, pre0, k⟩ := h
    refine ⟨_, (pss_cons (ps_set (i := 1) sc_Encoder_octets.nd rfl (Or.inl rfl) (pe_op op_cat (fldK (K := K) (pv 0)) (pe_lc (own := [("shift", 2)]) (g := gName 2) (by rfl) sc_Encoder_octets.nd (pi_tupK (K := K) (pe_tup (pa_cons pe_int (pa_cons pe_int (pa_cons pe_int (pa_cons pe_int pa_nil)))))) (blkOk_by (own := [("shift", 2)]) (N := N_Encoder_octets) (sc := defScope s_Encoder_octets) (by decide +kernel)) (fun _ _ _ _ _ => (pg_name (i := 2) sc_Encoder_octets.nd rfl (Or.inl rfl))) (fun _ _ _ _ _ => pts_nil) (fun _ _ _ _ _ => (pe_op op_and (pe_op op_shr (fldK (K := K) (pv 0)) (pv 2)) pe_int)))))
      (pss_cons (ps_while PassesOwn.never (PW.pt (pw_and (pt_truth (pv 1) (fun _ => rfl)) (pw_and1 (pt_cmp (pc_eqI (pe_ix (ix_listK (K := K)) (pv 1) (pe_un un_neg pe_int) (fun _ _ => rfl)) pe_int))))) (pss_one (ps_expr (pe_bm0 PySem.F.plainAttrs_list PySem.F.slot_list_pop PySem.F.type_list_pop mt_pop (pv 1)))))
      (pss_one (ps_ret (pv 1))))), ?_⟩
    have S0 := Sep.start0 H
    refine ⟨_, rfl, _, _, _, _, _, rfl, (S0.sG _ _ h_self), T.cl_Encoder, T.n_Encoder__front, rfl, (by show 4 ≤ sizeLine; decide), fun p231 n232 => ?_⟩
    generalize g233 : upd H p231 _ = H234
    obtain ⟨e235, h236⟩ := gen_new n232 g233
    have h237 : H234 p231 = some (.tup [V.int (24), V.int (16), V.int (8), V.int (0)]) := h236
    have fr238 := S0.free n232
    obtain ⟨G240, eG241, hg242, S239⟩ := S0.grow n232 e235 h237 fr238
    refine ⟨_, rfl, ⟨_, (SqT.of (S239.sG _ _ hg242))⟩, fun D243 n244 => lc_tup (K := K) (a := p231) (xs := (([24, 16, 8, 0] : List Int).map V.int)) (fun i H' => Sep [] H H G240 H' [D243] ∧ H' D243 = some (.lst (((List.map (fun k => PySem.Builtin.bitAnd (self_.low / 2 ^ Int.toNat k) 255) (List.take i ([24, 16, 8, 0] : List Int))) : (List Int)).map V.int))) ?_ ?_ ?_ ?_⟩
    · generalize g245 : upd H234 D243 _ = H246
      obtain ⟨e247, h248⟩ := gen_new n244 g245
      have fr249 := S239.free n244
      have S250 := S239.new n244 e247 h248 fr249
      exact ⟨S250, h248⟩
    · intro i H251 _ hw
      obtain ⟨S252, h253⟩ := hw
      exact (SqT.of (S252.sG _ _ hg242))
    · intro i x H254 hj hw
      obtain ⟨S255, h256⟩ := hw
      obtain ⟨shift, hi, rfl⟩ := map_get hj
      refine ⟨rfl, ?_⟩
      refine tyes_go ?_
      refine ⟨_, rfl, _, _, _, _, _, rfl, (S255.sG _ _ (eG241 _ _ h_self)), T.cl_Encoder, T.n_Encoder__low, rfl, _, rfl, _, _, rfl, rfl, (by exact shifts_nn (List.mem_of_getElem? hi)), _, _, rfl, rfl, _, h256, (app_lenM (by simp only [List.length_map, List.length_take]; simp; omega)), ?_⟩
      generalize g257 : upd H254 D243 _ = H258
      obtain ⟨x259, h260⟩ := gen_mut g257
      have S261 := S255.mut1 x259 (.head _) h260
      exact ⟨S261, (compM_list hi h260 (by rfl))⟩
    intro H262 hw
    obtain ⟨S263, h264⟩ := hw
    have fr266 := S239.free n244
    have h265 : H262 D243 = some (.lst (((List.map (fun k => PySem.Builtin.bitAnd (self_.low / 2 ^ Int.toNat k) 255) (([24, 16, 8, 0] : List Int))) : (List Int)).map V.int)) := compM_done (h := fun l => (List.map (fun k => PySem.Builtin.bitAnd (self_.low / 2 ^ Int.toNat k) 255) (l))) (by rw [List.length_map]) h264
    refine ⟨_, _, _, _, rfl, rfl, (S263.sG _ _ (eG241 _ _ h_self_front)), h265, (cat_lenM (by first | omega | (simp only [List.length_map, List.length_append, List.length_take, List.length_range, List.length_cons, List.length_nil, repL_len]; omega))), fun p267 n268 => ?_⟩
    generalize g269 : upd H262 p267 _ = H270
    obtain ⟨e271, h272⟩ := gen_new n268 g269
    have h273 : H270 p267 = some (.lst (((self_.front) ++ ((List.map (fun k => PySem.Builtin.bitAnd (self_.low / 2 ^ Int.toNat k) 255) (([24, 16, 8, 0] : List Int)))) : (List Int)).map V.int)) := cat_map h272
    have fr274 := S263.free n268
    have S275 := S263.new n268 e271 h273 fr274
    refine ⟨fun m σ H' => ∃ (octets : (List Int)), σ = [some (V.ref p_self), some (V.ref p267), none] ∧ Sep [] H H G240 H' [p267] ∧ H' p267 = some (.lst ((octets).map V.int)) ∧ ((m = octets.length) ∧ (stripZ octets = encOctets self_)), ?_, ?_⟩
    · refine ⟨_, ((self_.front) ++ ((List.map (fun k => PySem.Builtin.bitAnd (self_.low / 2 ^ Int.toNat k) 255) (([24, 16, 8, 0] : List Int))))), rfl, (S275.sub (all_cons (.head _) all_nil)), h273, rfl, ?_⟩
      rfl
    · intro m σ H276 hw
      obtain ⟨octets, rfl, S277, h278, hu⟩ := hw
      obtain ⟨hm, hu⟩ := hu
      refine ⟨_, rfl, (!decide ((octets : (List Int)) = [])), (.inl ⟨_, (SqL.of h278), tru_map⟩), ?_⟩
      refine iteN (fun c279 => ?_) (fun c279 => ?_)
      · have c279 : ¬ ((octets : (List Int)) = []) := c279
        refine ⟨_, rfl, _, rfl, _, _, _, _, rfl, rfl, (SqL.of h278), (atI_map (by exact last_in ‹_›)), _, _, rfl, rfl, _, rfl, ?_⟩
        refine iteD (fun c280 => ?_) (fun c280 => ?_)
        · have c280 : ((itD (octets) ((-1))) : Int) = 0 := c280
          refine ⟨(fun σ H' => ∃ m', (∃ (octets : (List Int)), σ = [some (V.ref p_self), some (V.ref p267), none] ∧ Sep [] H H G240 H' [p267] ∧ H' p267 = some (.lst ((octets).map V.int)) ∧ ((m' = octets.length) ∧ (stripZ octets = encOctets self_))) ∧ m' < m), (fun _ _ ⟨m', a, b⟩ => ⟨m', b, a⟩), ?_⟩
          refine ⟨_, rfl, (.inl ⟨rfl, _, SqL.of h278⟩), _, _, _, rfl, rfl, h278, (pop_map (by assumption)), ?_⟩
          generalize g281 : upd H276 p267 _ = H282
          obtain ⟨x283, h284⟩ := gen_mut g281
          have h285 : H282 p267 = some (.lst (((octets).dropLast : (List Int)).map V.int)) := drop_map h284
          have S286 := S277.mut1 x283 (.head _) h285
          refine ⟨_, ⟨((octets).dropLast), rfl, S286, h285, rfl, ?_⟩, ?_⟩
          · exact (strip_pop ‹_› ‹_›).trans hu
          · rw [hm]
            exact drop_less ‹_›
        · have c280 : ¬ (((itD (octets) ((-1))) : Int) = 0) := c280
          refine ⟨_, rfl, ?_⟩
          exact k _ _ fr274 S277.b0 (cast_map h278 (by first | exact (strip_done (.inl ‹_›)).symm.trans hu | exact (strip_done (.inr ‹_›)).symm.trans hu))
      · have c279 : (octets : (List Int)) = [] := c279
        refine iteF ?_
        refine ⟨_, rfl, ?_⟩
        exact k _ _ fr274 S277.b0 (cast_map h278 (by first | exact (strip_done (.inl ‹_›)).symm.trans hu | exact (strip_done (.inr ‹_›)).symm.trans hu))

abbrev N_Encoder_probability : List Str := ["self", "context"]
theorem sc_Encoder_probability : FnScope N_Encoder_probability ["self", "context"] (defScope s_Encoder_probability) := ⟨rfl, rfl, rfl, by decide +kernel, rfl, by decide +kernel, by decide +kernel⟩
theorem ok_Encoder_probability (D : MethIn K AD.c_Encoder "Encoder.probability" "probability" s_Encoder_probability ["self", "context"]) (T : Txt K mg AD) (c__check_context : Cal P w K mg base 1 "_check_context" (sp__check_context K AD)) : MetC P w K mg base 2 AD.c_Encoder "probability" (sp_Encoder_probability K AD) := by
  refine D.ok T.cl_Encoder sc_Encoder_probability (fun vs H Q E h => ?_) (fun f cdv A_ outer s H vs Q E hr h => ?_)
  · obtain ⟨p_self, dx_self, l_self_probs, l_self_front, self_, context, rfl, _⟩ := h
    rfl
  · obtain ⟨p_self, dx_self, l_self_probs, l_self_front, self_, context, rfl, h_self, h_self_probs, h_self_front, ne_self_0, pre0, pre1, pre2, k⟩ := h
    refine ⟨_, (pss_cons (ps_expr (vx_call c__check_context hr (by decide) rfl (pa_cons (pv 1) pa_nil)))
      (pss_one (ps_ret (pe_ix (ix_listK (K := K)) (fldK (K := K) (pv 0)) (pv 1) (fun _ _ => rfl))))), ?_⟩
    have S0 := Sep.start0 H
    refine ⟨_, rfl, _, rfl, (by first | assumption | omega | decide), (by first | assumption | omega | decide), _, rfl, _, _, _, _, _, rfl, (S0.sG _ _ h_self), T.cl_Encoder, T.n_Encoder__probabilities, rfl, _, rfl, _, _, _, _, rfl, rfl, (SqL.of (S0.sG _ _ h_self_probs)), (atI_map (by exact ⟨by omega, by omega⟩)), ?_⟩
    exact eq_int k (by rfl)

abbrev N__law_draws : List Str := ["cell", "limits", "found", "rest", "state", "free", "limit"]
theorem sc__law_draws : FnScope N__law_draws ["cell", "limits"] (defScope s__law_draws) := ⟨rfl, rfl, rfl, by decide +kernel, rfl, by decide +kernel, by decide +kernel⟩
theorem ok__law_draws (D : DefIn K mg "_law_draws" s__law_draws ["cell", "limits"]) (T : Txt K mg AD)  : Cal P w K mg base 1 "_law_draws" (sp__law_draws K AD) := by
  refine D.ok sc__law_draws (fun vs H Q E h => ?_) (fun f cdv A_ outer s H vs Q E hr h => ?_)
  · obtain ⟨cell, a_limits, limits, rfl, _⟩ := h
    rfl
  · obtain ⟨cell, a_limits, limits, rfl, q_limits, pre0, pre1, k⟩ := h
    refine ⟨_, (pss_cons (ps_set (i := 2) sc__law_draws.nd rfl (Or.inl rfl) (pe_lst pa_nil))
      (pss_cons (ps_set (i := 3) sc__law_draws.nd rfl (Or.inl rfl) (pe_callB call_abs (by rfl) T.b_abs (by decide +kernel) (pa_cons (pe_callTy call_int1 (by rfl) T.b_int (by decide +kernel) (pa_cons (pv 0) pa_nil)) pa_nil)))
      (pss_cons (ps_set (i := 4) sc__law_draws.nd rfl (Or.inl rfl) (pe_op op_mod (pe_callTy call_int1 (by rfl) T.b_int (by decide +kernel) (pa_cons (pv 3) pa_nil)) pe_int))
      (pss_cons (ps_set (i := 5) sc__law_draws.nd rfl (Or.inl rfl) (pe_or (pe_cmp (pc_lt (pv 0) pe_int)) (pe_one (pe_cmp (pc_ge (pv 0) (pe_op op_pow pe_int pe_int))))))
      (pss_cons (ps_for PassesOwn.never rfl (pi_listK (K := K) (pv 1)) (pg_name (i := 6) sc__law_draws.nd rfl (Or.inl rfl)) (pss_one (ps_if (PW.pt (pw_and (pt_val (pv 5)) (pw_and1 (pt_cmp (pc_gt (pv 3) pe_int))))) (pss_cons (ps_expr (pe_bm PySem.F.plainAttrs_list PySem.F.slot_list_append PySem.F.type_list_append mt_append (pv 2) (pa_cons (pe_op op_mod (pe_callTy call_int1 (by rfl) T.b_int (by decide +kernel) (pa_cons (pv 3) pa_nil)) (pv 6)) pa_nil)))
      (pss_one (ps_set (i := 3) sc__law_draws.nd rfl (Or.inl rfl) (pe_op op_fdivW (pv 3) (pv 6))))) (pss_cons (ps_set (i := 4) sc__law_draws.nd rfl (Or.inl rfl) (pe_op op_mod (pe_callTy call_int1 (by rfl) T.b_int (by decide +kernel) (pa_cons (pe_op op_add (pe_op op_mul (pv 4) pe_int) pe_int) pa_nil)) pe_int))
      (pss_cons (ps_set (i := 4) sc__law_draws.nd rfl (Or.inl rfl) (pe_op op_mod (pe_callTy call_int1 (by rfl) T.b_int (by decide +kernel) (pa_cons (pe_op op_add (pe_op op_mul (pv 4) pe_int) pe_int) pa_nil)) pe_int))
      (pss_one (ps_expr (pe_bm PySem.F.plainAttrs_list PySem.F.slot_list_append PySem.F.type_list_append mt_append (pv 2) (pa_cons (pe_op op_mod (pe_callTy call_int1 (by rfl) T.b_int (by decide +kernel) (pa_cons (pe_op op_fdivW (pv 4) pe_int) pa_nil)) (pv 6)) pa_nil)))))))))
      (pss_one (ps_ret (pv 2)))))))), ?_⟩
    have S0 := Sep.start0 H
    refine ⟨(by show 0 ≤ sizeLine; decide), fun p287 n288 => ?_⟩
    generalize g289 : upd H p287 _ = H290
    obtain ⟨e291, h292⟩ := gen_new n288 g289
    have h293 : H290 p287 = some (.lst (([] : (List Int)).map V.int)) := h292
    have fr294 := S0.free n288
    have S295 := S0.new n288 e291 h293 fr294
    refine ⟨_, rfl, .inl ⟨_, rfl, ?_⟩⟩
    refine ⟨_, rfl, _, rfl, .inl ⟨_, rfl, ?_⟩⟩
    refine ⟨_, _, rfl, rfl, (by first | omega | decide), ?_⟩
    refine (vv_or (vv_cmp (val_var rfl) val_c (fun Q q => ⟨_, _, rfl, rfl, q⟩)) (vv_cmp (val_var rfl) (val_op val_c val_c (fun Q q => ⟨_, _, rfl, rfl, (by exact ⟨by decide, by decide, by decide⟩), q⟩)) (fun Q q => ⟨_, _, rfl, rfl, q⟩))) _ ?_
    refine ⟨_, rfl, _, rfl, ⟨_, (SqL.of (S295.sG _ _ q_limits))⟩, for_list (K := K) (a := a_limits) (xs := (limits).map V.int) (fun i σ H' => ∃ (found : (List Int)) (rest : Int) (state : Int) (u_limit : Option V), σ = [some (V.int (cell)), some (V.ref a_limits), some (V.ref p287), some (V.int rest), some (V.int state), some (V.bl ((decide (cell < 0) || decide (1000000000000000000 ≤ cell)))), u_limit] ∧ Sep [] H H H H' [p287] ∧ H' p287 = some (.lst ((found).map V.int)) ∧ (found.length = i ∧ (found, rest, state) = (limits.take i).foldl (drawStep (decide (cell < 0) || decide (1000000000000000000 ≤ cell))) ([], (if cell < 0 then -cell else cell), (if cell < 0 then -cell else cell) % 2147483647))) ?_ ?_ ?_ ?_⟩
    · refine ⟨([]), _, _, _, rfl, S295, h293, ?_⟩
      exact ⟨rfl, rfl⟩
    · intro i σ H296 _ hw
      obtain ⟨found, rest, state, u_limit, rfl, S297, h298, hu⟩ := hw
      exact (SqL.of (S297.sG _ _ q_limits))
    · intro i x σ H299 hj hw
      obtain ⟨found, rest, state, u_limit, rfl, S300, h301, hu⟩ := hw
      obtain ⟨limit, hi, rfl⟩ := map_get hj
      obtain ⟨hl, hf⟩ := hu
      have hi1 := get_len hi
      have hlim := pre0 _ (List.mem_of_getElem? hi)
      refine ⟨_, rfl, _, rfl, ?_⟩
      refine iteB (fun c302 => ?_) (fun c302 => ?_)
      · refine ⟨_, rfl, _, _, rfl, rfl, _, rfl, ?_⟩
        refine iteD (fun c303 => ?_) (fun c303 => ?_)
        · have c303 : 1 < rest := c303
          refine ⟨_, rfl, (.inl ⟨rfl, _, SqL.of h301⟩), _, rfl, .inl ⟨_, rfl, ?_⟩⟩
          refine ⟨_, rfl, _, _, rfl, rfl, (by first | omega | decide), _, _, _, rfl, rfl, h301, (app_lenM (by first | omega | (simp only [List.length_map, List.length_append, List.length_take, List.length_range, List.length_cons, List.length_nil, repL_len]; omega))), ?_⟩
          generalize g304 : upd H299 p287 _ = H305
          obtain ⟨x306, h307⟩ := gen_mut g304
          have h308 : H305 p287 = some (.lst (((found) ++ [(rest % limit)] : (List Int)).map V.int)) := snoc_map h307
          have S309 := S300.mut1 x306 (.head _) h308
          refine ⟨_, rfl, _, rfl, _, _, rfl, rfl, (by exact divW_small (by omega) (by omega)), ?_⟩
          refine ⟨((found) ++ [(rest % limit)]), _, _, _, rfl, S309, h308, ?_⟩
          refine ⟨by rw [List.length_append, hl] <;> rfl, ?_⟩
          rw [take_succ_get hi, List.foldl_append, ← hf]
          clear hf
          simp only [List.foldl_cons, List.foldl_nil]
          unfold drawStep
          split <;> simp_all <;> omega
        · have c303 : ¬ (1 < rest) := c303
          refine ⟨_, rfl, _, _, rfl, rfl, (by first | exact .inr ⟨by omega, by omega⟩ | exact .inl ⟨by omega, by omega⟩), _, _, rfl, rfl, .inl ⟨_, rfl, ?_⟩⟩
          refine ⟨_, _, rfl, rfl, (by first | omega | decide), _, rfl, _, _, rfl, rfl, (by first | exact .inr ⟨by omega, by omega⟩ | exact .inl ⟨by omega, by omega⟩), _, _, rfl, rfl, .inl ⟨_, rfl, ?_⟩⟩
          refine ⟨_, _, rfl, rfl, (by first | omega | decide), _, rfl, (.inl ⟨rfl, _, SqL.of h301⟩), _, rfl, _, _, rfl, rfl, (by first | exact divW_lit (by decide) (by decide) | exact divW_small (by omega) (by omega)), .inl ⟨_, rfl, ?_⟩⟩
          refine ⟨_, rfl, _, _, rfl, rfl, (by first | omega | decide), _, _, _, rfl, rfl, h301, (app_lenM (by first | omega | (simp only [List.length_map, List.length_append, List.length_take, List.length_range, List.length_cons, List.length_nil, repL_len]; omega))), ?_⟩
          generalize g310 : upd H299 p287 _ = H311
          obtain ⟨x312, h313⟩ := gen_mut g310
          have h314 : H311 p287 = some (.lst (((found) ++ [((((((((state * 48271) + 11) % 2147483647) * 69621) + 7) % 2147483647) / 13) % limit)] : (List Int)).map V.int)) := snoc_map h313
          have S315 := S300.mut1 x312 (.head _) h314
          refine ⟨((found) ++ [((((((((state * 48271) + 11) % 2147483647) * 69621) + 7) % 2147483647) / 13) % limit)]), _, _, _, rfl, S315, h314, ?_⟩
          refine ⟨by rw [List.length_append, hl] <;> rfl, ?_⟩
          rw [take_succ_get hi, List.foldl_append, ← hf]
          clear hf
          simp only [List.foldl_cons, List.foldl_nil]
          unfold drawStep
          split <;> simp_all <;> omega
      · refine iteF ?_
        refine ⟨_, rfl, _, _, rfl, rfl, (by first | exact .inr ⟨by omega, by omega⟩ | exact .inl ⟨by omega, by omega⟩), _, _, rfl, rfl, .inl ⟨_, rfl, ?_⟩⟩
        refine ⟨_, _, rfl, rfl, (by first | omega | decide), _, rfl, _, _, rfl, rfl, (by first | exact .inr ⟨by omega, by omega⟩ | exact .inl ⟨by omega, by omega⟩), _, _, rfl, rfl, .inl ⟨_, rfl, ?_⟩⟩
        refine ⟨_, _, rfl, rfl, (by first | omega | decide), _, rfl, (.inl ⟨rfl, _, SqL.of h301⟩), _, rfl, _, _, rfl, rfl, (by first | exact divW_lit (by decide) (by decide) | exact divW_small (by omega) (by omega)), .inl ⟨_, rfl, ?_⟩⟩
        refine ⟨_, rfl, _, _, rfl, rfl, (by first | omega | decide), _, _, _, rfl, rfl, h301, (app_lenM (by first | omega | (simp only [List.length_map, List.length_append, List.length_take, List.length_range, List.length_cons, List.length_nil, repL_len]; omega))), ?_⟩
        generalize g316 : upd H299 p287 _ = H317
        obtain ⟨x318, h319⟩ := gen_mut g316
        have h320 : H317 p287 = some (.lst (((found) ++ [((((((((state * 48271) + 11) % 2147483647) * 69621) + 7) % 2147483647) / 13) % limit)] : (List Int)).map V.int)) := snoc_map h319
        have S321 := S300.mut1 x318 (.head _) h320
        refine ⟨((found) ++ [((((((((state * 48271) + 11) % 2147483647) * 69621) + 7) % 2147483647) / 13) % limit)]), _, _, _, rfl, S321, h320, ?_⟩
        refine ⟨by rw [List.length_append, hl] <;> rfl, ?_⟩
        rw [take_succ_get hi, List.foldl_append, ← hf]
        clear hf
        simp only [List.foldl_cons, List.foldl_nil]
        unfold drawStep
        split <;> simp_all <;> omega
    · intro σ H322 hw
      rw [show ((limits).map V.int).length = (limits).length from (by rw [List.length_map])] at hw
      obtain ⟨found, rest, state, u_limit, rfl, S323, h324, hu⟩ := hw
      obtain ⟨hl, hf⟩ := hu
      refine ⟨_, rfl, ?_⟩
      exact k _ _ fr294 S323.b0 (cast_map h324 (by unfold draws; rw [List.take_length] at hf; rw [← hf]))

abbrev N__law_items : List Str := ["script", "most", "items", "cell", "draws", "context", "bits", "k"]
theorem sc__law_items : FnScope N__law_items ["script", "most"] (defScope s__law_items) := ⟨rfl, rfl, rfl, by decide +kernel, rfl, by decide +kernel, by decide +kernel⟩
theorem ok__law_items (D : DefIn K mg "_law_items" s__law_items ["script", "most"]) (T : Txt K mg AD) (c__law_draws : Cal P w K mg base 1 "_law_draws" (sp__law_draws K AD)) : Cal P w K mg base 2 "_law_items" (sp__law_items K AD) := by
  refine D.ok sc__law_items (fun vs H Q E h => ?_) (fun f cdv A_ outer s H vs Q E hr h => ?_)
  · obtain ⟨G, a_script, script, most, rfl, _⟩ := h
    rfl
  · obtain ⟨G, a_script, script, most, rfl, sG, q_script, pre0, k⟩ := h
    refine ⟨_, (pss_cons (ps_set (i := 2) sc__law_items.nd rfl (Or.inl rfl) (pe_lst pa_nil))
      (pss_cons (ps_for PassesOwn.never rfl (pi_listK (K := K) (pv 0)) (pg_name (i := 3) sc__law_items.nd rfl (Or.inl rfl)) (pss_cons (ps_set (i := 4) sc__law_items.nd rfl (Or.inl rfl) (vx_call c__law_draws hr (by decide) rfl (pa_cons (pv 3) (pa_cons (pe_lst (pa_cons pe_int (pa_cons pe_int (pa_cons pe_int (pa_cons pe_int (pa_cons pe_int pa_nil)))))) pa_nil))))
      (pss_cons (ps_set (i := 5) sc__law_items.nd rfl (Or.inr rfl) (pe_ix (ix_listK (K := K)) (pe_lst (pa_cons pe_int (pa_cons pe_int (pa_cons pe_int (pa_cons pe_int (pa_cons (pe_ix (ix_listK (K := K)) (pv 4) pe_int (fun _ _ => rfl)) (pa_cons (pe_ix (ix_listK (K := K)) (pv 4) pe_int (fun _ _ => rfl)) (pa_cons (pe_ix (ix_listK (K := K)) (pv 4) pe_int (fun _ _ => rfl)) (pa_cons (pe_un un_neg pe_int) pa_nil))))))))) (pe_ix (ix_listK (K := K)) (pv 4) pe_int (fun _ _ => rfl)) (fun _ _ => rfl)))
      (pss_one (ps_if (pt_cmp (pc_lt (pe_ix (ix_listK (K := K)) (pv 4) pe_int (fun _ _ => rfl)) pe_int)) (pss_one (ps_set (i := 2) sc__law_items.nd rfl (Or.inl rfl) (pe_op op_cat (pv 2) (pe_op op_rep (pe_lst (pa_cons (pe_tup (pa_cons (pv 5) (pa_cons (pe_ix (ix_listK (K := K)) (pv 4) pe_int (fun _ _ => rfl)) pa_nil))) pa_nil)) (pe_ix (ix_listK (K := K)) (pv 4) pe_int (fun _ _ => rfl)))))) (pss_cons (ps_set (i := 6) sc__law_items.nd rfl (Or.inr rfl) (vx_call c__law_draws hr (by decide) rfl (pa_cons (pe_op op_fdivW (pe_callTy call_int1 (by rfl) T.b_int (by decide +kernel) (pa_cons (pv 3) pa_nil)) pe_int) (pa_cons (pe_op op_rep (pe_lst (pa_cons pe_int pa_nil)) (pe_ix (ix_listK (K := K)) (pv 4) pe_int (fun _ _ => rfl))) pa_nil))))
      (pss_one (ps_set (i := 2) sc__law_items.nd rfl (Or.inl rfl) (pe_op op_cat (pv 2) (pe_lc (own := [("k", 7)]) (g := gName 7) (by rfl) sc__law_items.nd (pi_range1 rfl T.b_range (pa_cons (pe_callB (call_lenLiK (K := K)) (by rfl) T.b_len (by decide +kernel) (pa_cons (pv 6) pa_nil)) pa_nil)) (blkOk_by (own := [("k", 7)]) (N := N__law_items) (sc := defScope s__law_items) (by decide +kernel)) (fun _ _ _ _ _ => (pg_name (i := 7) sc__law_items.nd rfl (Or.inl rfl))) (fun _ _ _ _ _ => pts_nil) (fun _ _ _ _ _ => (pe_tup (pa_cons (pe_op op_sub (pe_op op_mul (pe_op op_add (pv 5) pe_int) (pe_callTy call_int1 (by rfl) T.b_int (by decide +kernel) (pa_cons (pe_cmp (pc_gt (pe_op op_mod (pe_callTy call_int1 (by rfl) T.b_int (by decide +kernel) (pa_cons (pv 7) pa_nil)) pe_int) pe_int)) pa_nil))) pe_int) (pa_cons (pe_ix (ix_listK (K := K)) (pv 6) (pv 7) (fun _ _ => rfl)) pa_nil))))))))))))))
      (pss_one (ps_ret (pe_slice (sl_listK (K := K)) (pv 2) po_none (po_some (pv 1))))))), ?_⟩
    have S0 := Sep.startG sG
    refine ⟨(by show 0 ≤ sizeLine; decide), fun p325 n326 => ?_⟩
    generalize g327 : upd H p325 _ = H328
    obtain ⟨e329, h330⟩ := gen_new n326 g327
    have h331 : H328 p325 = some (.lst ([])) := h330
    have fr332 := S0.free n326
    have S333 := S0.new n326 e329 h331 fr332
    have d334 : RpAll G ([]) (([] : (List (Int × Int))).map (encT2 PyData.int PyData.int)) := RpAll.nil
    refine ⟨_, rfl, _, rfl, ⟨_, (S333.b0.seq q_script)⟩, for_list (K := K) (a := a_script) (xs := (script).map V.int) (fun i σ H' => ∃ (p_items : Addr) (items : (List (Int × Int))) (vs_items : List V) (u_cell : Option V) (u_draws : Option V) (u_context : Option V) (u_bits : Option V) (G' : Hp), σ = [some (V.ref a_script), some (V.int (most)), some (V.ref p_items), u_cell, u_draws, u_context, u_bits, none] ∧ Same G G' ∧ Sep [] H G G' H' [p_items] ∧ H' p_items = some (.lst (vs_items)) ∧ H p_items = none ∧ RpAll G' (vs_items) ((items : (List (Int × Int))).map (encT2 PyData.int PyData.int)) ∧ (items.length ≤ 40 * i ∧ items = (script.take i).foldl itemsStep [])) ?_ ?_ ?_ ?_⟩
    · refine ⟨_, ([]), _, _, _, _, _, _, rfl, (Same.refl _), S333, h331, fr332, d334, ?_⟩
      exact ⟨by simp, rfl⟩
    · intro i σ H335 _ hw
      obtain ⟨p_items, items, vs_items, u_cell, u_draws, u_context, u_bits, G340, rfl, eG341, S336, h337, fr338, d339, hu⟩ := hw
      exact (S336.b0.seq q_script)
    · intro i x σ H342 hj hw
      obtain ⟨p_items, items, vs_items, u_cell, u_draws, u_context, u_bits, G347, rfl, eG348, S343, h344, fr345, d346, hu⟩ := hw
      obtain ⟨cell, hi, rfl⟩ := map_get hj
      obtain ⟨hl, hf⟩ := hu
      have hi1 := get_len hi
      have D0 := item_draws cell
      obtain ⟨d_len, d0, d1, d2, d3, d4⟩ := D0
      refine ⟨_, rfl, (by show 5 ≤ sizeLine; decide), fun p349 n350 => ?_⟩
      generalize g351 : upd H342 p349 _ = H352
      obtain ⟨e353, h354⟩ := gen_new n350 g351
      have h355 : H352 p349 = some (.lst (([4, 8, 256, 2, 40] : (List Int)).map V.int)) := h354
      have fr356 := S343.free n350
      have S357 := S343.new n350 e353 h355 fr356
      refine ⟨_, _, _, rfl, h355, (by first | assumption | omega | decide), (by first | assumption | omega | decide), fun p360 H358 n361 e359 h362 => ?_⟩
      have h363 : H358 p360 = some (.lst ((draws (cell) ([4, 8, 256, 2, 40]) : (List Int)).map V.int)) := h362
      have fr364 := S357.free n361
      have S365 := S357.new n361 e359 h363 fr364
      refine ⟨_, rfl, _, _, _, _, rfl, rfl, (SqL.of h363), (atI_map (by omega)), _, rfl, _, _, _, _, rfl, rfl, (SqL.of h363), (atI_map (by omega)), _, rfl, _, _, _, _, rfl, rfl, (SqL.of h363), (atI_map (by omega)), _, rfl, (by show 8 ≤ sizeLine; decide), fun p366 n367 => ?_⟩
      generalize g368 : upd H358 p366 _ = H369
      obtain ⟨e370, h371⟩ := gen_new n367 g368
      have h372 : H369 p366 = some (.lst (([0, 255, 1, 128, (itD (draws (cell) ([4, 8, 256, 2, 40])) (2)), (itD (draws (cell) ([4, 8, 256, 2, 40])) (2)), (itD (draws (cell) ([4, 8, 256, 2, 40])) (2)), (-1)] : (List Int)).map V.int)) := h371
      have fr373 := S365.free n367
      have S374 := S365.new n367 e370 h372 fr373
      have h375 := (e370 _ _ h363)
      refine ⟨_, rfl, _, _, _, _, rfl, rfl, (SqL.of h375), (atI_map (by omega)), _, _, _, _, rfl, rfl, (SqL.of h372), (atI_map (by first | omega | (simp only [List.length_cons, List.length_nil]; omega))), _, rfl, _, _, _, _, rfl, rfl, (SqL.of h375), (atI_map (by omega)), _, _, rfl, rfl, _, rfl, ?_⟩
      refine iteD (fun c376 => ?_) (fun c376 => ?_)
      · have c376 : (itD (draws (cell) ([4, 8, 256, 2, 40])) (0)) < 2 := c376
        refine ⟨_, rfl, _, rfl, _, rfl, _, _, _, _, rfl, rfl, (SqL.of h375), (atI_map (by omega)), (by show 2 ≤ sizeLine; decide), fun p377 n378 => ?_⟩
        generalize g379 : upd H369 p377 _ = H380
        obtain ⟨e381, h382⟩ := gen_new n378 g379
        have h383 : H380 p377 = some (.tup [V.int ((itD ([0, 255, 1, 128, (itD (draws (cell) ([4, 8, 256, 2, 40])) (2)), (itD (draws (cell) ([4, 8, 256, 2, 40])) (2)), (itD (draws (cell) ([4, 8, 256, 2, 40])) (2)), (-1)]) ((itD (draws (cell) ([4, 8, 256, 2, 40])) (1))))), V.int ((itD (draws (cell) ([4, 8, 256, 2, 40])) (3)))]) := h382
        have fr384 := S374.free n378
        obtain ⟨G386, eG387, hg388, S385⟩ := S374.grow n378 e381 h383 fr384
        refine ⟨(by show 1 ≤ sizeLine; decide), fun p389 n390 => ?_⟩
        generalize g391 : upd H380 p389 _ = H392
        obtain ⟨e393, h394⟩ := gen_new n390 g391
        have h395 : H392 p389 = some (.lst ([V.ref p377])) := h394
        have fr396 := S385.free n390
        have S397 := S385.new n390 e393 h395 fr396
        have d398 : RpAll G386 ([V.ref p377]) (([((itD ([0, 255, 1, 128, (itD (draws (cell) ([4, 8, 256, 2, 40])) (2)), (itD (draws (cell) ([4, 8, 256, 2, 40])) (2)), (itD (draws (cell) ([4, 8, 256, 2, 40])) (2)), (-1)]) ((itD (draws (cell) ([4, 8, 256, 2, 40])) (1)))), (itD (draws (cell) ([4, 8, 256, 2, 40])) (3)))] : (List (Int × Int))).map (encT2 PyData.int PyData.int)) := (RpAll.cons (rp_mk2 hg388 (.int _) (.int _)) RpAll.nil)
        have h399 := (e393 _ _ (e381 _ _ h375))
        refine ⟨_, rfl, _, _, _, _, rfl, rfl, (SqL.of h399), (atI_map (by omega)), _, _, _, rfl, rfl, h395, (by first | omega | decide), (by first | omega | decide), (rep_len d398 (by first | omega | (simp only [List.length_map, List.length_append, List.length_take, List.length_range, List.length_cons, List.length_nil, repL_len]; omega))), fun p400 n401 => ?_⟩
        generalize g402 : upd H392 p400 _ = H403
        obtain ⟨e404, h405⟩ := gen_new n401 g402
        have h406 : H403 p400 = some (.lst ((List.replicate (Int.toNat ((itD (draws (cell) ([4, 8, 256, 2, 40])) (4)))) ([V.ref p377])).flatten)) := h405
        have fr407 := S397.free n401
        have S408 := S397.new n401 e404 h406 fr407
        have d409 : RpAll G386 ((List.replicate (Int.toNat ((itD (draws (cell) ([4, 8, 256, 2, 40])) (4)))) ([V.ref p377])).flatten) ((repL ([((itD ([0, 255, 1, 128, (itD (draws (cell) ([4, 8, 256, 2, 40])) (2)), (itD (draws (cell) ([4, 8, 256, 2, 40])) (2)), (itD (draws (cell) ([4, 8, 256, 2, 40])) (2)), (-1)]) ((itD (draws (cell) ([4, 8, 256, 2, 40])) (1)))), (itD (draws (cell) ([4, 8, 256, 2, 40])) (3)))]) ((itD (draws (cell) ([4, 8, 256, 2, 40])) (4))) : (List (Int × Int))).map (encT2 PyData.int PyData.int)) := rep_all ((itD (draws (cell) ([4, 8, 256, 2, 40])) (4))) d398
        have h410 := (e404 _ _ (e393 _ _ (e381 _ _ (e370 _ _ (e359 _ _ (e353 _ _ h344))))))
        refine ⟨_, _, _, _, rfl, rfl, h410, h406, (cat_len (RpAll.mono eG387 d346) d409 (by simp only [repL_len, List.length_cons, List.length_nil]; omega)), fun p411 n412 => ?_⟩
        generalize g413 : upd H403 p411 _ = H414
        obtain ⟨e415, h416⟩ := gen_new n412 g413
        have h417 : H414 p411 = some (.lst (vs_items ++ (List.replicate (Int.toNat ((itD (draws (cell) ([4, 8, 256, 2, 40])) (4)))) ([V.ref p377])).flatten)) := h416
        have fr418 := S408.free n412
        have S419 := S408.new n412 e415 h417 fr418
        have d420 : RpAll G386 (vs_items ++ (List.replicate (Int.toNat ((itD (draws (cell) ([4, 8, 256, 2, 40])) (4)))) ([V.ref p377])).flatten) (((items) ++ (repL ([((itD ([0, 255, 1, 128, (itD (draws (cell) ([4, 8, 256, 2, 40])) (2)), (itD (draws (cell) ([4, 8, 256, 2, 40])) (2)), (itD (draws (cell) ([4, 8, 256, 2, 40])) (2)), (-1)]) ((itD (draws (cell) ([4, 8, 256, 2, 40])) (1)))), (itD (draws (cell) ([4, 8, 256, 2, 40])) (3)))]) ((itD (draws (cell) ([4, 8, 256, 2, 40])) (4)))) : (List (Int × Int))).map (encT2 PyData.int PyData.int)) := app_map (RpAll.mono eG387 d346) d409
        refine ⟨_, ((items) ++ (repL ([((itD ([0, 255, 1, 128, (itD (draws (cell) ([4, 8, 256, 2, 40])) (2)), (itD (draws (cell) ([4, 8, 256, 2, 40])) (2)), (itD (draws (cell) ([4, 8, 256, 2, 40])) (2)), (-1)]) ((itD (draws (cell) ([4, 8, 256, 2, 40])) (1)))), (itD (draws (cell) ([4, 8, 256, 2, 40])) (3)))]) ((itD (draws (cell) ([4, 8, 256, 2, 40])) (4))))), _, _, _, _, _, _, rfl, (Same.trans eG348 eG387), (S419.sub (all_cons (.head _) all_nil)), h417, fr418, d420, ?_⟩
        refine ⟨?_, ?_⟩
        · simp only [List.length_append, repL_len, List.length_map, List.length_range, List.length_cons, List.length_nil]; omega
        · rw [take_succ_get hi, List.foldl_append, ← hf]; clear hf; simp only [List.foldl_cons, List.foldl_nil]; unfold itemsStep; first | (rw [if_pos ‹_›]; rfl) | (rw [if_neg ‹_›]; rfl)
      · have c376 : ¬ ((itD (draws (cell) ([4, 8, 256, 2, 40])) (0)) < 2) := c376
        refine ⟨_, rfl, .inl ⟨_, rfl, ?_⟩⟩
        refine ⟨_, _, rfl, rfl, (by first | exact divW_lit (by decide) (by decide) | exact divW_small (by omega) (by omega)), (by show 1 ≤ sizeLine; decide), fun p421 n422 => ?_⟩
        generalize g423 : upd H369 p421 _ = H424
        obtain ⟨e425, h426⟩ := gen_new n422 g423
        have h427 : H424 p421 = some (.lst (([2] : (List Int)).map V.int)) := h426
        have fr428 := S374.free n422
        have S429 := S374.new n422 e425 h427 fr428
        have h430 := (e425 _ _ h375)
        refine ⟨_, rfl, _, _, _, _, rfl, rfl, (SqL.of h430), (atI_map (by omega)), _, _, _, rfl, rfl, h427, (by first | omega | decide), (by first | omega | decide), (rep_lenM (by first | omega | (simp only [List.length_map, List.length_append, List.length_take, List.length_range, List.length_cons, List.length_nil, repL_len]; omega))), fun p431 n432 => ?_⟩
        generalize g433 : upd H424 p431 _ = H434
        obtain ⟨e435, h436⟩ := gen_new n432 g433
        have h437 : H434 p431 = some (.lst ((repL ([2]) ((itD (draws (cell) ([4, 8, 256, 2, 40])) (4))) : (List Int)).map V.int)) := rep_map h436
        have fr438 := S429.free n432
        have S439 := S429.new n432 e435 h437 fr438
        refine ⟨_, _, _, rfl, h437, (by first | exact lims_rep (by decide) | (rw [len_rep1]; omega)), (by first | exact lims_rep (by decide) | (rw [len_rep1]; omega)), fun p442 H440 n443 e441 h444 => ?_⟩
        have h445 : H440 p442 = some (.lst ((draws ((cell / 1000)) (repL ([2]) ((itD (draws (cell) ([4, 8, 256, 2, 40])) (4)))) : (List Int)).map V.int)) := h444
        have fr446 := S439.free n443
        have S447 := S439.new n443 e441 h445 fr446
        have hlb := bits_len cell
        refine ⟨_, rfl, _, rfl, _, _, rfl, (SqL.of h445), _, rfl, (by omega), (by omega), fun D448 n449 => lc_range (lo := 0) (n := ((((draws ((cell / 1000)) (repL ([2]) ((itD (draws (cell) ([4, 8, 256, 2, 40])) (4))))) : (List Int)).length : Int) : Int).toNat) (fun i H' => ∃ (G' : Hp) (vs : List V), Same G347 G' ∧ Sep [] H G G' H' [D448, p_items, p360, p442] ∧ H' p_items = some (.lst (vs_items)) ∧ H' p360 = some (.lst ((draws (cell) ([4, 8, 256, 2, 40])).map V.int)) ∧ H' p442 = some (.lst ((draws ((cell / 1000)) (repL ([2]) ((itD (draws (cell) ([4, 8, 256, 2, 40])) (4))))).map V.int)) ∧ H' D448 = some (.lst vs) ∧ RpAll G' vs (((List.map (fun (j : Nat) => (fun k => ((itD [0, 255, 1, 128, itD (draws cell [4, 8, 256, 2, 40]) 2, itD (draws cell [4, 8, 256, 2, 40]) 2, itD (draws cell [4, 8, 256, 2, 40]) 2, (-1)] (itD (draws cell [4, 8, 256, 2, 40]) 1) + 1) * (if 0 < k % 3 then 1 else 0) - 1, itD (draws (cell / 1000) (repL [2] (itD (draws cell [4, 8, 256, 2, 40]) 4))) k)) (0 + (j : Int))) (List.range i)) : (List (Int × Int))).map (encT2 PyData.int PyData.int))) ?_ ?_ ?_⟩
        · generalize g450 : upd H440 D448 _ = H451
          obtain ⟨e452, h453⟩ := gen_new n449 g450
          have fr454 := S447.free n449
          have S455 := S447.new n449 e452 h453 fr454
          have h456 := (e452 _ _ (e441 _ _ (e435 _ _ (e425 _ _ (e370 _ _ (e359 _ _ (e353 _ _ h344)))))))
          have h457 := (e452 _ _ (e441 _ _ (e435 _ _ h430)))
          have h458 := (e452 _ _ h445)
          exact ⟨_, [], Same.refl _, (S455.sub (all_cons (.head _) (all_cons (.tail _ (.tail _ (.tail _ (.tail _ (.tail _ (.tail _ (.tail _ (.head _)))))))) (all_cons (.tail _ (.tail _ (.tail _ (.tail _ (.tail _ (.head _)))))) (all_cons (.tail _ (.head _)) all_nil))))), h456, h457, h458, h453, RpAll.nil⟩
        · intro i H459 hi hw
          obtain ⟨G465, vs467, eG466, S460, h461, h462, h463, h464, d468⟩ := hw
          have hlb := bits_len cell
          refine ⟨rfl, ?_⟩
          refine tyes_go ?_
          refine ⟨_, rfl, _, _, rfl, rfl, _, rfl, .inl ⟨_, rfl, ?_⟩⟩
          refine ⟨_, _, rfl, rfl, (by first | omega | decide), _, _, rfl, rfl, .inr ⟨_, rfl, ?_⟩⟩
          refine ⟨_, _, rfl, rfl, (by exact .inr (by split <;> decide)), _, _, rfl, rfl, _, rfl, _, rfl, _, _, _, _, rfl, rfl, (SqL.of h463), (atI_map (by omega)), (by show 2 ≤ sizeLine; decide), fun p469 n470 => ?_⟩
          generalize g471 : upd H459 p469 _ = H472
          obtain ⟨e473, h474⟩ := gen_new n470 g471
          have h475 : H472 p469 = some (.tup [V.int (((((itD ([0, 255, 1, 128, (itD (draws (cell) ([4, 8, 256, 2, 40])) (2)), (itD (draws (cell) ([4, 8, 256, 2, 40])) (2)), (itD (draws (cell) ([4, 8, 256, 2, 40])) (2)), (-1)]) ((itD (draws (cell) ([4, 8, 256, 2, 40])) (1)))) + 1) * (if decide (0 < ((0 + (i : Int)) % 3)) = true then 1 else 0)) - 1)), V.int ((itD (draws ((cell / 1000)) (repL ([2]) ((itD (draws (cell) ([4, 8, 256, 2, 40])) (4))))) ((0 + (i : Int)))))]) := h474
          have fr476 := S460.free n470
          obtain ⟨G478, eG479, hg480, S477⟩ := S460.grow n470 e473 h475 fr476
          have h481 := (e473 _ _ h464)
          refine ⟨_, h481, (app_len (RpAll.mono eG479 d468) (by simp only [List.length_map, List.length_range]; omega)), ?_⟩
          generalize g482 : upd H472 D448 _ = H483
          obtain ⟨x484, h485⟩ := gen_mut g482
          have S486 := S477.mut1 x484 (.head _) h485
          have h487 := (x484 _ _ (e473 _ _ h461) (ne_of_none (e441 _ _ (e435 _ _ (e425 _ _ (e370 _ _ (e359 _ _ (e353 _ _ h344)))))) n449))
          have h488 := (x484 _ _ (e473 _ _ h462) (ne_of_none (e441 _ _ (e435 _ _ h430)) n449))
          have h489 := (x484 _ _ (e473 _ _ h463) (ne_of_none h445 n449))
          exact ⟨_, _, (Same.trans eG466 eG479), S486, h487, h488, h489, h485, (comp_rangeD (RpAll.mono eG479 d468) (rp_mk2 hg480 (.int _) (.int _)) (by simp))⟩
        intro H490 hw
        obtain ⟨G496, vs498, eG497, S491, h492, h493, h494, h495, d499⟩ := hw
        have fr501 := S447.free n449
        have d502 : RpAll G496 vs498 (((List.map (fun (j : Nat) => (fun k => ((itD [0, 255, 1, 128, itD (draws cell [4, 8, 256, 2, 40]) 2, itD (draws cell [4, 8, 256, 2, 40]) 2, itD (draws cell [4, 8, 256, 2, 40]) 2, (-1)] (itD (draws cell [4, 8, 256, 2, 40]) 1) + 1) * (if 0 < k % 3 then 1 else 0) - 1, itD (draws (cell / 1000) (repL [2] (itD (draws cell [4, 8, 256, 2, 40]) 4))) k)) (0 + (j : Int))) (List.range ((((draws ((cell / 1000)) (repL ([2]) ((itD (draws (cell) ([4, 8, 256, 2, 40])) (4))))) : (List Int)).length : Int) : Int).toNat)) : (List (Int × Int))).map (encT2 PyData.int PyData.int)) := d499
        refine ⟨_, _, _, _, rfl, rfl, h492, h495, (cat_len (RpAll.mono eG497 d346) d502 (by simp only [List.length_map, List.length_range]; omega)), fun p503 n504 => ?_⟩
        generalize g505 : upd H490 p503 _ = H506
        obtain ⟨e507, h508⟩ := gen_new n504 g505
        have h509 : H506 p503 = some (.lst (vs_items ++ vs498)) := h508
        have fr510 := S491.free n504
        have S511 := S491.new n504 e507 h509 fr510
        have d512 : RpAll G496 (vs_items ++ vs498) (((items) ++ ((List.map (fun (j : Nat) => (fun k => ((itD [0, 255, 1, 128, itD (draws cell [4, 8, 256, 2, 40]) 2, itD (draws cell [4, 8, 256, 2, 40]) 2, itD (draws cell [4, 8, 256, 2, 40]) 2, (-1)] (itD (draws cell [4, 8, 256, 2, 40]) 1) + 1) * (if 0 < k % 3 then 1 else 0) - 1, itD (draws (cell / 1000) (repL [2] (itD (draws cell [4, 8, 256, 2, 40]) 4))) k)) (0 + (j : Int))) (List.range ((((draws ((cell / 1000)) (repL ([2]) ((itD (draws (cell) ([4, 8, 256, 2, 40])) (4))))) : (List Int)).length : Int) : Int).toNat))) : (List (Int × Int))).map (encT2 PyData.int PyData.int)) := app_map (RpAll.mono eG497 d346) d502
        refine ⟨_, ((items) ++ ((List.map (fun (j : Nat) => (fun k => ((itD [0, 255, 1, 128, itD (draws cell [4, 8, 256, 2, 40]) 2, itD (draws cell [4, 8, 256, 2, 40]) 2, itD (draws cell [4, 8, 256, 2, 40]) 2, (-1)] (itD (draws cell [4, 8, 256, 2, 40]) 1) + 1) * (if 0 < k % 3 then 1 else 0) - 1, itD (draws (cell / 1000) (repL [2] (itD (draws cell [4, 8, 256, 2, 40]) 4))) k)) (0 + (j : Int))) (List.range ((((draws ((cell / 1000)) (repL ([2]) ((itD (draws (cell) ([4, 8, 256, 2, 40])) (4))))) : (List Int)).length : Int) : Int).toNat)))), _, _, _, _, _, _, rfl, (Same.trans eG348 eG497), (S511.sub (all_cons (.head _) all_nil)), h509, fr510, d512, ?_⟩
        refine ⟨?_, ?_⟩
        · simp only [List.length_append, repL_len, List.length_map, List.length_range, List.length_cons, List.length_nil]; omega
        · rw [take_succ_get hi, List.foldl_append, ← hf]; clear hf; simp only [List.foldl_cons, List.foldl_nil]; unfold itemsStep; first | (rw [if_pos ‹_›]; rfl) | (rw [if_neg ‹_›]; rfl)
    · intro σ H513 hw
      rw [show ((script).map V.int).length = (script).length from (by rw [List.length_map])] at hw
      obtain ⟨p_items, items, vs_items, u_cell, u_draws, u_context, u_bits, G518, rfl, eG519, S514, h515, fr516, d517, hu⟩ := hw
      obtain ⟨hl, hf⟩ := hu
      refine ⟨_, rfl, _, rfl, _, rfl, _, _, rfl, (SqL.of h515), fun p520 n521 => ?_⟩
      generalize g522 : upd H513 p520 _ = H523
      obtain ⟨e524, h525⟩ := gen_new n521 g522
      have h526 : H523 p520 = some (.lst (cutV (vs_items) none (some (most)))) := h525
      have fr527 := S514.free n521
      have S528 := S514.new n521 e524 h526 fr527
      have d529 : RpAll G518 (cutV (vs_items) none (some (most))) ((cutL (items) none (some (most)) : (List (Int × Int))).map (encT2 PyData.int PyData.int)) := cut_all none (some (most)) d517
      obtain ⟨G530, eG531, hg532, S533⟩ := Sep.freeze (O' := [p_items]) S528 (.head _) h526 fr527 ((all_cons ⟨(.tail _ (.head _)), (ne_of_none h515 n521)⟩ all_nil))
      exact k _ _ _ S533.b0 S533.g0 S533.sG S533.gn (rp_cast (rp_mk_list hg532 (RpAll.mono eG531 d529)) (by rw [List.take_length] at hf; rw [hf]; rfl))

abbrev N__law_moved : List Str := ["p", "decision"]
theorem sc__law_moved : FnScope N__law_moved ["p", "decision"] (defScope s__law_moved) := ⟨rfl, rfl, rfl, by decide +kernel, rfl, by decide +kernel, by decide +kernel⟩
theorem ok__law_moved (D : DefIn K mg "_law_moved" s__law_moved ["p", "decision"]) (T : Txt K mg AD)  : Cal P w K mg base 1 "_law_moved" (sp__law_moved K AD) := by
  refine D.ok sc__law_moved (fun vs H Q E h => ?_) (fun f cdv A_ outer s H vs Q E hr h => ?_)
  · obtain ⟨p, decision, rfl, _⟩ := h
    rfl
  · obtain ⟨p, decision, rfl, k⟩ := h
    refine ⟨_, (pss_cons (ps_if (pt_cmp (pc_eqI (pv 1) pe_int)) (pss_one (ps_ret (pe_op op_add (pv 0) (pe_op op_shr (pe_op op_sub pe_int (pv 0)) pe_int)))) pss_nil)
      (pss_one (ps_ret (pe_op op_sub (pv 0) (pe_op op_shr (pv 0) pe_int))))), ?_⟩
    have S0 := Sep.start0 H
    refine ⟨_, rfl, _, _, rfl, rfl, _, rfl, ?_⟩
    refine iteD (fun c534 => ?_) (fun c534 => ?_)
    · have c534 : (decision : Int) = 0 := c534
      refine ⟨_, rfl, _, rfl, _, _, rfl, rfl, _, _, rfl, rfl, (show (0 : Int) ≤ 5 by decide), _, _, rfl, rfl, ?_⟩
      exact eq_int k (by simp [adaptE, *])
    · have c534 : ¬ ((decision : Int) = 0) := c534
      refine ⟨_, rfl, _, rfl, _, _, rfl, rfl, (show (0 : Int) ≤ 5 by decide), _, _, rfl, rfl, ?_⟩
      exact eq_int k (by simp [adaptE, *])

abbrev N__law_code_items : List Str := ["encoder", "items", "item"]
theorem sc__law_code_items : FnScope N__law_code_items ["encoder", "items"] (defScope s__law_code_items) := ⟨rfl, rfl, rfl, by decide +kernel, rfl, by decide +kernel, by decide +kernel⟩
theorem ok__law_code_items (D : DefIn K mg "_law_code_items" s__law_code_items ["encoder", "items"]) (T : Txt K mg AD) (c_Encoder_code : MetC P w K mg base 3 AD.c_Encoder "code" (sp_Encoder_code K AD)) (c_Encoder_code_even : MetC P w K mg base 3 AD.c_Encoder "code_even" (sp_Encoder_code_even K AD)) : Cal P w K mg base 4 "_law_code_items" (sp__law_code_items K AD) := by
  refine D.ok sc__law_code_items (fun vs H Q E h => ?_) (fun f cdv A_ outer s H vs Q E hr h => ?_)
  · obtain ⟨p_encoder, dx_encoder, l_encoder_probs, l_encoder_front, enc, v_items, items, rfl, _⟩ := h
    rfl
  · obtain ⟨p_encoder, dx_encoder, l_encoder_probs, l_encoder_front, enc, v_items, items, rfl, h_encoder, h_encoder_probs, h_encoder_front, ne_encoder_0, r_items, pre0, pre1, pre2, k⟩ := h
    refine ⟨_, (pss_one (ps_for PassesOwn.never rfl (pi_listK (K := K) (pv 1)) (pg_name (i := 2) sc__law_code_items.nd rfl (Or.inl rfl)) (pss_one (ps_if (pt_cmp (pc_ge (pe_ix (ix_tupK (K := K)) (pv 2) pe_int (fun _ _ => rfl)) pe_int)) (pss_one (ps_expr (vx_meth c_Encoder_code hr (by decide) (pv 0) (pa_cons (pe_ix (ix_tupK (K := K)) (pv 2) pe_int (fun _ _ => rfl)) (pa_cons (pe_ix (ix_tupK (K := K)) (pv 2) pe_int (fun _ _ => rfl)) pa_nil))))) (pss_one (ps_expr (vx_meth c_Encoder_code_even hr (by decide) (pv 0) (pa_cons (pe_ix (ix_tupK (K := K)) (pv 2) pe_int (fun _ _ => rfl)) pa_nil)))))))), ?_⟩
    have hM : ∀ a ∈ [p_encoder, l_encoder_probs, l_encoder_front], H a ≠ none := (all_cons (some_ne h_encoder) (all_cons (some_ne h_encoder_probs) (all_cons (some_ne h_encoder_front) all_nil)))
    have S0 := Sep.start [p_encoder, l_encoder_probs, l_encoder_front] H hM
    obtain ⟨a535, vs536, rfl, h537, d538⟩ := rp_list r_items
    refine ⟨_, rfl, _, rfl, ⟨_, (SqL.of (S0.sG _ _ h537))⟩, for_list (K := K) (a := a535) (xs := vs536) (fun i σ H' => ∃ (encoder : EncS) (u_item : Option V), σ = [some (V.ref p_encoder), some (V.ref a535), u_item] ∧ Sep [p_encoder, l_encoder_probs, l_encoder_front] H (hideL [p_encoder, l_encoder_probs, l_encoder_front] H) (hideL [p_encoder, l_encoder_probs, l_encoder_front] H) H' [p_encoder, l_encoder_probs, l_encoder_front] ∧ H' p_encoder = some (.ins AD.c_Encoder dx_encoder [("_probabilities", V.ref l_encoder_probs), ("_front", V.ref l_encoder_front), ("_low", V.int (encoder.low)), ("_span", V.int (encoder.span))]) ∧ H' l_encoder_probs = some (.lst ((encoder.probs).map V.int)) ∧ H' l_encoder_front = some (.lst ((encoder.front).map V.int)) ∧ (encoder = encItems enc (items.take i) ∧ EncG encoder ∧ encoder.front.length ≤ enc.front.length + i)) ?_ ?_ ?_ ?_⟩
    · refine ⟨enc, _, rfl, S0, h_encoder, h_encoder_probs, h_encoder_front, ?_⟩
      exact ⟨rfl, pre0, Nat.le_refl _⟩
    · intro i σ H539 _ hw
      obtain ⟨encoder, u_item, rfl, S540, h541, h542, h543, hu⟩ := hw
      exact (SqL.of (S540.sG _ _ h537))
    · intro i x σ H544 hj hw
      obtain ⟨encoder, u_item, rfl, S545, h546, h547, h548, hu⟩ := hw
      obtain ⟨item, hi, r549⟩ := RpAll.get d538 hj
      obtain ⟨a550, v552, v553, rfl, h551, r554, r555⟩ := rp_tup2 r549
      obtain rfl := rp_int r554
      obtain rfl := rp_int r555
      obtain ⟨he, hg, hl⟩ := hu
      have hi1 := get_len hi
      have hit := pre1 _ (List.mem_of_getElem? hi)
      refine ⟨_, rfl, _, _, _, _, rfl, rfl, (SqT.of (S545.sG _ _ h551)), rfl, _, _, rfl, rfl, _, rfl, ?_⟩
      refine iteD (fun c556 => ?_) (fun c556 => ?_)
      · have c556 : 0 ≤ item.1 := c556
        refine ⟨_, rfl, _, _, _, rfl, h546, rfl, _, rfl, _, _, _, _, rfl, rfl, (SqT.of (S545.sG _ _ h551)), rfl, _, rfl, _, _, _, _, rfl, rfl, (SqT.of (S545.sG _ _ h551)), rfl, _, _, _, _, (encoder : EncS), _, _, rfl, h546, h547, h548, ne_encoder_0, (by first | assumption | omega | decide), (by first | assumption | omega | decide), (by first | assumption | omega | decide), (by first | assumption | omega | decide), (by first | assumption | omega | decide), (by first | assumption | omega | decide), fun H557 s558 q559 x560 h561 h563 h564  => ?_⟩
        have S562 := S545.mut x560 (all_cons (.head _) (all_cons (.tail _ (.head _)) (all_cons (.tail _ (.tail _ (.head _))) all_nil))) (all_cons (some_ne h561) (all_cons (some_ne h563) (all_cons (some_ne h564) all_nil)))
        refine ⟨s558, _, rfl, S562, h561, h563, h564, ?_⟩
        exact ⟨by rw [q559, he]; exact items_turn hi (by simp [encItem, *]), by rw [q559]; first | exact code_ok hg (by omega) (by omega) | exact even_ok hg _, by rw [q559]; first | (have := len_code encoder item.1 item.2; omega) | (have := len_narrow encoder 2048 item.2; omega)⟩
      · have c556 : ¬ (0 ≤ item.1) := c556
        refine ⟨_, rfl, _, _, _, rfl, h546, rfl, _, rfl, _, _, _, _, rfl, rfl, (SqT.of (S545.sG _ _ h551)), rfl, _, _, _, _, (encoder : EncS), _, rfl, h546, h547, h548, ne_encoder_0, (by first | assumption | omega | decide), (by first | assumption | omega | decide), (by first | assumption | omega | decide), (by first | assumption | omega | decide), fun H565 s566 q567 x568 h569 h571 h572  => ?_⟩
        have S570 := S545.mut x568 (all_cons (.head _) (all_cons (.tail _ (.head _)) (all_cons (.tail _ (.tail _ (.head _))) all_nil))) (all_cons (some_ne h569) (all_cons (some_ne h571) (all_cons (some_ne h572) all_nil)))
        refine ⟨s566, _, rfl, S570, h569, h571, h572, ?_⟩
        exact ⟨by rw [q567, he]; exact items_turn hi (by simp [encItem, *]), by rw [q567]; first | exact code_ok hg (by omega) (by omega) | exact even_ok hg _, by rw [q567]; first | (have := len_code encoder item.1 item.2; omega) | (have := len_narrow encoder 2048 item.2; omega)⟩
    · intro σ H573 hw
      rw [show (vs536).length = (items).length from (by rw [d538.len, List.length_map])] at hw
      obtain ⟨encoder, u_item, rfl, S574, h575, h576, h577, hu⟩ := hw
      obtain ⟨he, hg, hl⟩ := hu
      have E578 : ((⟨encoder.probs, encoder.front, encoder.low, encoder.span⟩) : EncS) = encItems enc items := by rw [he, List.take_length]
      exact (k _ _ E578 S574.base h575 h576 h577)

abbrev N__law_code : List Str := ["items", "low", "span", "count", "chances", "item", "part", "k", "octets"]
theorem sc__law_code : FnScope N__law_code ["items"] (defScope s__law_code) := ⟨rfl, rfl, rfl, by decide +kernel, rfl, by decide +kernel, by decide +kernel⟩
theorem ok__law_code (D : DefIn K mg "_law_code" s__law_code ["items"]) (T : Txt K mg AD) (c__law_moved : Cal P w K mg base 1 "_law_moved" (sp__law_moved K AD)) : Cal P w K mg base 2 "_law_code" (sp__law_code K AD) := by
  refine D.ok sc__law_code (fun vs H Q E h => ?_) (fun f cdv A_ outer s H vs Q E hr h => ?_)
  · obtain ⟨G, v_items, items, rfl, _⟩ := h
    rfl
  · obtain ⟨G, v_items, items, rfl, sG, r_items, pre0, pre1, k⟩ := h
    refine ⟨_, (pss_cons (ps_set (i := 1) sc__law_code.nd rfl (Or.inr rfl) pe_int)
      (pss_cons (ps_set (i := 2) sc__law_code.nd rfl (Or.inl rfl) (pe_op op_sub (pe_op op_pow pe_int pe_int) pe_int))
      (pss_cons (ps_set (i := 3) sc__law_code.nd rfl (Or.inr rfl) pe_int)
      (pss_cons (ps_set (i := 4) sc__law_code.nd rfl (Or.inl rfl) (pe_op op_rep (pe_lst (pa_cons pe_int pa_nil)) pe_int))
      (pss_cons (ps_for PassesOwn.never rfl (pi_listK (K := K) (pv 0)) (pg_name (i := 5) sc__law_code.nd rfl (Or.inl rfl)) (pss_cons (ps_set (i := 6) sc__law_code.nd rfl (Or.inl rfl) (pe_op op_mul (pe_op op_shr (pv 2) pe_int) (pe_ix (ix_listK (K := K)) (pv 4) (pe_ix (ix_tupK (K := K)) (pv 5) pe_int (fun _ _ => rfl)) (fun _ _ => rfl))))
      (pss_cons (ps_if (pt_cmp (pc_ge (pe_ix (ix_tupK (K := K)) (pv 5) pe_int (fun _ _ => rfl)) pe_int)) (pss_one (ps_asg (vx_call c__law_moved hr (by decide) rfl (pa_cons (pe_ix (ix_listK (K := K)) (pv 4) (pe_ix (ix_tupK (K := K)) (pv 5) pe_int (fun _ _ => rfl)) (fun _ _ => rfl)) (pa_cons (pe_ix (ix_tupK (K := K)) (pv 5) pe_int (fun _ _ => rfl)) pa_nil))) (pg_sub (pv 4) (pe_ix (ix_tupK (K := K)) (pv 5) pe_int (fun _ _ => rfl)) set_list))) pss_nil)
      (pss_cons (ps_if (pt_cmp (pc_eqI (pe_ix (ix_tupK (K := K)) (pv 5) pe_int (fun _ _ => rfl)) pe_int)) (pss_one (ps_set (i := 2) sc__law_code.nd rfl (Or.inl rfl) (pv 6))) (pss_cons (ps_set (i := 1) sc__law_code.nd rfl (Or.inr rfl) (pe_op op_add (pv 1) (pv 6)))
      (pss_one (ps_set (i := 2) sc__law_code.nd rfl (Or.inl rfl) (pe_op op_sub (pv 2) (pv 6))))))
      (pss_one (ps_for PassesOwn.never rfl (pi_range1 rfl T.b_range (pa_cons pe_int pa_nil)) (pg_name (i := 7) sc__law_code.nd rfl (Or.inl rfl)) (pss_one (ps_if (pt_cmp (pc_lt (pv 2) (pe_op op_pow pe_int pe_int))) (pss_cons (ps_set (i := 1) sc__law_code.nd rfl (Or.inr rfl) (pe_op op_mul (pv 1) pe_int))
      (pss_cons (ps_set (i := 2) sc__law_code.nd rfl (Or.inl rfl) (pe_op op_mul (pv 2) pe_int))
      (pss_one (ps_set (i := 3) sc__law_code.nd rfl (Or.inr rfl) (pe_op op_add (pv 3) pe_int))))) pss_nil))))))))
      (pss_cons (ps_setLc (i := 8) (y := "octets") rfl sc__law_code.nd rfl rfl (sw_true rfl rfl rfl (by decide +kernel)) (own := [("k", 7)]) (g := gName 7) (pi_range1 rfl T.b_range (pa_cons (pe_op op_add (pv 3) pe_int) pa_nil)) (blkOk_by (own := [("k", 7)]) (N := N__law_code) (sc := defScope s__law_code) (by decide +kernel)) (fun _ _ _ _ _ => (pg_name (i := 7) sc__law_code.nd rfl (Or.inl rfl))) (fun _ _ _ _ _ => pts_nil) (fun _ _ _ _ _ => (pe_op op_and (pe_op op_shr (pv 1) (pe_op op_mul pe_int (pe_op op_sub (pe_op op_add (pv 3) pe_int) (pv 7)))) pe_int)))
      (pss_cons (ps_for PassesOwn.never rfl (pi_range1 rfl T.b_range (pa_cons (pe_op op_add (pv 3) pe_int) pa_nil)) (pg_name (i := 7) sc__law_code.nd rfl (Or.inl rfl)) (pss_one (ps_if (PW.pt (pw_and (pt_cmp (pc_gt (pe_callB (call_lenLiK (K := K)) (by rfl) T.b_len (by decide +kernel) (pa_cons (pv 8) pa_nil)) pe_int)) (pw_and1 (pt_cmp (pc_eqI (pe_ix (ix_listK (K := K)) (pv 8) (pe_un un_neg pe_int) (fun _ _ => rfl)) pe_int))))) (pss_one (ps_expr (pe_bm0 PySem.F.plainAttrs_list PySem.F.slot_list_pop PySem.F.type_list_pop mt_pop (pv 8)))) pss_nil)))
      (pss_one (ps_ret (pe_tup (pa_cons (pv 8) (pa_cons (pe_slice (sl_listK (K := K)) (pv 4) po_none (po_some pe_int)) pa_nil)))))))))))), ?_⟩
    have S0 := Sep.startG sG
    obtain ⟨a579, vs580, rfl, h581, d582⟩ := rp_list r_items
    refine ⟨_, _, rfl, rfl, (by exact ⟨by decide, by decide, by decide⟩), _, _, rfl, rfl, (by show 1 ≤ sizeLine; decide), fun p583 n584 => ?_⟩
    generalize g585 : upd H p583 _ = H586
    obtain ⟨e587, h588⟩ := gen_new n584 g585
    have h589 : H586 p583 = some (.lst (([2048] : (List Int)).map V.int)) := h588
    have fr590 := S0.free n584
    have S591 := S0.new n584 e587 h589 fr590
    refine ⟨_, _, _, rfl, rfl, h589, (by first | omega | decide), (by first | omega | decide), (rep_lenM (by first | omega | (simp only [List.length_map, List.length_append, List.length_take, List.length_range, List.length_cons, List.length_nil, repL_len]; omega))), fun p592 n593 => ?_⟩
    generalize g594 : upd H586 p592 _ = H595
    obtain ⟨e596, h597⟩ := gen_new n593 g594
    have h598 : H595 p592 = some (.lst ((repL ([2048]) (257) : (List Int)).map V.int)) := rep_map h597
    have fr599 := S591.free n593
    have S600 := S591.new n593 e596 h598 fr599
    refine ⟨_, rfl, _, rfl, ⟨_, (SqL.of (S600.sG _ _ h581))⟩, for_list (K := K) (a := a579) (xs := vs580) (fun i σ H' => ∃ (low : Int) (span : Int) (count : Int) (chances : (List Int)) (u_item : Option V) (u_part : Option V) (u_k : Option V) (G' : Hp), σ = [some (V.ref a579), some (V.int low), some (V.int span), some (V.int count), some (V.ref p592), u_item, u_part, u_k, none] ∧ Same G G' ∧ Sep [] H G G' H' [p592] ∧ H' p592 = some (.lst ((chances).map V.int)) ∧ (CodeR (encItems encInit (items.take i)) chances low span count ∧ count ≤ (i : Int))) ?_ ?_ ?_ ?_⟩
    · refine ⟨_, _, _, (repL ([2048]) (257)), _, _, _, _, rfl, (Same.refl _), (S600.sub (all_cons (.head _) all_nil)), h598, ?_⟩
      exact ⟨codeR_init, by decide⟩
    · intro i σ H601 _ hw
      obtain ⟨low, span, count, chances, u_item, u_part, u_k, G604, rfl, eG605, S602, h603, hu⟩ := hw
      exact (SqL.of (S602.sG _ _ (eG605 _ _ h581)))
    · intro i x σ H606 hj hw
      obtain ⟨low, span, count, chances, u_item, u_part, u_k, G609, rfl, eG610, S607, h608, hu⟩ := hw
      obtain ⟨item, hi, r611⟩ := RpAll.get (RpAll.mono eG610 d582) hj
      obtain ⟨a612, v614, v615, rfl, h613, r616, r617⟩ := rp_tup2 r611
      obtain rfl := rp_int r616
      obtain rfl := rp_int r617
      obtain ⟨hr, hcn⟩ := hu
      have hi1 := get_len hi
      have hit := pre0 _ (List.mem_of_getElem? hi)
      have hg : EncG (encItems encInit (items.take i)) := items_ok init_ok (fun x hx => pre0 x (List.mem_of_mem_take hx))
      obtain ⟨hch, hcp⟩ := codeR_chance hg hr hit.1
      have hsp := hg.mid.span
      refine ⟨_, rfl, _, _, rfl, rfl, (show (0 : Int) ≤ 12 by decide), _, rfl, _, rfl, _, _, _, _, rfl, rfl, (SqT.of (S607.sG _ _ h613)), rfl, _, _, _, _, rfl, rfl, (SqL.of h608), (atI_map (by first | exact hch | exact hch)), _, _, rfl, rfl, (by exact .inr ⟨by omega, by omega⟩), _, rfl, _, _, _, _, rfl, rfl, (SqT.of (S607.sG _ _ h613)), rfl, _, _, rfl, rfl, _, rfl, ?_⟩
      refine iteD (fun c618 => ?_) (fun c618 => ?_)
      · have c618 : 0 ≤ item.1 := c618
        refine ⟨_, rfl, _, rfl, _, _, _, _, rfl, rfl, (SqT.of (S607.sG _ _ h613)), rfl, _, _, _, _, rfl, rfl, (SqL.of h608), (atI_map (by first | exact hch | exact hch)), _, rfl, _, _, _, _, rfl, rfl, (SqT.of (S607.sG _ _ h613)), rfl, _, _, rfl, _, rfl, _, rfl, _, _, _, _, rfl, rfl, (SqT.of (S607.sG _ _ h613)), rfl, _, _, _, _, rfl, rfl, h608, (ixN_map (by first | exact hch | exact hch)), ?_⟩
        generalize g619 : upd H606 p592 _ = H620
        obtain ⟨x621, h622⟩ := gen_mut g619
        have h623 : H620 p592 = some (.lst ((setL (chances) (item.1) (adaptE ((itD (chances) (item.1))) (item.2)) : (List Int)).map V.int)) := set_map h622
        have S624 := S607.mut1 x621 (.head _) h623
        refine ⟨_, rfl, _, _, _, _, rfl, rfl, (SqT.of (S624.sG _ _ h613)), rfl, _, _, rfl, rfl, _, rfl, ?_⟩
        refine iteD (fun c625 => ?_) (fun c625 => ?_)
        · have c625 : (item.2 : Int) = 0 := c625
          refine ⟨_, rfl, ?_⟩
          obtain ⟨cn0, hcn0⟩ : ∃ n : Int, n = (count) := ⟨_, rfl⟩
          obtain ⟨em, hme⟩ : ∃ e : EncS, e = encPre (encItems encInit (items.take i)) (itD chances item.1) item.2 := ⟨_, rfl⟩
          have hmid : EncMid em := by
            rw [hme]
            exact encPre_ok hg hcp _
          have hem : CodeN em ((low)) ((((span / 4096) * (itD (chances) (item.1))))) cn0 := by
            rw [hme, hcn0]
            exact codeN_pre hg hcp hr.toN (by first | (rw [if_pos ‹_›]; done) | (rw [if_neg ‹_›]; done)) (by first | (rw [if_pos ‹_›]; done) | (rw [if_neg ‹_›]; done))
          let l_part_626 : Int := ((span / 4096) * (itD (chances) (item.1)))
          refine ⟨_, rfl, (by omega), (by omega), for_range (lo := 0) (n := (4 : Int).toNat) (fun i σ H' => ∃ (low : Int) (span : Int) (count : Int) (u_k : Option V) (G' : Hp), σ = [some (V.ref a579), some (V.int low), some (V.int span), some (V.int count), some (V.ref p592), some (V.ref a612), some (V.int (l_part_626)), u_k, none] ∧ Same G609 G' ∧ Sep [] H G G' H' [p592] ∧ H' p592 = some (.lst ((setL (chances) (item.1) (adaptE ((itD (chances) (item.1))) (item.2))).map V.int)) ∧ (CodeN (if i = 0 then em else encNorm em) low span count ∧ cn0 ≤ count ∧ count ≤ cn0 + 1 ∧ (i = 0 → count = cn0))) ?_ ?_ ?_⟩
          · refine ⟨_, _, _, _, _, rfl, (Same.refl _), S624, h623, ?_⟩
            refine ⟨?_, by omega, by omega, fun _ => hcn0.symm⟩
            rw [← hcn0]
            exact hem
          · intro i σ H627 hi hw
            obtain ⟨low, span, count, u_k, G630, rfl, eG631, S628, h629, hu⟩ := hw
            obtain ⟨hn, hc0, hc1, hc2⟩ := hu
            refine ⟨_, rfl, _, _, rfl, rfl, (by exact ⟨by decide, by decide, by decide⟩), _, _, rfl, rfl, _, rfl, ?_⟩
            refine iteD (fun c632 => ?_) (fun c632 => ?_)
            · have c632 : span < 16777216 := c632
              refine ⟨_, rfl, _, _, rfl, rfl, (by first | exact .inr ⟨by omega, by omega⟩ | exact .inl ⟨by omega, by omega⟩), _, rfl, _, _, rfl, rfl, (by first | exact .inr ⟨by omega, by omega⟩ | exact .inl ⟨by omega, by omega⟩), _, rfl, _, _, rfl, rfl, ?_⟩
              refine ⟨_, _, _, _, _, rfl, eG631, S628, h629, ?_⟩
              exact codeN_turn hmid hn hc0 hc1 hc2 (by first | exact .inl ⟨‹_›, rfl, rfl, rfl⟩ | exact .inr ⟨‹_›, rfl, rfl, rfl⟩)
            · have c632 : ¬ (span < 16777216) := c632
              refine ⟨_, _, _, _, _, rfl, eG631, S628, h629, ?_⟩
              exact codeN_turn hmid hn hc0 hc1 hc2 (by first | exact .inl ⟨‹_›, rfl, rfl, rfl⟩ | exact .inr ⟨‹_›, rfl, rfl, rfl⟩)
          · intro σ H633 hw
            obtain ⟨low, span, count, u_k, G636, rfl, eG637, S634, h635, hu⟩ := hw
            obtain ⟨hn, hc0, hc1, hc2⟩ := hu
            have hn2 : CodeN (encNorm em) low span count := hn
            refine ⟨_, _, _, (setL (chances) (item.1) (adaptE ((itD (chances) (item.1))) (item.2))), _, _, _, _, rfl, (Same.trans eG610 eG637), S634, h635, ?_⟩
            refine ⟨?_, by omega⟩
            exact codeR_turn hi hg hr hit hme (by unfold codeChances; first | (rw [if_pos ‹_›]; done) | (rw [if_neg ‹_›]; done)) hn2
        · have c625 : ¬ ((item.2 : Int) = 0) := c625
          refine ⟨_, rfl, _, rfl, _, _, rfl, rfl, _, rfl, _, rfl, _, _, rfl, rfl, ?_⟩
          obtain ⟨cn0, hcn0⟩ : ∃ n : Int, n = (count) := ⟨_, rfl⟩
          obtain ⟨em, hme⟩ : ∃ e : EncS, e = encPre (encItems encInit (items.take i)) (itD chances item.1) item.2 := ⟨_, rfl⟩
          have hmid : EncMid em := by
            rw [hme]
            exact encPre_ok hg hcp _
          have hem : CodeN em (((low + ((span / 4096) * (itD (chances) (item.1)))))) (((span - ((span / 4096) * (itD (chances) (item.1)))))) cn0 := by
            rw [hme, hcn0]
            exact codeN_pre hg hcp hr.toN (by first | (rw [if_pos ‹_›]; done) | (rw [if_neg ‹_›]; done)) (by first | (rw [if_pos ‹_›]; done) | (rw [if_neg ‹_›]; done))
          let l_part_638 : Int := ((span / 4096) * (itD (chances) (item.1)))
          refine ⟨_, rfl, (by omega), (by omega), for_range (lo := 0) (n := (4 : Int).toNat) (fun i σ H' => ∃ (low : Int) (span : Int) (count : Int) (u_k : Option V) (G' : Hp), σ = [some (V.ref a579), some (V.int low), some (V.int span), some (V.int count), some (V.ref p592), some (V.ref a612), some (V.int (l_part_638)), u_k, none] ∧ Same G609 G' ∧ Sep [] H G G' H' [p592] ∧ H' p592 = some (.lst ((setL (chances) (item.1) (adaptE ((itD (chances) (item.1))) (item.2))).map V.int)) ∧ (CodeN (if i = 0 then em else encNorm em) low span count ∧ cn0 ≤ count ∧ count ≤ cn0 + 1 ∧ (i = 0 → count = cn0))) ?_ ?_ ?_⟩
          · refine ⟨_, _, _, _, _, rfl, (Same.refl _), S624, h623, ?_⟩
            refine ⟨?_, by omega, by omega, fun _ => hcn0.symm⟩
            rw [← hcn0]
            exact hem
          · intro i σ H639 hi hw
            obtain ⟨low, span, count, u_k, G642, rfl, eG643, S640, h641, hu⟩ := hw
            obtain ⟨hn, hc0, hc1, hc2⟩ := hu
            refine ⟨_, rfl, _, _, rfl, rfl, (by exact ⟨by decide, by decide, by decide⟩), _, _, rfl, rfl, _, rfl, ?_⟩
            refine iteD (fun c644 => ?_) (fun c644 => ?_)
            · have c644 : span < 16777216 := c644
              refine ⟨_, rfl, _, _, rfl, rfl, (by first | exact .inr ⟨by omega, by omega⟩ | exact .inl ⟨by omega, by omega⟩), _, rfl, _, _, rfl, rfl, (by first | exact .inr ⟨by omega, by omega⟩ | exact .inl ⟨by omega, by omega⟩), _, rfl, _, _, rfl, rfl, ?_⟩
              refine ⟨_, _, _, _, _, rfl, eG643, S640, h641, ?_⟩
              exact codeN_turn hmid hn hc0 hc1 hc2 (by first | exact .inl ⟨‹_›, rfl, rfl, rfl⟩ | exact .inr ⟨‹_›, rfl, rfl, rfl⟩)
            · have c644 : ¬ (span < 16777216) := c644
              refine ⟨_, _, _, _, _, rfl, eG643, S640, h641, ?_⟩
              exact codeN_turn hmid hn hc0 hc1 hc2 (by first | exact .inl ⟨‹_›, rfl, rfl, rfl⟩ | exact .inr ⟨‹_›, rfl, rfl, rfl⟩)
          · intro σ H645 hw
            obtain ⟨low, span, count, u_k, G648, rfl, eG649, S646, h647, hu⟩ := hw
            obtain ⟨hn, hc0, hc1, hc2⟩ := hu
            have hn2 : CodeN (encNorm em) low span count := hn
            refine ⟨_, _, _, (setL (chances) (item.1) (adaptE ((itD (chances) (item.1))) (item.2))), _, _, _, _, rfl, (Same.trans eG610 eG649), S646, h647, ?_⟩
            refine ⟨?_, by omega⟩
            exact codeR_turn hi hg hr hit hme (by unfold codeChances; first | (rw [if_pos ‹_›]; done) | (rw [if_neg ‹_›]; done)) hn2
      · have c618 : ¬ (0 ≤ item.1) := c618
        refine ⟨_, rfl, _, _, _, _, rfl, rfl, (SqT.of (S607.sG _ _ h613)), rfl, _, _, rfl, rfl, _, rfl, ?_⟩
        refine iteD (fun c650 => ?_) (fun c650 => ?_)
        · have c650 : (item.2 : Int) = 0 := c650
          refine ⟨_, rfl, ?_⟩
          obtain ⟨cn0, hcn0⟩ : ∃ n : Int, n = (count) := ⟨_, rfl⟩
          obtain ⟨em, hme⟩ : ∃ e : EncS, e = encPre (encItems encInit (items.take i)) (itD chances item.1) item.2 := ⟨_, rfl⟩
          have hmid : EncMid em := by
            rw [hme]
            exact encPre_ok hg hcp _
          have hem : CodeN em ((low)) ((((span / 4096) * (itD (chances) (item.1))))) cn0 := by
            rw [hme, hcn0]
            exact codeN_pre hg hcp hr.toN (by first | (rw [if_pos ‹_›]; done) | (rw [if_neg ‹_›]; done)) (by first | (rw [if_pos ‹_›]; done) | (rw [if_neg ‹_›]; done))
          let l_part_651 : Int := ((span / 4096) * (itD (chances) (item.1)))
          refine ⟨_, rfl, (by omega), (by omega), for_range (lo := 0) (n := (4 : Int).toNat) (fun i σ H' => ∃ (low : Int) (span : Int) (count : Int) (u_k : Option V) (G' : Hp), σ = [some (V.ref a579), some (V.int low), some (V.int span), some (V.int count), some (V.ref p592), some (V.ref a612), some (V.int (l_part_651)), u_k, none] ∧ Same G609 G' ∧ Sep [] H G G' H' [p592] ∧ H' p592 = some (.lst ((chances).map V.int)) ∧ (CodeN (if i = 0 then em else encNorm em) low span count ∧ cn0 ≤ count ∧ count ≤ cn0 + 1 ∧ (i = 0 → count = cn0))) ?_ ?_ ?_⟩
          · refine ⟨_, _, _, _, _, rfl, (Same.refl _), S607, h608, ?_⟩
            refine ⟨?_, by omega, by omega, fun _ => hcn0.symm⟩
            rw [← hcn0]
            exact hem
          · intro i σ H652 hi hw
            obtain ⟨low, span, count, u_k, G655, rfl, eG656, S653, h654, hu⟩ := hw
            obtain ⟨hn, hc0, hc1, hc2⟩ := hu
            refine ⟨_, rfl, _, _, rfl, rfl, (by exact ⟨by decide, by decide, by decide⟩), _, _, rfl, rfl, _, rfl, ?_⟩
            refine iteD (fun c657 => ?_) (fun c657 => ?_)
            · have c657 : span < 16777216 := c657
              refine ⟨_, rfl, _, _, rfl, rfl, (by first | exact .inr ⟨by omega, by omega⟩ | exact .inl ⟨by omega, by omega⟩), _, rfl, _, _, rfl, rfl, (by first | exact .inr ⟨by omega, by omega⟩ | exact .inl ⟨by omega, by omega⟩), _, rfl, _, _, rfl, rfl, ?_⟩
              refine ⟨_, _, _, _, _, rfl, eG656, S653, h654, ?_⟩
              exact codeN_turn hmid hn hc0 hc1 hc2 (by first | exact .inl ⟨‹_›, rfl, rfl, rfl⟩ | exact .inr ⟨‹_›, rfl, rfl, rfl⟩)
            · have c657 : ¬ (span < 16777216) := c657
              refine ⟨_, _, _, _, _, rfl, eG656, S653, h654, ?_⟩
              exact codeN_turn hmid hn hc0 hc1 hc2 (by first | exact .inl ⟨‹_›, rfl, rfl, rfl⟩ | exact .inr ⟨‹_›, rfl, rfl, rfl⟩)
          · intro σ H658 hw
            obtain ⟨low, span, count, u_k, G661, rfl, eG662, S659, h660, hu⟩ := hw
            obtain ⟨hn, hc0, hc1, hc2⟩ := hu
            have hn2 : CodeN (encNorm em) low span count := hn
            refine ⟨_, _, _, (chances), _, _, _, _, rfl, (Same.trans eG610 eG662), S659, h660, ?_⟩
            refine ⟨?_, by omega⟩
            exact codeR_turn hi hg hr hit hme (by unfold codeChances; first | (rw [if_pos ‹_›]; done) | (rw [if_neg ‹_›]; done)) hn2
        · have c650 : ¬ ((item.2 : Int) = 0) := c650
          refine ⟨_, rfl, _, rfl, _, _, rfl, rfl, _, rfl, _, rfl, _, _, rfl, rfl, ?_⟩
          obtain ⟨cn0, hcn0⟩ : ∃ n : Int, n = (count) := ⟨_, rfl⟩
          obtain ⟨em, hme⟩ : ∃ e : EncS, e = encPre (encItems encInit (items.take i)) (itD chances item.1) item.2 := ⟨_, rfl⟩
          have hmid : EncMid em := by
            rw [hme]
            exact encPre_ok hg hcp _
          have hem : CodeN em (((low + ((span / 4096) * (itD (chances) (item.1)))))) (((span - ((span / 4096) * (itD (chances) (item.1)))))) cn0 := by
            rw [hme, hcn0]
            exact codeN_pre hg hcp hr.toN (by first | (rw [if_pos ‹_›]; done) | (rw [if_neg ‹_›]; done)) (by first | (rw [if_pos ‹_›]; done) | (rw [if_neg ‹_›]; done))
          let l_part_663 : Int := ((span / 4096) * (itD (chances) (item.1)))
          refine ⟨_, rfl, (by omega), (by omega), for_range (lo := 0) (n := (4 : Int).toNat) (fun i σ H' => ∃ (low : Int) (span : Int) (count : Int) (u_k : Option V) (G' : Hp), σ = [some (V.ref a579), some (V.int low), some (V.int span), some (V.int count), some (V.ref p592), some (V.ref a612), some (V.int (l_part_663)), u_k, none] ∧ Same G609 G' ∧ Sep [] H G G' H' [p592] ∧ H' p592 = some (.lst ((chances).map V.int)) ∧ (CodeN (if i = 0 then em else encNorm em) low span count ∧ cn0 ≤ count ∧ count ≤ cn0 + 1 ∧ (i = 0 → count = cn0))) ?_ ?_ ?_⟩
          · refine ⟨_, _, _, _, _, rfl, (Same.refl _), S607, h608, ?_⟩
            refine ⟨?_, by omega, by omega, fun _ => hcn0.symm⟩
            rw [← hcn0]
            exact hem
          · intro i σ H664 hi hw
            obtain ⟨low, span, count, u_k, G667, rfl, eG668, S665, h666, hu⟩ := hw
            obtain ⟨hn, hc0, hc1, hc2⟩ := hu
            refine ⟨_, rfl, _, _, rfl, rfl, (by exact ⟨by decide, by decide, by decide⟩), _, _, rfl, rfl, _, rfl, ?_⟩
            refine iteD (fun c669 => ?_) (fun c669 => ?_)
            · have c669 : span < 16777216 := c669
              refine ⟨_, rfl, _, _, rfl, rfl, (by first | exact .inr ⟨by omega, by omega⟩ | exact .inl ⟨by omega, by omega⟩), _, rfl, _, _, rfl, rfl, (by first | exact .inr ⟨by omega, by omega⟩ | exact .inl ⟨by omega, by omega⟩), _, rfl, _, _, rfl, rfl, ?_⟩
              refine ⟨_, _, _, _, _, rfl, eG668, S665, h666, ?_⟩
              exact codeN_turn hmid hn hc0 hc1 hc2 (by first | exact .inl ⟨‹_›, rfl, rfl, rfl⟩ | exact .inr ⟨‹_›, rfl, rfl, rfl⟩)
            · have c669 : ¬ (span < 16777216) := c669
              refine ⟨_, _, _, _, _, rfl, eG668, S665, h666, ?_⟩
              exact codeN_turn hmid hn hc0 hc1 hc2 (by first | exact .inl ⟨‹_›, rfl, rfl, rfl⟩ | exact .inr ⟨‹_›, rfl, rfl, rfl⟩)
          · intro σ H670 hw
            obtain ⟨low, span, count, u_k, G673, rfl, eG674, S671, h672, hu⟩ := hw
            obtain ⟨hn, hc0, hc1, hc2⟩ := hu
            have hn2 : CodeN (encNorm em) low span count := hn
            refine ⟨_, _, _, (chances), _, _, _, _, rfl, (Same.trans eG610 eG674), S671, h672, ?_⟩
            refine ⟨?_, by omega⟩
            exact codeR_turn hi hg hr hit hme (by unfold codeChances; first | (rw [if_pos ‹_›]; done) | (rw [if_neg ‹_›]; done)) hn2
    · intro σ H675 hw
      rw [show (vs580).length = (items).length from (by rw [d582.len, List.length_map])] at hw
      obtain ⟨low, span, count, chances, u_item, u_part, u_k, G678, rfl, eG679, S676, h677, hu⟩ := hw
      obtain ⟨hr, hcn⟩ := hu
      rw [List.take_length] at hr
      have hcl := hr.toN.count
      have hg : EncG (encItems encInit items) := items_ok init_ok pre0
      refine ⟨_, rfl, _, _, rfl, rfl, _, rfl, (by omega), (by omega), fun D680 n681 => lc_range (lo := 0) (n := ((count + 4) : Int).toNat) (fun i H' => Sep [] H G G678 H' [D680, p592] ∧ H' p592 = some (.lst ((chances).map V.int)) ∧ H' D680 = some (.lst (((List.map (fun (j : Nat) => (fun k => PySem.Builtin.bitAnd (low / 2 ^ Int.toNat (8 * (count + 3 - k))) 255) (0 + (j : Int))) (List.range i)) : (List Int)).map V.int))) ?_ ?_ ?_⟩
      · generalize g682 : upd H675 D680 _ = H683
        obtain ⟨e684, h685⟩ := gen_new n681 g682
        have fr686 := S676.free n681
        have S687 := S676.new n681 e684 h685 fr686
        have h688 := (e684 _ _ h677)
        exact ⟨S687, h688, h685⟩
      · intro i H689 hi hw
        obtain ⟨S690, h691, h692⟩ := hw
        refine ⟨rfl, ?_⟩
        refine tyes_go ?_
        refine ⟨_, rfl, _, rfl, _, _, rfl, rfl, _, rfl, _, _, rfl, rfl, _, _, rfl, rfl, (by first | exact .inr ⟨by omega, by omega⟩ | exact .inl ⟨by omega, by omega⟩), _, _, rfl, rfl, (by omega), _, _, rfl, rfl, _, h692, (app_lenM (by simp only [List.length_map, List.length_range]; omega)), ?_⟩
        generalize g693 : upd H689 D680 _ = H694
        obtain ⟨x695, h696⟩ := gen_mut g693
        have S697 := S690.mut1 x695 (.head _) h696
        have h698 := (x695 _ _ h691 (ne_of_none h677 n681))
        exact ⟨S697, h698, (compM_range h696 (by rfl))⟩
      intro H699 hw
      obtain ⟨S700, h701, h702⟩ := hw
      have fr704 := S676.free n681
      have h703 : H699 D680 = some (.lst (((List.map (fun (j : Nat) => (fun k => PySem.Builtin.bitAnd (low / 2 ^ Int.toNat (8 * (count + 3 - k))) 255) (0 + (j : Int))) (List.range ((count + 4) : Int).toNat)) : (List Int)).map V.int)) := h702
      refine ⟨_, rfl, _, _, rfl, rfl, _, rfl, (by omega), (by omega), for_range (lo := 0) (n := ((count + 4) : Int).toNat) (fun i σ H' => ∃ (u_k : Option V) (octets : (List Int)) (G' : Hp), σ = [some (V.ref a579), some (V.int (low)), some (V.int (span)), some (V.int (count)), some (V.ref p592), u_item, u_part, u_k, some (V.ref D680)] ∧ Same G678 G' ∧ Sep [] H G G' H' [p592, D680] ∧ H' p592 = some (.lst ((chances).map V.int)) ∧ H' D680 = some (.lst ((octets).map V.int)) ∧ (stripZ octets = encOctets (encItems encInit items) ∧ (octets = encOctets (encItems encInit items) ∨ (octets.length : Int) + i ≤ count + 4))) ?_ ?_ ?_⟩
      · refine ⟨_, ((List.map (fun (j : Nat) => (fun k => PySem.Builtin.bitAnd (low / 2 ^ Int.toNat (8 * (count + 3 - k))) 255) (0 + (j : Int))) (List.range ((count + 4) : Int).toNat))), _, rfl, (Same.refl _), (S700.sub (all_cons (.tail _ (.head _)) (all_cons (.head _) all_nil))), h701, h703, ?_⟩
        refine ⟨congrArg stripZ (code_oct hg.mid hr.toN), .inr ?_⟩
        simp only [List.length_map, List.length_range]
        omega
      · intro i σ H705 hi hw
        obtain ⟨u_k, octets, G709, rfl, eG710, S706, h707, h708, hu⟩ := hw
        obtain ⟨hs, hl⟩ := hu
        refine ⟨_, rfl, _, _, rfl, (SqL.of h708), _, _, rfl, rfl, _, rfl, ?_⟩
        refine iteD (fun c711 => ?_) (fun c711 => ?_)
        · have c711 : 0 < (((octets) : (List Int)).length : Int) := c711
          refine ⟨_, rfl, _, rfl, _, _, _, _, rfl, rfl, (SqL.of h708), (atI_map (by exact last_in (ne_len ‹_›))), _, _, rfl, rfl, _, rfl, ?_⟩
          refine iteD (fun c712 => ?_) (fun c712 => ?_)
          · have c712 : ((itD (octets) ((-1))) : Int) = 0 := c712
            refine ⟨_, rfl, (.inl ⟨rfl, _, SqL.of h708⟩), _, _, _, rfl, rfl, h708, (pop_map (by exact ne_len ‹_›)), ?_⟩
            generalize g713 : upd H705 D680 _ = H714
            obtain ⟨x715, h716⟩ := gen_mut g713
            have h717 : H714 D680 = some (.lst (((octets).dropLast : (List Int)).map V.int)) := drop_map h716
            have S718 := S706.mut1 x715 (.tail _ (.head _)) h717
            have h719 := (x715 _ _ h707 (ne_of_none h677 n681))
            refine ⟨_, ((octets).dropLast), _, rfl, eG710, S718, h719, h717, ?_⟩
            exact oct_turn hs hl (by first | exact .inl ⟨ne_len ‹_›, ‹_›, rfl⟩ | exact .inr ⟨.inl ‹_›, rfl⟩ | exact .inr ⟨.inr (nil_len ‹_›), rfl⟩)
          · have c712 : ¬ (((itD (octets) ((-1))) : Int) = 0) := c712
            refine ⟨_, (octets), _, rfl, eG710, S706, h707, h708, ?_⟩
            exact oct_turn hs hl (by first | exact .inl ⟨ne_len ‹_›, ‹_›, rfl⟩ | exact .inr ⟨.inl ‹_›, rfl⟩ | exact .inr ⟨.inr (nil_len ‹_›), rfl⟩)
        · have c711 : ¬ (0 < (((octets) : (List Int)).length : Int)) := c711
          refine iteF ?_
          refine ⟨_, (octets), _, rfl, eG710, S706, h707, h708, ?_⟩
          exact oct_turn hs hl (by first | exact .inl ⟨ne_len ‹_›, ‹_›, rfl⟩ | exact .inr ⟨.inl ‹_›, rfl⟩ | exact .inr ⟨.inr (nil_len ‹_›), rfl⟩)
      · intro σ H720 hw
        obtain ⟨u_k, octets, G724, rfl, eG725, S721, h722, h723, hu⟩ := hw
        obtain ⟨hs, hl⟩ := hu
        refine ⟨_, rfl, _, rfl, _, rfl, _, _, rfl, (SqL.of h722), fun p726 n727 => ?_⟩
        generalize g728 : upd H720 p726 _ = H729
        obtain ⟨e730, h731⟩ := gen_new n727 g728
        have h732 : H729 p726 = some (.lst ((cutL (chances) none (some (256)) : (List Int)).map V.int)) := cut_map h731
        have fr733 := S721.free n727
        have S734 := S721.new n727 e730 h732 fr733
        refine ⟨(by show 2 ≤ sizeLine; decide), fun p735 n736 => ?_⟩
        generalize g737 : upd H729 p735 _ = H738
        obtain ⟨e739, h740⟩ := gen_new n736 g737
        have h741 : H738 p735 = some (.tup [V.ref D680, V.ref p726]) := h740
        have fr742 := S734.free n736
        obtain ⟨G744, eG745, hg746, S743⟩ := S734.grow n736 e739 h741 fr742
        have h747 := (e739 _ _ (e730 _ _ h723))
        obtain ⟨G748, eG749, hg750, S751⟩ := Sep.freeze (O' := [p726, p592]) S743 (.tail _ (.tail _ (.head _))) h747 fr704 ((all_cons ⟨(.head _), (ne_of_none h723 n727).symm⟩ (all_cons ⟨(.tail _ (.head _)), (ne_of_none h677 n681)⟩ all_nil)))
        have h752 := (e739 _ _ h732)
        obtain ⟨G753, eG754, hg755, S756⟩ := Sep.freeze (O' := [p592]) S751 (.head _) h752 fr733 ((all_cons ⟨(.tail _ (.head _)), (ne_of_none h722 n727)⟩ all_nil))
        exact k _ _ _ S756.b0 S756.g0 S756.sG S756.gn (rp_cast (rp_mk2 (eG754 _ _ (eG749 _ _ hg746)) (rp_mk_ints (eG754 _ _ hg750)) (rp_mk_ints hg755)) (by rw [oct_end hs hl (by omega), chances_cut hg hr]))

abbrev N_law : List Str := ["script", "items", "encoder", "half", "middle", "due", "octets", "context", "chance"]
theorem sc_law : FnScope N_law ["script"] (defScope s_law) := ⟨rfl, rfl, rfl, by decide +kernel, rfl, by decide +kernel, by decide +kernel⟩
theorem ok_law {f : Addr} {fd : FuncData} (F : Fun K "law" "law" s_law f fd) (T : Txt K mg AD) (c__law_items : Cal P w K mg base 2 "_law_items" (sp__law_items K AD)) (c_Encoder___init__ : MakC P w K mg base 1 "Encoder" AD.c_Encoder (sp_Encoder___init__ K AD)) (c__law_code_items : Cal P w K mg base 4 "_law_code_items" (sp__law_code_items K AD)) (c__law_code : Cal P w K mg base 2 "_law_code" (sp__law_code K AD)) (c_Encoder_octets : MetC P w K mg base 1 AD.c_Encoder "octets" (sp_Encoder_octets K AD)) (c_Encoder_probability : MetC P w K mg base 2 AD.c_Encoder "probability" (sp_Encoder_probability K AD)) : FnOk P w K mg base CX0 5 f fd ["script"] (sp_law K AD) := by
  refine F.ok sc_law (fun vs H Q E h => ?_) (fun cdv A_ outer s H vs Q E hr h => ?_)
  · obtain ⟨a_script, script, rfl, _⟩ := h
    rfl
  · obtain ⟨a_script, script, rfl, q_script, hlen, k⟩ := h
    refine ⟨_, (pss_cons (ps_set (i := 1) sc_law.nd rfl (Or.inl rfl) (vx_call c__law_items hr (by decide) rfl (pa_cons (pv 0) (pa_cons pe_int pa_nil))))
      (pss_cons (ps_set (i := 2) sc_law.nd rfl (Or.inl rfl) (vx_make0 c_Encoder___init__ hr (by decide) rfl))
      (pss_cons (ps_set (i := 3) sc_law.nd rfl (Or.inl rfl) (pe_op op_fdivW (pe_callB (call_lenLK (K := K)) (by rfl) T.b_len (by decide +kernel) (pa_cons (pv 1) pa_nil)) pe_int))
      (pss_cons (ps_expr (vx_call c__law_code_items hr (by decide) rfl (pa_cons (pv 2) (pa_cons (pe_slice (sl_listK (K := K)) (pv 1) po_none (po_some (pv 3))) pa_nil))))
      (pss_cons (ps_set (i := 4) sc_law.nd rfl (Or.inl rfl) (vx_call c__law_code hr (by decide) rfl (pa_cons (pe_slice (sl_listK (K := K)) (pv 1) po_none (po_some (pv 3))) pa_nil)))
      (pss_cons (ps_if (pt_cmpR (op_neT (encOk_L encOk_int) hr.units) (vx_meth0 c_Encoder_octets hr (by decide) (pv 2)) (pe_ix (ix_tupK (K := K)) (pv 4) pe_int (fun _ _ => rfl)) (nomark _)) (pss_one (ps_ret pe_bl)) pss_nil)
      (pss_cons (ps_expr (vx_call c__law_code_items hr (by decide) rfl (pa_cons (pv 2) (pa_cons (pe_slice (sl_listK (K := K)) (pv 1) (po_some (pv 3)) po_none) pa_nil))))
      (pss_cons (ps_set (i := 5) sc_law.nd rfl (Or.inl rfl) (vx_call c__law_code hr (by decide) rfl (pa_cons (pv 1) pa_nil)))
      (pss_cons (ps_set (i := 6) sc_law.nd rfl (Or.inl rfl) (vx_meth0 c_Encoder_octets hr (by decide) (pv 2)))
      (pss_cons (ps_if (PW.pt (pw_or (pt_not (pt_val (pe_callB call_isi (by rfl) T.b_isinstance (by decide +kernel) (pa_cons (pv 6) (pa_cons (pe_bltn (v := V.ty "list") (u := Value.type "list") (by rfl) T.b_list (by decide +kernel) rfl) pa_nil))))) (pw_or (pt_cmpR (op_neT (encOk_L encOk_int) hr.units) (pv 6) (pe_ix (ix_tupK (K := K)) (pv 5) pe_int (fun _ _ => rfl)) (nomark _)) (pw_or1 (pt_cmp (pc_gt (pe_callB (call_lenLiK (K := K)) (by rfl) T.b_len (by decide +kernel) (pa_cons (pv 6) pa_nil)) (pe_op op_add pe_int (pe_callB (call_lenLK (K := K)) (by rfl) T.b_len (by decide +kernel) (pa_cons (pv 1) pa_nil))))))))) (pss_one (ps_ret pe_bl)) pss_nil)
      (pss_cons (ps_if (PW.pt (pw_and (pt_cmp (pc_gt (pe_callB (call_lenLiK (K := K)) (by rfl) T.b_len (by decide +kernel) (pa_cons (pv 6) pa_nil)) pe_int)) (pw_and1 (pt_cmp (pc_eqI (pe_ix (ix_listK (K := K)) (pv 6) (pe_un un_neg pe_int) (fun _ _ => rfl)) pe_int))))) (pss_one (ps_ret pe_bl)) pss_nil)
      (pss_cons (ps_expr (pe_bm PySem.F.plainAttrs_list PySem.F.slot_list_append PySem.F.type_list_append mt_append (pv 6) (pa_cons pe_int pa_nil)))
      (pss_cons (ps_if (pt_cmpR (op_neT (encOk_L encOk_int) hr.units) (vx_meth0 c_Encoder_octets hr (by decide) (pv 2)) (pe_ix (ix_tupK (K := K)) (pv 5) pe_int (fun _ _ => rfl)) (nomark _)) (pss_one (ps_ret pe_bl)) pss_nil)
      (pss_cons (ps_for PassesOwn.never rfl (pi_range1 rfl T.b_range (pa_cons pe_int pa_nil)) (pg_name (i := 7) sc_law.nd rfl (Or.inl rfl)) (pss_cons (ps_set (i := 8) sc_law.nd rfl (Or.inl rfl) (vx_meth c_Encoder_probability hr (by decide) (pv 2) (pa_cons (pv 7) pa_nil)))
      (pss_one (ps_if (PW.pt (pw_or (pt_cmp (pc_neI (pv 8) (pe_ix (ix_listK (K := K)) (pe_ix (ix_tupK (K := K)) (pv 5) pe_int (fun _ _ => rfl)) (pv 7) (fun _ _ => rfl)))) (pw_or1 (pt_not (pt_chain op_le op_le pe_int (pv 8) pe_int))))) (pss_one (ps_ret pe_bl)) pss_nil))))
      (pss_one (ps_ret pe_bl)))))))))))))))), ?_⟩
    have S0 := Sep.start0 H
    refine ⟨_, rfl, H, _, _, _, rfl, S0.sG, (S0.b0.seq q_script), (by first | assumption | omega | decide), fun v759 H757 G760 e758 eG761 sG762 hn763 r764 => ?_⟩
    have S765 := S0.step e758 eG761 sG762 hn763
    obtain ⟨a766, vs767, rfl, h768, d769⟩ := rp_list r764
    have hio := itemsL_ok script 300
    have hil := itemsL_len script
    refine fun x770 dx771 n772 n773 n774 => ?_
    generalize g775 : upd (upd H757 dx771 _) x770 _ = H776
    obtain ⟨e777, h778⟩ := gen_obj n772 n773 n774 g775
    have fr779 := S765.free n772
    have S780 := S765.new n772 e777 h778 fr779
    refine ⟨_, _, rfl, h778, fun H783 l781 l782 s784 q785 x786 n791 n792 ne793 h787 h789 h790 => ⟨rfl, ?_⟩⟩
    have fr794 := S780.free n791
    have fr795 := S780.free n792
    have S788 : Sep _ _ _ _ H783 [l781, l782, x770] := Sep.init S780 x786 (.head _) h787 [l781, l782] (all_cons ⟨n791, some_ne h789, fr794⟩ (all_cons ⟨n792, some_ne h790, fr795⟩ all_nil))
    have E0 := q785
    have G0 : EncG (s784) := by
      rw [E0]
      exact init_ok
    have F0 : ((s784)).front.length = 0 := by
      rw [E0]
      rfl
    refine ⟨_, rfl, _, _, _, rfl, (SqL.of (S788.sG _ _ h768)), (by rw [d769.len, List.length_map]), _, _, rfl, rfl, (by first | exact divW_lit (by decide) (by decide) | exact divW_small (by omega) (by omega)), ?_⟩
    have hi1 := cut_ok hio none (some ((((((itemsL (script) (300)) : (List (Int × Int))).length : Int) / 2))))
    have hi2 := cut_ok hio (some ((((((itemsL (script) (300)) : (List (Int × Int))).length : Int) / 2)))) none
    have hc1 := cut_len (itemsL script 300) none (some ((((((itemsL (script) (300)) : (List (Int × Int))).length : Int) / 2))))
    have hc2 := cut_len (itemsL script 300) (some ((((((itemsL (script) (300)) : (List (Int × Int))).length : Int) / 2)))) none
    have hcc := cut_join (itemsL script 300) (n := ((((((itemsL (script) (300)) : (List (Int × Int))).length : Int) / 2)))) (by omega)
    refine ⟨_, rfl, _, rfl, _, rfl, _, rfl, _, _, rfl, (SqL.of (S788.sG _ _ h768)), fun p796 n797 => ?_⟩
    generalize g798 : upd H783 p796 _ = H799
    obtain ⟨e800, h801⟩ := gen_new n797 g798
    have h802 : H799 p796 = some (.lst (cutV (vs767) none (some (((((itemsL (script) (300)) : (List (Int × Int))).length : Int) / 2))))) := h801
    have fr803 := S788.free n797
    have S804 := S788.new n797 e800 h802 fr803
    have d805 : RpAll G760 (cutV (vs767) none (some (((((itemsL (script) (300)) : (List (Int × Int))).length : Int) / 2)))) ((cutL (itemsL (script) (300)) none (some (((((itemsL (script) (300)) : (List (Int × Int))).length : Int) / 2))) : (List (Int × Int))).map (encT2 PyData.int PyData.int)) := cut_all none (some (((((itemsL (script) (300)) : (List (Int × Int))).length : Int) / 2))) d769
    have h806 := (e800 _ _ h787)
    have h807 := (e800 _ _ h789)
    have h808 := (e800 _ _ h790)
    obtain ⟨G809, eG810, hg811, S812⟩ := Sep.freeze (O' := [l781, l782, x770]) S804 (.head _) h802 fr803 ((all_cons ⟨(.tail _ (.head _)), (ne_of_none h789 n797)⟩ (all_cons ⟨(.tail _ (.tail _ (.head _))), (ne_of_none h790 n797)⟩ (all_cons ⟨(.tail _ (.tail _ (.tail _ (.head _)))), (ne_of_none h787 n797)⟩ all_nil))))
    refine ⟨_, _, _, _, (s784 : EncS), _, _, rfl, h806, h807, h808, ne793, (Rp.mono (S812.hid (all_cons (.tail _ (.tail _ (.head _))) (all_cons (.head _) (all_cons (.tail _ (.head _)) all_nil)))) (rp_mk_list hg811 (RpAll.mono eG810 d805))), (by first | assumption | omega | decide), (by first | assumption | omega | decide), (by first | assumption | omega | decide), fun H813 s814 q815 x816 h817 h819 h820  => ?_⟩
    have S818 := S812.mut x816 (all_cons (.tail _ (.tail _ (.head _))) (all_cons (.head _) (all_cons (.tail _ (.head _)) all_nil))) (all_cons (some_ne h817) (all_cons (some_ne h819) (all_cons (some_ne h820) all_nil)))
    have E1 := q815
    have G1 : EncG (s814) := by
      rw [E1]
      exact items_ok G0 hi1
    have F1 : ((s814)).front.length ≤ 300 := by
      rw [E1]
      exact Nat.le_trans (items_len _ _) (by omega)
    refine ⟨_, rfl, _, rfl, _, rfl, _, _, rfl, (SqL.of (S818.sG _ _ (eG810 _ _ h768))), fun p821 n822 => ?_⟩
    generalize g823 : upd H813 p821 _ = H824
    obtain ⟨e825, h826⟩ := gen_new n822 g823
    have h827 : H824 p821 = some (.lst (cutV (vs767) none (some (((((itemsL (script) (300)) : (List (Int × Int))).length : Int) / 2))))) := h826
    have fr828 := S818.free n822
    have S829 := S818.new n822 e825 h827 fr828
    have d830 : RpAll G809 (cutV (vs767) none (some (((((itemsL (script) (300)) : (List (Int × Int))).length : Int) / 2)))) ((cutL (itemsL (script) (300)) none (some (((((itemsL (script) (300)) : (List (Int × Int))).length : Int) / 2))) : (List (Int × Int))).map (encT2 PyData.int PyData.int)) := cut_all none (some (((((itemsL (script) (300)) : (List (Int × Int))).length : Int) / 2))) (RpAll.mono eG810 d769)
    obtain ⟨G831, eG832, hg833, S834⟩ := Sep.freeze (O' := [l781, l782, x770]) S829 (.head _) h827 fr828 ((all_cons ⟨(.tail _ (.head _)), (ne_of_none h819 n822)⟩ (all_cons ⟨(.tail _ (.tail _ (.head _))), (ne_of_none h820 n822)⟩ (all_cons ⟨(.tail _ (.tail _ (.tail _ (.head _)))), (ne_of_none h817 n822)⟩ all_nil))))
    refine ⟨G831, _, _, rfl, S834.sG, (rp_mk_list hg833 (RpAll.mono eG832 d830)), (by first | assumption | omega | decide), (by first | assumption | omega | decide), fun v837 H835 G838 e836 eG839 sG840 hn841 r842 => ?_⟩
    have S843 := S834.step e836 eG839 sG840 hn841
    obtain ⟨a844, v846, v847, rfl, h845, r848, r849⟩ := rp_tup2 r842
    obtain ⟨a850, rfl, h851⟩ := rp_ints r848
    obtain ⟨a852, rfl, h853⟩ := rp_ints r849
    have h854 := (e836 _ _ (e825 _ _ h817))
    have h855 := (e836 _ _ (e825 _ _ h819))
    have h856 := (e836 _ _ (e825 _ _ h820))
    refine ⟨_, rfl, _, _, _, rfl, h854, rfl, _, _, _, _, (s814 : EncS), rfl, h854, h855, h856, ne793, (by first | assumption | omega | decide), fun p859 H857 n860 e858 h861 => ?_⟩
    have h862 : H857 p859 = some (.lst ((encOctets (s814) : (List Int)).map V.int)) := h861
    have fr863 := S843.free n860
    have S864 := S843.new n860 e858 h862 fr863
    refine ⟨_, rfl, _, _, _, _, rfl, rfl, (SqT.of (S864.sG _ _ h845)), rfl, _, _, (rp_mk_ints h862), (rp_mk_ints (S864.sG _ _ h851)), _, rfl, ?_⟩
    refine iteNF (show (encOctets (s814) : (List Int)) = (encOctets (encItems encInit (cutL (itemsL (script) (300)) none (some (((((itemsL (script) (300)) : (List (Int × Int))).length : Int) / 2))))), (encItems encInit (cutL (itemsL (script) (300)) none (some (((((itemsL (script) (300)) : (List (Int × Int))).length : Int) / 2))))).probs).1 from by rw [E1, E0]) ?_
    refine ⟨_, rfl, _, rfl, _, rfl, _, rfl, _, _, rfl, (SqL.of (S864.sG _ _ (eG839 _ _ (eG832 _ _ (eG810 _ _ h768))))), fun p865 n866 => ?_⟩
    generalize g867 : upd H857 p865 _ = H868
    obtain ⟨e869, h870⟩ := gen_new n866 g867
    have h871 : H868 p865 = some (.lst (cutV (vs767) (some (((((itemsL (script) (300)) : (List (Int × Int))).length : Int) / 2))) none)) := h870
    have fr872 := S864.free n866
    have S873 := S864.new n866 e869 h871 fr872
    have d874 : RpAll G838 (cutV (vs767) (some (((((itemsL (script) (300)) : (List (Int × Int))).length : Int) / 2))) none) ((cutL (itemsL (script) (300)) (some (((((itemsL (script) (300)) : (List (Int × Int))).length : Int) / 2))) none : (List (Int × Int))).map (encT2 PyData.int PyData.int)) := cut_all (some (((((itemsL (script) (300)) : (List (Int × Int))).length : Int) / 2))) none (RpAll.mono eG839 (RpAll.mono eG832 (RpAll.mono eG810 d769)))
    have h875 := (e869 _ _ (e858 _ _ h854))
    have h876 := (e869 _ _ (e858 _ _ h855))
    have h877 := (e869 _ _ (e858 _ _ h856))
    obtain ⟨G878, eG879, hg880, S881⟩ := Sep.freeze (O' := [p859, l781, l782, x770]) S873 (.head _) h871 fr872 ((all_cons ⟨(.tail _ (.head _)), (ne_of_none h862 n866)⟩ (all_cons ⟨(.tail _ (.tail _ (.head _))), (ne_of_none (e858 _ _ h855) n866)⟩ (all_cons ⟨(.tail _ (.tail _ (.tail _ (.head _)))), (ne_of_none (e858 _ _ h856) n866)⟩ (all_cons ⟨(.tail _ (.tail _ (.tail _ (.tail _ (.head _))))), (ne_of_none (e858 _ _ h854) n866)⟩ all_nil)))))
    refine ⟨_, _, _, _, (s814 : EncS), _, _, rfl, h875, h876, h877, ne793, (Rp.mono (S881.hid (all_cons (.tail _ (.tail _ (.tail _ (.head _)))) (all_cons (.tail _ (.head _)) (all_cons (.tail _ (.tail _ (.head _))) all_nil)))) (rp_mk_list hg880 (RpAll.mono eG879 d874))), (by first | assumption | omega | decide), (by first | assumption | omega | decide), (by first | assumption | omega | decide), fun H882 s883 q884 x885 h886 h888 h889  => ?_⟩
    have S887 := S881.mut x885 (all_cons (.tail _ (.tail _ (.tail _ (.head _)))) (all_cons (.tail _ (.head _)) (all_cons (.tail _ (.tail _ (.head _))) all_nil))) (all_cons (some_ne h886) (all_cons (some_ne h888) (all_cons (some_ne h889) all_nil)))
    have E2 := q884
    rw [E1, E0, ← items_app, hcc] at E2
    have G2 : EncG (s883) := by
      rw [E2]
      exact items_ok init_ok hio
    have F2 : ((s883)).front.length ≤ (itemsL script 300).length := by
      rw [E2]
      exact Nat.le_trans (items_len _ _) (by rw [show encInit.front.length = 0 from rfl]; omega)
    have L2 := G2.len
    refine ⟨_, rfl, G878, _, _, rfl, S887.sG, (rp_mk_list (eG879 _ _ (eG839 _ _ (eG832 _ _ (eG810 _ _ h768)))) (RpAll.mono eG879 (RpAll.mono eG839 (RpAll.mono eG832 (RpAll.mono eG810 d769))))), (by first | assumption | omega | decide), (by first | assumption | omega | decide), fun v892 H890 G893 e891 eG894 sG895 hn896 r897 => ?_⟩
    have S898 := S887.step e891 eG894 sG895 hn896
    obtain ⟨a899, v901, v902, rfl, h900, r903, r904⟩ := rp_tup2 r897
    obtain ⟨a905, rfl, h906⟩ := rp_ints r903
    obtain ⟨a907, rfl, h908⟩ := rp_ints r904
    have h909 := (e891 _ _ h886)
    have h910 := (e891 _ _ h888)
    have h911 := (e891 _ _ h889)
    refine ⟨_, rfl, _, _, _, rfl, h909, rfl, _, _, _, _, (s883 : EncS), rfl, h909, h910, h911, ne793, (by first | assumption | omega | decide), fun p914 H912 n915 e913 h916 => ?_⟩
    have h917 : H912 p914 = some (.lst ((encOctets (s883) : (List Int)).map V.int)) := h916
    have fr918 := S898.free n915
    have S919 := S898.new n915 e913 h917 fr918
    refine ⟨_, rfl, _, _, _, _, _, rfl, (.ty _), (.base (.lst h917)), rfl, _, rfl, ?_⟩
    refine iteF ?_
    refine ⟨_, rfl, _, rfl, _, _, _, _, rfl, rfl, (SqT.of (S919.sG _ _ h900)), rfl, _, _, (rp_mk_ints h917), (rp_mk_ints (S919.sG _ _ h906)), _, rfl, ?_⟩
    refine iteNF (show (encOctets (s883) : (List Int)) = (encOctets (encItems encInit (itemsL (script) (300))), (encItems encInit (itemsL (script) (300))).probs).1 from by rw [E2]) ?_
    refine ⟨_, rfl, _, _, rfl, (SqL.of h917), _, rfl, _, _, _, rfl, (SqL.of (S919.sG _ _ (eG894 _ _ (eG879 _ _ (eG839 _ _ (eG832 _ _ (eG810 _ _ h768))))))), (by rw [(RpAll.mono eG894 (RpAll.mono eG879 (RpAll.mono eG839 (RpAll.mono eG832 (RpAll.mono eG810 d769))))).len, List.length_map]), _, _, rfl, rfl, _, _, rfl, rfl, _, rfl, ?_⟩
    refine iteDF (show ¬ ((4 + (((itemsL (script) (300)) : (List (Int × Int))).length : Int)) < (((encOctets (s883)) : (List Int)).length : Int)) from by have := octs_len ((s883)); omega) ?_
    refine ⟨_, rfl, _, _, rfl, (SqL.of h917), _, _, rfl, rfl, _, rfl, ?_⟩
    refine iteD (fun c920 => ?_) (fun c920 => ?_)
    · have c920 : 0 < (((encOctets (s883)) : (List Int)).length : Int) := c920
      refine ⟨_, rfl, _, rfl, _, _, _, _, rfl, rfl, (SqL.of h917), (atI_map (by first | omega | (simp only [List.length_cons, List.length_nil]; omega))), _, _, rfl, rfl, _, rfl, ?_⟩
      refine iteDF (show ¬ (((itD (encOctets (s883)) ((-1))) : Int) = 0) from by exact strip_end (ne_len ‹_›)) ?_
      refine ⟨_, rfl, (.inl ⟨rfl, _, SqL.of h917⟩), _, _, _, rfl, rfl, h917, (app_lenM (by have := octs_len ((s883)); omega)), ?_⟩
      generalize g921 : upd H912 p914 _ = H922
      obtain ⟨x923, h924⟩ := gen_mut g921
      have h925 : H922 p914 = some (.lst (((encOctets (s883)) ++ [1] : (List Int)).map V.int)) := snoc_map h924
      have S926 := S919.mut1 x923 (.head _) h925
      have h927 := (x923 _ _ (e913 _ _ h909) (ne_of_none h909 n915))
      have h928 := (x923 _ _ (e913 _ _ h910) (ne_of_none h910 n915))
      have h929 := (x923 _ _ (e913 _ _ h911) (ne_of_none h911 n915))
      refine ⟨_, rfl, _, _, _, rfl, h927, rfl, _, _, _, _, (s883 : EncS), rfl, h927, h928, h929, ne793, (by first | assumption | omega | decide), fun p932 H930 n933 e931 h934 => ?_⟩
      have h935 : H930 p932 = some (.lst ((encOctets (s883) : (List Int)).map V.int)) := h934
      have fr936 := S926.free n933
      have S937 := S926.new n933 e931 h935 fr936
      refine ⟨_, rfl, _, _, _, _, rfl, rfl, (SqT.of (S937.sG _ _ h900)), rfl, _, _, (rp_mk_ints h935), (rp_mk_ints (S937.sG _ _ h906)), _, rfl, ?_⟩
      refine iteNF (show (encOctets (s883) : (List Int)) = (encOctets (encItems encInit (itemsL (script) (300))), (encItems encInit (itemsL (script) (300))).probs).1 from by rw [E2]) ?_
      refine ⟨_, rfl, (by omega), (by omega), for_range (lo := 0) (n := (256 : Int).toNat) (fun i σ H' => ∃ (u_context : Option V) (u_chance : Option V) (G' : Hp), σ = [some (V.ref a_script), some (V.ref a766), some (V.ref x770), some (V.int (((((itemsL (script) (300)) : (List (Int × Int))).length : Int) / 2))), some (V.ref a844), some (V.ref a899), some (V.ref p914), u_context, u_chance] ∧ Same G893 G' ∧ Sep [] H H G' H' [x770, l781, l782, p914] ∧ H' x770 = some (.ins AD.c_Encoder dx771 [("_probabilities", V.ref l781), ("_front", V.ref l782), ("_low", V.int (s883.low)), ("_span", V.int (s883.span))]) ∧ H' l781 = some (.lst ((s883.probs).map V.int)) ∧ H' l782 = some (.lst ((s883.front).map V.int)) ∧ H' p914 = some (.lst (((encOctets (s883)) ++ [1]).map V.int)) ∧ (True)) ?_ ?_ ?_⟩
      · have h938 := (e931 _ _ h927)
        have h939 := (e931 _ _ h928)
        have h940 := (e931 _ _ h929)
        have h941 := (e931 _ _ h925)
        refine ⟨_, _, _, rfl, (Same.refl _), (S937.sub (all_cons (.tail _ (.tail _ (.tail _ (.tail _ (.tail _ (.head _)))))) (all_cons (.tail _ (.tail _ (.tail _ (.head _)))) (all_cons (.tail _ (.tail _ (.tail _ (.tail _ (.head _))))) (all_cons (.tail _ (.head _)) all_nil))))), h938, h939, h940, h941, ?_⟩
        trivial
      · intro i σ H942 hi hw
        obtain ⟨u_context, u_chance, G948, rfl, eG949, S943, h944, h945, h946, h947, hu⟩ := hw
        refine ⟨_, rfl, _, _, _, rfl, h944, rfl, _, rfl, _, _, _, _, (s883 : EncS), _, rfl, h944, h945, h946, ne793, (by first | assumption | omega | decide), (by first | assumption | omega | decide), (by first | assumption | omega | decide), _, rfl, _, rfl, _, _, _, _, rfl, rfl, (SqT.of (S943.sG _ _ (eG949 _ _ h900))), rfl, _, rfl, _, _, _, _, rfl, rfl, (SqL.of (S943.sG _ _ (eG949 _ _ h908))), (atI_map (by rw [← E2, L2]; omega)), _, _, rfl, rfl, _, rfl, ?_⟩
        refine iteNF (show (itD (s883).probs ((0 + (i : Int))) : Int) = (itD ((encOctets (encItems encInit (itemsL (script) (300))), (encItems encInit (itemsL (script) (300))).probs).2) ((0 + (i : Int)))) from by rw [E2]) ?_
        refine ⟨_, rfl, _, _, rfl, rfl, _, rfl, ?_⟩
        refine iteDT (show 31 ≤ itD (s883).probs ((0 + (i : Int))) from by first | exact (G2.chance (by omega) (by omega)).1 | exact (G2.chance (by omega) (by omega)).2) ?_
        refine ⟨_, _, rfl, rfl, _, rfl, ?_⟩
        refine iteNF (show itD (s883).probs ((0 + (i : Int))) ≤ 4065 from by first | exact (G2.chance (by omega) (by omega)).1 | exact (G2.chance (by omega) (by omega)).2) ?_
        refine ⟨_, _, _, rfl, eG949, S943, h944, h945, h946, h947, ?_⟩
        trivial
      · intro σ H950 hw
        obtain ⟨u_context, u_chance, G956, rfl, eG957, S951, h952, h953, h954, h955, hu⟩ := hw
        exact eq_bl (k _) (by rfl)
    · have c920 : ¬ (0 < (((encOctets (s883)) : (List Int)).length : Int)) := c920
      refine iteF ?_
      refine ⟨_, rfl, (.inl ⟨rfl, _, SqL.of h917⟩), _, _, _, rfl, rfl, h917, (app_lenM (by have := octs_len ((s883)); omega)), ?_⟩
      generalize g958 : upd H912 p914 _ = H959
      obtain ⟨x960, h961⟩ := gen_mut g958
      have h962 : H959 p914 = some (.lst (((encOctets (s883)) ++ [1] : (List Int)).map V.int)) := snoc_map h961
      have S963 := S919.mut1 x960 (.head _) h962
      have h964 := (x960 _ _ (e913 _ _ h909) (ne_of_none h909 n915))
      have h965 := (x960 _ _ (e913 _ _ h910) (ne_of_none h910 n915))
      have h966 := (x960 _ _ (e913 _ _ h911) (ne_of_none h911 n915))
      refine ⟨_, rfl, _, _, _, rfl, h964, rfl, _, _, _, _, (s883 : EncS), rfl, h964, h965, h966, ne793, (by first | assumption | omega | decide), fun p969 H967 n970 e968 h971 => ?_⟩
      have h972 : H967 p969 = some (.lst ((encOctets (s883) : (List Int)).map V.int)) := h971
      have fr973 := S963.free n970
      have S974 := S963.new n970 e968 h972 fr973
      refine ⟨_, rfl, _, _, _, _, rfl, rfl, (SqT.of (S974.sG _ _ h900)), rfl, _, _, (rp_mk_ints h972), (rp_mk_ints (S974.sG _ _ h906)), _, rfl, ?_⟩
      refine iteNF (show (encOctets (s883) : (List Int)) = (encOctets (encItems encInit (itemsL (script) (300))), (encItems encInit (itemsL (script) (300))).probs).1 from by rw [E2]) ?_
      refine ⟨_, rfl, (by omega), (by omega), for_range (lo := 0) (n := (256 : Int).toNat) (fun i σ H' => ∃ (u_context : Option V) (u_chance : Option V) (G' : Hp), σ = [some (V.ref a_script), some (V.ref a766), some (V.ref x770), some (V.int (((((itemsL (script) (300)) : (List (Int × Int))).length : Int) / 2))), some (V.ref a844), some (V.ref a899), some (V.ref p914), u_context, u_chance] ∧ Same G893 G' ∧ Sep [] H H G' H' [x770, l781, l782, p914] ∧ H' x770 = some (.ins AD.c_Encoder dx771 [("_probabilities", V.ref l781), ("_front", V.ref l782), ("_low", V.int (s883.low)), ("_span", V.int (s883.span))]) ∧ H' l781 = some (.lst ((s883.probs).map V.int)) ∧ H' l782 = some (.lst ((s883.front).map V.int)) ∧ H' p914 = some (.lst (((encOctets (s883)) ++ [1]).map V.int)) ∧ (True)) ?_ ?_ ?_⟩
      · have h975 := (e968 _ _ h964)
        have h976 := (e968 _ _ h965)
        have h977 := (e968 _ _ h966)
        have h978 := (e968 _ _ h962)
        refine ⟨_, _, _, rfl, (Same.refl _), (S974.sub (all_cons (.tail _ (.tail _ (.tail _ (.tail _ (.tail _ (.head _)))))) (all_cons (.tail _ (.tail _ (.tail _ (.head _)))) (all_cons (.tail _ (.tail _ (.tail _ (.tail _ (.head _))))) (all_cons (.tail _ (.head _)) all_nil))))), h975, h976, h977, h978, ?_⟩
        trivial
      · intro i σ H979 hi hw
        obtain ⟨u_context, u_chance, G985, rfl, eG986, S980, h981, h982, h983, h984, hu⟩ := hw
        refine ⟨_, rfl, _, _, _, rfl, h981, rfl, _, rfl, _, _, _, _, (s883 : EncS), _, rfl, h981, h982, h983, ne793, (by first | assumption | omega | decide), (by first | assumption | omega | decide), (by first | assumption | omega | decide), _, rfl, _, rfl, _, _, _, _, rfl, rfl, (SqT.of (S980.sG _ _ (eG986 _ _ h900))), rfl, _, rfl, _, _, _, _, rfl, rfl, (SqL.of (S980.sG _ _ (eG986 _ _ h908))), (atI_map (by rw [← E2, L2]; omega)), _, _, rfl, rfl, _, rfl, ?_⟩
        refine iteNF (show (itD (s883).probs ((0 + (i : Int))) : Int) = (itD ((encOctets (encItems encInit (itemsL (script) (300))), (encItems encInit (itemsL (script) (300))).probs).2) ((0 + (i : Int)))) from by rw [E2]) ?_
        refine ⟨_, rfl, _, _, rfl, rfl, _, rfl, ?_⟩
        refine iteDT (show 31 ≤ itD (s883).probs ((0 + (i : Int))) from by first | exact (G2.chance (by omega) (by omega)).1 | exact (G2.chance (by omega) (by omega)).2) ?_
        refine ⟨_, _, rfl, rfl, _, rfl, ?_⟩
        refine iteNF (show itD (s883).probs ((0 + (i : Int))) ≤ 4065 from by first | exact (G2.chance (by omega) (by omega)).1 | exact (G2.chance (by omega) (by omega)).2) ?_
        refine ⟨_, _, _, rfl, eG986, S980, h981, h982, h983, h984, ?_⟩
        trivial
      · intro σ H987 hw
        obtain ⟨u_context, u_chance, G993, rfl, eG994, S988, h989, h990, h991, h992, hu⟩ := hw
        exact eq_bl (k _) (by rfl)
end
def spL (K : PySem.W.Frag) : Sp := fun vs H Q _ => ∃ (a_script : Addr) (script : List Int), vs = [.ref a_script] ∧ SqL K H a_script (script.map V.int) ∧ script.length ≤ 63 ∧ ∀ H', Q (.bl true) H'
theorem all_mk {l : PySem.W.OpenLaw} {w : World} {K : PySem.W.Frag} {h : Heap} {mg : Str → Option Value} {fa : Addr} (X : K.In h) (G : h.Ns mainGlobals mg) (hfa : mg "law" = some (.ref fa))
    {f0 f1 f2 f3 f4 f5 f6 f7 f8 f9 f10 f11 f12 f13 f14 f15 CEncoder : Addr} {od0 an0 od1 an1 od2 an2 od3 an3 od4 an4 od5 an5 od6 an6 od7 an7 od8 an8 od9 an9 od10 an10 od11 an11 od12 an12 od13 an13 od14 an14 od15 an15 : Option Addr} {sl0 sl1 sl2 sl3 sl4 sl5 sl6 sl7 sl8 sl9 sl10 sl11 sl12 sl13 sl14 sl15 : Array (Option Value)} {oc0 kV0 dc0 pm0 cd0 ct0 oc1 kV1 dc1 pm1 cd1 ct1 oc2 kV2 dc2 pm2 cd2 ct2 oc3 kV3 dc3 pm3 cd3 ct3 oc4 kV4 dc4 pm4 cd4 ct4 oc5 kV5 dc5 pm5 cd5 ct5 oc6 kV6 dc6 pm6 cd6 ct6 oc7 kV7 dc7 pm7 cd7 ct7 oc8 kV8 dc8 pm8 cd8 ct8 oc9 kV9 dc9 pm9 cd9 ct9 oc10 kV10 dc10 pm10 cd10 ct10 oc11 kV11 dc11 pm11 cd11 ct11 oc12 kV12 dc12 pm12 cd12 ct12 oc13 kV13 dc13 pm13 cd13 ct13 oc14 kV14 dc14 pm14 cd14 ct14 oc15 kV15 dc15 pm15 cd15 ct15 : Value} {tk0 tk1 tk2 tk3 tk4 tk6 tk7 : Tok}
    (wEncoder : PySem.W.nsIn K mainGlobals "Encoder" = some (some (.ref CEncoder))) (a0 : PySem.W.nsIn K mainGlobals "_check_context" = some (some (.ref f0))) (l0 : K.lookup f0 = some ⟨oc0, od0, .func (PySem.W.fnOf "_check_context" "_check_context" (defArgs s__check_context) (defBody s__check_context) (defScope s__check_context) .none kV0 dc0 pm0 an0 cd0 ct0), sl0⟩) (c0 : PySem.W.codeIn K cd0 "_check_context" = true) (k0 : PySem.W.keepIn K (.ref f0) = true) (a1 : PySem.W.nsIn K mainGlobals "_check_decision" = some (some (.ref f1))) (l1 : K.lookup f1 = some ⟨oc1, od1, .func (PySem.W.fnOf "_check_decision" "_check_decision" (defArgs s__check_decision) (defBody s__check_decision) (defScope s__check_decision) .none kV1 dc1 pm1 an1 cd1 ct1), sl1⟩) (c1 : PySem.W.codeIn K cd1 "_check_decision" = true) (k1 : PySem.W.keepIn K (.ref f1) = true) (a2 : PySem.W.nsIn K mainGlobals "_adapted" = some (some (.ref f2))) (l2 : K.lookup f2 = some ⟨oc2, od2, .func (PySem.W.fnOf "_adapted" "_adapted" (defArgs s__adapted) (defBody s__adapted) (defScope s__adapted) .none kV2 dc2 pm2 an2 cd2 ct2), sl2⟩) (c2 : PySem.W.codeIn K cd2 "_adapted" = true) (k2 : PySem.W.keepIn K (.ref f2) = true) (a3 : PySem.W.findIn K (.ref CEncoder) "__init__" = some (some (.ref f3))) (b3 : PySem.W.isFn K (.ref f3) = true) (d3 : PySem.W.makesIn K CEncoder = true) (e3 : PySem.W.keepIn K (.ref CEncoder) = true) (l3 : K.lookup f3 = some ⟨oc3, od3, .func (PySem.W.fnOf "__init__" "Encoder.__init__" (defArgs s_Encoder___init__) (defBody s_Encoder___init__) (defScope s_Encoder___init__) .none kV3 dc3 pm3 an3 cd3 ct3), sl3⟩) (c3 : PySem.W.codeIn K cd3 "Encoder.__init__" = true) (k3 : PySem.W.keepIn K (.ref f3) = true) (a4 : PySem.W.findIn K (.ref CEncoder) "_carry" = some (some (.ref f4))) (b4 : PySem.W.isFn K (.ref f4) = true) (l4 : K.lookup f4 = some ⟨oc4, od4, .func (PySem.W.fnOf "_carry" "Encoder._carry" (defArgs s_Encoder__carry) (defBody s_Encoder__carry) (defScope s_Encoder__carry) .none kV4 dc4 pm4 an4 cd4 ct4), sl4⟩) (c4 : PySem.W.codeIn K cd4 "Encoder._carry" = true) (k4 : PySem.W.keepIn K (.ref f4) = true) (a5 : PySem.W.findIn K (.ref CEncoder) "_narrow" = some (some (.ref f5))) (b5 : PySem.W.isFn K (.ref f5) = true) (l5 : K.lookup f5 = some ⟨oc5, od5, .func (PySem.W.fnOf "_narrow" "Encoder._narrow" (defArgs s_Encoder__narrow) (defBody s_Encoder__narrow) (defScope s_Encoder__narrow) .none kV5 dc5 pm5 an5 cd5 ct5), sl5⟩) (c5 : PySem.W.codeIn K cd5 "Encoder._narrow" = true) (k5 : PySem.W.keepIn K (.ref f5) = true) (a6 : PySem.W.findIn K (.ref CEncoder) "code" = some (some (.ref f6))) (b6 : PySem.W.isFn K (.ref f6) = true) (l6 : K.lookup f6 = some ⟨oc6, od6, .func (PySem.W.fnOf "code" "Encoder.code" (defArgs s_Encoder_code) (defBody s_Encoder_code) (defScope s_Encoder_code) .none kV6 dc6 pm6 an6 cd6 ct6), sl6⟩) (c6 : PySem.W.codeIn K cd6 "Encoder.code" = true) (k6 : PySem.W.keepIn K (.ref f6) = true) (a7 : PySem.W.findIn K (.ref CEncoder) "code_even" = some (some (.ref f7))) (b7 : PySem.W.isFn K (.ref f7) = true) (l7 : K.lookup f7 = some ⟨oc7, od7, .func (PySem.W.fnOf "code_even" "Encoder.code_even" (defArgs s_Encoder_code_even) (defBody s_Encoder_code_even) (defScope s_Encoder_code_even) .none kV7 dc7 pm7 an7 cd7 ct7), sl7⟩) (c7 : PySem.W.codeIn K cd7 "Encoder.code_even" = true) (k7 : PySem.W.keepIn K (.ref f7) = true) (a8 : PySem.W.findIn K (.ref CEncoder) "octets" = some (some (.ref f8))) (b8 : PySem.W.isFn K (.ref f8) = true) (l8 : K.lookup f8 = some ⟨oc8, od8, .func (PySem.W.fnOf "octets" "Encoder.octets" (defArgs s_Encoder_octets) (defBody s_Encoder_octets) (defScope s_Encoder_octets) .none kV8 dc8 pm8 an8 cd8 ct8), sl8⟩) (c8 : PySem.W.codeIn K cd8 "Encoder.octets" = true) (k8 : PySem.W.keepIn K (.ref f8) = true) (a9 : PySem.W.findIn K (.ref CEncoder) "probability" = some (some (.ref f9))) (b9 : PySem.W.isFn K (.ref f9) = true) (l9 : K.lookup f9 = some ⟨oc9, od9, .func (PySem.W.fnOf "probability" "Encoder.probability" (defArgs s_Encoder_probability) (defBody s_Encoder_probability) (defScope s_Encoder_probability) .none kV9 dc9 pm9 an9 cd9 ct9), sl9⟩) (c9 : PySem.W.codeIn K cd9 "Encoder.probability" = true) (k9 : PySem.W.keepIn K (.ref f9) = true) (a10 : PySem.W.nsIn K mainGlobals "_law_draws" = some (some (.ref f10))) (l10 : K.lookup f10 = some ⟨oc10, od10, .func (PySem.W.fnOf "_law_draws" "_law_draws" (defArgs s__law_draws) (defBody s__law_draws) (defScope s__law_draws) .none kV10 dc10 pm10 an10 cd10 ct10), sl10⟩) (c10 : PySem.W.codeIn K cd10 "_law_draws" = true) (k10 : PySem.W.keepIn K (.ref f10) = true) (a11 : PySem.W.nsIn K mainGlobals "_law_items" = some (some (.ref f11))) (l11 : K.lookup f11 = some ⟨oc11, od11, .func (PySem.W.fnOf "_law_items" "_law_items" (defArgs s__law_items) (defBody s__law_items) (defScope s__law_items) .none kV11 dc11 pm11 an11 cd11 ct11), sl11⟩) (c11 : PySem.W.codeIn K cd11 "_law_items" = true) (k11 : PySem.W.keepIn K (.ref f11) = true) (a12 : PySem.W.nsIn K mainGlobals "_law_moved" = some (some (.ref f12))) (l12 : K.lookup f12 = some ⟨oc12, od12, .func (PySem.W.fnOf "_law_moved" "_law_moved" (defArgs s__law_moved) (defBody s__law_moved) (defScope s__law_moved) .none kV12 dc12 pm12 an12 cd12 ct12), sl12⟩) (c12 : PySem.W.codeIn K cd12 "_law_moved" = true) (k12 : PySem.W.keepIn K (.ref f12) = true) (a13 : PySem.W.nsIn K mainGlobals "_law_code_items" = some (some (.ref f13))) (l13 : K.lookup f13 = some ⟨oc13, od13, .func (PySem.W.fnOf "_law_code_items" "_law_code_items" (defArgs s__law_code_items) (defBody s__law_code_items) (defScope s__law_code_items) .none kV13 dc13 pm13 an13 cd13 ct13), sl13⟩) (c13 : PySem.W.codeIn K cd13 "_law_code_items" = true) (k13 : PySem.W.keepIn K (.ref f13) = true) (a14 : PySem.W.nsIn K mainGlobals "_law_code" = some (some (.ref f14))) (l14 : K.lookup f14 = some ⟨oc14, od14, .func (PySem.W.fnOf "_law_code" "_law_code" (defArgs s__law_code) (defBody s__law_code) (defScope s__law_code) .none kV14 dc14 pm14 an14 cd14 ct14), sl14⟩) (c14 : PySem.W.codeIn K cd14 "_law_code" = true) (k14 : PySem.W.keepIn K (.ref f14) = true) (a15 : PySem.W.nsIn K mainGlobals "law" = some (some (.ref f15))) (l15 : K.lookup f15 = some ⟨oc15, od15, .func (PySem.W.fnOf "law" "law" (defArgs s_law) (defBody s_law) (defScope s_law) .none kV15 dc15 pm15 an15 cd15 ct15), sl15⟩) (c15 : PySem.W.codeIn K cd15 "law" = true) (k15 : PySem.W.keepIn K (.ref f15) = true)
    (z0 : PySem.W.nsIn K mainGlobals "CONTEXTS" = some (some (.int 256 tk0))) (z1 : PySem.W.nsIn K mainGlobals "SCALE" = some (some (.int 4096 tk1))) (z2 : PySem.W.nsIn K mainGlobals "RATE" = some (some (.int 5 tk2))) (z3 : PySem.W.nsIn K mainGlobals "EVEN" = some (some (.int 2048 tk3))) (z4 : PySem.W.nsIn K mainGlobals "WORD" = some (some (.int 4294967296 tk4))) (z5 : PySem.W.nsIn K mainGlobals "len" = some none) (z6 : PySem.W.nsIn K mainGlobals "SCALE_BITS" = some (some (.int 12 tk6))) (z7 : PySem.W.nsIn K mainGlobals "LEAST_SPAN" = some (some (.int 16777216 tk7))) (z8 : PySem.W.nsIn K mainGlobals "abs" = some none) (z9 : PySem.W.nsIn K mainGlobals "int" = some none) (z10 : PySem.W.nsIn K mainGlobals "range" = some none) (z11 : PySem.W.nsIn K mainGlobals "isinstance" = some none) (z12 : PySem.W.nsIn K mainGlobals "list" = some none) (yEncoder0 : PySem.W.plainGet K CEncoder Str.empty = true) (yEncoder1 : PySem.W.hasDictIn K CEncoder = true) (yEncoder2 : PySem.W.plainOver K CEncoder = true) (yEncoder3 : PySem.W.findIn K (.ref CEncoder) "__setattr__" = some (some (.builtin "object.__setattr__"))) (xEncoder0 : PySem.W.findIn K (.ref CEncoder) "_probabilities" = some none) (xEncoder1 : PySem.W.findIn K (.ref CEncoder) "_front" = some none) (xEncoder2 : PySem.W.findIn K (.ref CEncoder) "_low" = some none) (xEncoder3 : PySem.W.findIn K (.ref CEncoder) "_span" = some none) :
    ∃ fd : FuncData, (∀ (s : Shared) (v : Value), BindsTo s fd ⟨[v], []⟩ [("script", v)]) ∧ ∀ base : Heap, K.In base → base.Ns mainGlobals mg → FnOk l.prog w K mg base CX0 5 fa fd ["script"] (spL K) := by
  have e := hfa.symm.trans (PySem.W.mg_of X G a15)
  cases e
  have T : Txt K mg ⟨CEncoder⟩ := ⟨⟨_, PySem.W.mg_of X G z0, ⟨_, rfl⟩⟩, ⟨_, PySem.W.mg_of X G z1, ⟨_, rfl⟩⟩, ⟨_, PySem.W.mg_of X G z2, ⟨_, rfl⟩⟩, ⟨_, PySem.W.mg_of X G z3, ⟨_, rfl⟩⟩, ⟨_, PySem.W.mg_of X G z4, ⟨_, rfl⟩⟩, PySem.W.mg_none_of X G z5, ⟨_, PySem.W.mg_of X G z6, ⟨_, rfl⟩⟩, ⟨_, PySem.W.mg_of X G z7, ⟨_, rfl⟩⟩, PySem.W.mg_none_of X G z8, PySem.W.mg_none_of X G z9, PySem.W.mg_none_of X G z10, PySem.W.mg_none_of X G z11, PySem.W.mg_none_of X G z12, ⟨yEncoder0, yEncoder1, yEncoder2, yEncoder3⟩, xEncoder0, xEncoder1, xEncoder2, xEncoder3⟩
  have F0 := fun_mk (st := s__check_context) l0 c0 k0
  have bd0 := F0.binds (ps := ["context"]) fun _ _ _ _ _ _ us hl => match us, hl with | [_], _ => rfl
  have D0 : DefIn K mg "_check_context" s__check_context ["context"] := ⟨_, _, F0, PySem.W.mg_of X G a0, bd0⟩
  have F1 := fun_mk (st := s__check_decision) l1 c1 k1
  have bd1 := F1.binds (ps := ["decision"]) fun _ _ _ _ _ _ us hl => match us, hl with | [_], _ => rfl
  have D1 : DefIn K mg "_check_decision" s__check_decision ["decision"] := ⟨_, _, F1, PySem.W.mg_of X G a1, bd1⟩
  have F2 := fun_mk (st := s__adapted) l2 c2 k2
  have bd2 := F2.binds (ps := ["chance", "decision"]) fun _ _ _ _ _ _ us hl => match us, hl with | [_, _], _ => rfl
  have D2 : DefIn K mg "_adapted" s__adapted ["chance", "decision"] := ⟨_, _, F2, PySem.W.mg_of X G a2, bd2⟩
  have F3 := fun_mk (st := s_Encoder___init__) l3 c3 k3
  have bd3 := F3.binds (ps := ["self"]) fun _ _ _ _ _ _ us hl => match us, hl with | [_], _ => rfl
  have D3 : InitIn K mg CEncoder "Encoder" "Encoder.__init__" s_Encoder___init__ ["self"] := ⟨_, _, F3, ⟨d3, a3, b3, e3⟩, PySem.W.mg_of X G wEncoder, bd3⟩
  have F4 := fun_mk (st := s_Encoder__carry) l4 c4 k4
  have bd4 := F4.binds (ps := ["self"]) fun _ _ _ _ _ _ us hl => match us, hl with | [_], _ => rfl
  have D4 : MethIn K CEncoder "Encoder._carry" "_carry" s_Encoder__carry ["self"] := ⟨_, _, F4, ⟨a4, b4, k4⟩, bd4⟩
  have F5 := fun_mk (st := s_Encoder__narrow) l5 c5 k5
  have bd5 := F5.binds (ps := ["self", "chance", "decision"]) fun _ _ _ _ _ _ us hl => match us, hl with | [_, _, _], _ => rfl
  have D5 : MethIn K CEncoder "Encoder._narrow" "_narrow" s_Encoder__narrow ["self", "chance", "decision"] := ⟨_, _, F5, ⟨a5, b5, k5⟩, bd5⟩
  have F6 := fun_mk (st := s_Encoder_code) l6 c6 k6
  have bd6 := F6.binds (ps := ["self", "context", "decision"]) fun _ _ _ _ _ _ us hl => match us, hl with | [_, _, _], _ => rfl
  have D6 : MethIn K CEncoder "Encoder.code" "code" s_Encoder_code ["self", "context", "decision"] := ⟨_, _, F6, ⟨a6, b6, k6⟩, bd6⟩
  have F7 := fun_mk (st := s_Encoder_code_even) l7 c7 k7
  have bd7 := F7.binds (ps := ["self", "decision"]) fun _ _ _ _ _ _ us hl => match us, hl with | [_, _], _ => rfl
  have D7 : MethIn K CEncoder "Encoder.code_even" "code_even" s_Encoder_code_even ["self", "decision"] := ⟨_, _, F7, ⟨a7, b7, k7⟩, bd7⟩
  have F8 := fun_mk (st := s_Encoder_octets) l8 c8 k8
  have bd8 := F8.binds (ps := ["self"]) fun _ _ _ _ _ _ us hl => match us, hl with | [_], _ => rfl
  have D8 : MethIn K CEncoder "Encoder.octets" "octets" s_Encoder_octets ["self"] := ⟨_, _, F8, ⟨a8, b8, k8⟩, bd8⟩
  have F9 := fun_mk (st := s_Encoder_probability) l9 c9 k9
  have bd9 := F9.binds (ps := ["self", "context"]) fun _ _ _ _ _ _ us hl => match us, hl with | [_, _], _ => rfl
  have D9 : MethIn K CEncoder "Encoder.probability" "probability" s_Encoder_probability ["self", "context"] := ⟨_, _, F9, ⟨a9, b9, k9⟩, bd9⟩
  have F10 := fun_mk (st := s__law_draws) l10 c10 k10
  have bd10 := F10.binds (ps := ["cell", "limits"]) fun _ _ _ _ _ _ us hl => match us, hl with | [_, _], _ => rfl
  have D10 : DefIn K mg "_law_draws" s__law_draws ["cell", "limits"] := ⟨_, _, F10, PySem.W.mg_of X G a10, bd10⟩
  have F11 := fun_mk (st := s__law_items) l11 c11 k11
  have bd11 := F11.binds (ps := ["script", "most"]) fun _ _ _ _ _ _ us hl => match us, hl with | [_, _], _ => rfl
  have D11 : DefIn K mg "_law_items" s__law_items ["script", "most"] := ⟨_, _, F11, PySem.W.mg_of X G a11, bd11⟩
  have F12 := fun_mk (st := s__law_moved) l12 c12 k12
  have bd12 := F12.binds (ps := ["p", "decision"]) fun _ _ _ _ _ _ us hl => match us, hl with | [_, _], _ => rfl
  have D12 : DefIn K mg "_law_moved" s__law_moved ["p", "decision"] := ⟨_, _, F12, PySem.W.mg_of X G a12, bd12⟩
  have F13 := fun_mk (st := s__law_code_items) l13 c13 k13
  have bd13 := F13.binds (ps := ["encoder", "items"]) fun _ _ _ _ _ _ us hl => match us, hl with | [_, _], _ => rfl
  have D13 : DefIn K mg "_law_code_items" s__law_code_items ["encoder", "items"] := ⟨_, _, F13, PySem.W.mg_of X G a13, bd13⟩
  have F14 := fun_mk (st := s__law_code) l14 c14 k14
  have bd14 := F14.binds (ps := ["items"]) fun _ _ _ _ _ _ us hl => match us, hl with | [_], _ => rfl
  have D14 : DefIn K mg "_law_code" s__law_code ["items"] := ⟨_, _, F14, PySem.W.mg_of X G a14, bd14⟩
  have F15 := fun_mk (st := s_law) l15 c15 k15
  have bd15 := F15.binds (ps := ["script"]) fun _ _ _ _ _ _ us hl => match us, hl with | [_], _ => rfl
  have D15 : DefIn K mg "law" s_law ["script"] := ⟨_, _, F15, PySem.W.mg_of X G a15, bd15⟩
  have R__check_context : ∀ base : Heap, Cal l.prog w K mg base 1 "_check_context" (sp__check_context K ⟨CEncoder⟩) := fun base => ok__check_context D0 T 
  have R__check_decision : ∀ base : Heap, Cal l.prog w K mg base 1 "_check_decision" (sp__check_decision K ⟨CEncoder⟩) := fun base => ok__check_decision D1 T 
  have R__adapted : ∀ base : Heap, Cal l.prog w K mg base 1 "_adapted" (sp__adapted K ⟨CEncoder⟩) := fun base => ok__adapted D2 T 
  have R_Encoder___init__ : ∀ base : Heap, MakC l.prog w K mg base 1 "Encoder" (⟨CEncoder⟩ : Ads).c_Encoder (sp_Encoder___init__ K ⟨CEncoder⟩) := fun base => ok_Encoder___init__ D3 T 
  have R_Encoder__carry : ∀ base : Heap, MetC l.prog w K mg base 1 (⟨CEncoder⟩ : Ads).c_Encoder "_carry" (sp_Encoder__carry K ⟨CEncoder⟩) := fun base => ok_Encoder__carry D4 T 
  have R_Encoder__narrow : ∀ base : Heap, MetC l.prog w K mg base 2 (⟨CEncoder⟩ : Ads).c_Encoder "_narrow" (sp_Encoder__narrow K ⟨CEncoder⟩) := fun base => ok_Encoder__narrow D5 T (R_Encoder__carry base)
  have R_Encoder_code : ∀ base : Heap, MetC l.prog w K mg base 3 (⟨CEncoder⟩ : Ads).c_Encoder "code" (sp_Encoder_code K ⟨CEncoder⟩) := fun base => ok_Encoder_code D6 T (R__check_context base) (R__check_decision base) (R_Encoder__narrow base) (R__adapted base)
  have R_Encoder_code_even : ∀ base : Heap, MetC l.prog w K mg base 3 (⟨CEncoder⟩ : Ads).c_Encoder "code_even" (sp_Encoder_code_even K ⟨CEncoder⟩) := fun base => ok_Encoder_code_even D7 T (R__check_decision base) (R_Encoder__narrow base)
  have R_Encoder_octets : ∀ base : Heap, MetC l.prog w K mg base 1 (⟨CEncoder⟩ : Ads).c_Encoder "octets" (sp_Encoder_octets K ⟨CEncoder⟩) := fun base => ok_Encoder_octets D8 T 
  have R_Encoder_probability : ∀ base : Heap, MetC l.prog w K mg base 2 (⟨CEncoder⟩ : Ads).c_Encoder "probability" (sp_Encoder_probability K ⟨CEncoder⟩) := fun base => ok_Encoder_probability D9 T (R__check_context base)
  have R__law_draws : ∀ base : Heap, Cal l.prog w K mg base 1 "_law_draws" (sp__law_draws K ⟨CEncoder⟩) := fun base => ok__law_draws D10 T 
  have R__law_items : ∀ base : Heap, Cal l.prog w K mg base 2 "_law_items" (sp__law_items K ⟨CEncoder⟩) := fun base => ok__law_items D11 T (R__law_draws base)
  have R__law_moved : ∀ base : Heap, Cal l.prog w K mg base 1 "_law_moved" (sp__law_moved K ⟨CEncoder⟩) := fun base => ok__law_moved D12 T 
  have R__law_code_items : ∀ base : Heap, Cal l.prog w K mg base 4 "_law_code_items" (sp__law_code_items K ⟨CEncoder⟩) := fun base => ok__law_code_items D13 T (R_Encoder_code base) (R_Encoder_code_even base)
  have R__law_code : ∀ base : Heap, Cal l.prog w K mg base 2 "_law_code" (sp__law_code K ⟨CEncoder⟩) := fun base => ok__law_code D14 T (R__law_moved base)

  exact ⟨PySem.W.fnOf "law" "law" (defArgs s_law) (defBody s_law) (defScope s_law) .none kV15 dc15 pm15 an15 cd15 ct15, fun s v => .of_eq rfl, fun base _ _ => ok_law (AD := ⟨CEncoder⟩) F15 T (R__law_items base) (R_Encoder___init__ base) (R__law_code_items base) (R__law_code base) (R_Encoder_octets base) (R_Encoder_probability base)⟩
theorem walk {l : PySem.W.OpenLaw} {q : Program} {loose : List Str} {XP : (Str → Option Value) → Heap → Prop} {YP : World → Heap → Prop} {d : DefRec} {K : Params → PySem.W.Frag} (hn : l.most = some 63) (hdf : d.params.defaults = [])
    (hY : ∀ (w : World) (h : Heap), YP w h → (K w.params).In h)
    (F : ∀ (w : World) (mg : Str → Option Value) (fa : Addr) (h : Heap), (K w.params).In h → h.Ns mainGlobals mg → mg d.name = some (.ref fa) →
      ∃ fd : FuncData, (∀ (s : Shared) (u : Value), BindsTo s fd ⟨[u], []⟩ [("script", u)]) ∧ ∀ base : Heap, (K w.params).In base → base.Ns mainGlobals mg → FnOk l.prog w (K w.params) mg base CX0 5 fa fd ["script"] (spL (K w.params))) :
    PySem.W.WalkO q loose XP YP l.row.toRowW d [] (fun f vs => PySem.call f vs) :=
  L2.walk_of (n := 63) (k := 5) (x := "script") (CX := fun _ => CX0) (sp := fun w => spL (K w.params)) hn (by decide) hdf ⟨rfl, by decide, by decide⟩ hY F (fun _ _ a ns hl _ hS => ⟨a, ns, rfl, hS, hl, fun _ => rfl⟩) fun _ _ _ _ _ z => z
end Vx
open PySem PySem.W PyProof.Rows
set_option maxRecDepth 100000 in
set_option maxHeartbeats 0 in
theorem PySem.Challenge.cw_thaumatrope_k12_decisions_coded_holds : PySem.Challenge.rw_thaumatrope_k12_decisions_coded.Holds := by
  w_on; o_law; k_head; (case hw => w_witness2)
  k_fill
  refine Vx.walk (l := PySem.Challenge.rw_thaumatrope_k12_decisions_coded) rfl rfl (fun w h Y => PySem.W.kIn_of Y) ?F
  case F =>
    intro w mg fa h KX G hmg
    refine' Vx.all_mk KX G hmg ?wEncoder ?a0 ?l0 ?c0 ?k0 ?a1 ?l1 ?c1 ?k1 ?a2 ?l2 ?c2 ?k2 ?a3 ?b3 ?d3 ?e3 ?l3 ?c3 ?k3 ?a4 ?b4 ?l4 ?c4 ?k4 ?a5 ?b5 ?l5 ?c5 ?k5 ?a6 ?b6 ?l6 ?c6 ?k6 ?a7 ?b7 ?l7 ?c7 ?k7 ?a8 ?b8 ?l8 ?c8 ?k8 ?a9 ?b9 ?l9 ?c9 ?k9 ?a10 ?l10 ?c10 ?k10 ?a11 ?l11 ?c11 ?k11 ?a12 ?l12 ?c12 ?k12 ?a13 ?l13 ?c13 ?k13 ?a14 ?l14 ?c14 ?k14 ?a15 ?l15 ?c15 ?k15 ?z0 ?z1 ?z2 ?z3 ?z4 ?z5 ?z6 ?z7 ?z8 ?z9 ?z10 ?z11 ?z12 ?yEncoder0 ?yEncoder1 ?yEncoder2 ?yEncoder3 ?xEncoder0 ?xEncoder1 ?xEncoder2 ?xEncoder3
    (case wEncoder => k_is)
    (case a0 => k_is)
    (case l0 => k_is)
    (case c0 => k_is)
    (case k0 => k_is)
    (case a1 => k_is)
    (case l1 => k_is)
    (case c1 => k_is)
    (case k1 => k_is)
    (case a2 => k_is)
    (case l2 => k_is)
    (case c2 => k_is)
    (case k2 => k_is)
    (case a3 => k_is)
    (case b3 => k_is)
    (case d3 => k_is)
    (case e3 => k_is)
    (case l3 => k_is)
    (case c3 => k_is)
    (case k3 => k_is)
    (case a4 => k_is)
    (case b4 => k_is)
    (case l4 => k_is)
    (case c4 => k_is)
    (case k4 => k_is)
    (case a5 => k_is)
    (case b5 => k_is)
    (case l5 => k_is)
    (case c5 => k_is)
    (case k5 => k_is)
    (case a6 => k_is)
    (case b6 => k_is)
    (case l6 => k_is)
    (case c6 => k_is)
    (case k6 => k_is)
    (case a7 => k_is)
    (case b7 => k_is)
    (case l7 => k_is)
    (case c7 => k_is)
    (case k7 => k_is)
    (case a8 => k_is)
    (case b8 => k_is)
    (case l8 => k_is)
    (case c8 => k_is)
    (case k8 => k_is)
    (case a9 => k_is)
    (case b9 => k_is)
    (case l9 => k_is)
    (case c9 => k_is)
    (case k9 => k_is)
    (case a10 => k_is)
    (case l10 => k_is)
    (case c10 => k_is)
    (case k10 => k_is)
    (case a11 => k_is)
    (case l11 => k_is)
    (case c11 => k_is)
    (case k11 => k_is)
    (case a12 => k_is)
    (case l12 => k_is)
    (case c12 => k_is)
    (case k12 => k_is)
    (case a13 => k_is)
    (case l13 => k_is)
    (case c13 => k_is)
    (case k13 => k_is)
    (case a14 => k_is)
    (case l14 => k_is)
    (case c14 => k_is)
    (case k14 => k_is)
    (case a15 => k_is)
    (case l15 => k_is)
    (case c15 => k_is)
    (case k15 => k_is)
    (case z0 => k_is)
    (case z1 => k_is)
    (case z2 => k_is)
    (case z3 => k_is)
    (case z4 => k_is)
    (case z5 => k_is)
    (case z6 => k_is)
    (case z7 => k_is)
    (case z8 => k_is)
    (case z9 => k_is)
    (case z10 => k_is)
    (case z11 => k_is)
    (case z12 => k_is)
    (case yEncoder0 => k_is)
    (case yEncoder1 => k_is)
    (case yEncoder2 => k_is)
    (case yEncoder3 => k_is)
    (case xEncoder0 => k_is)
    (case xEncoder1 => k_is)
    (case xEncoder2 => k_is)
    (case xEncoder3 => k_is)
