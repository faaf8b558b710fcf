import PyProof.Rows.All
import Wide.All
import OpenK.AllK
import Wide.FinOn
import HandS.ForMost
import HandS.Codes
import HandS.Steps
import HandS.IsInst
import HandS.Property
import HandS.Wide
import HandS.WideBits
import HandS.Exc
import HandS.ExcOwn
import HandS.TryOnly
import HandS.WordsExc
import HandS.Defaults
import HandS.ExcIs
import HandS.MakeKwOnly
import HandS.RaiseMore
import HandS.Style
import HandS.Zip
import PySem.Challenge.RW_thaumatrope_k15_coder_refuses
set_option Elab.async false
set_option linter.all false
set_option maxRecDepth 100000
set_option maxHeartbeats 8000000
namespace Vx
open PySem PySem.Spec PyProof.Rows L2

/-! ### heaps -/
def SameX (m : Addr) (H H' : Hp) : Prop := ∀ b o, H b = some o → b ≠ m → H' b = some o
theorem gen_new {H H' : Hp} {p : Addr} {o : HO} (n : H p = none) (h : upd H p o = H') : Same H H' ∧ H' p = some o := by
  subst h
  exact ⟨fun b u e => by rw [upd_ne (ne_of_none e n)]; exact e, upd_same⟩
theorem gen_mut {H H' : Hp} {m : Addr} {o : HO} (h : upd H m o = H') : SameX m H H' ∧ H' m = some o := by
  subst h
  exact ⟨fun b u e n => by rw [upd_ne n]; exact e, upd_same⟩
theorem same_mut {H0 H H' : Hp} {m : Addr} (B : Same H0 H) (x : SameX m H H') (f : H0 m = none) : Same H0 H' :=
  fun b o e => x b o (B b o e) (ne_of_none e f)
theorem map_get {xs : List Int} {i : Nat} {x : V} (h : (xs.map V.int)[i]? = some x) : ∃ o, xs[i]? = some o ∧ x = .int o := by
  rw [List.getElem?_map] at h
  cases e : xs[i]? with
  | none => rw [e] at h; cases h
  | some z => rw [e] at h; exact ⟨z, rfl, (Option.some.inj h).symm⟩
theorem get_len {α : Type} {xs : List α} {i : Nat} {x : α} (h : xs[i]? = some x) : i < xs.length := (List.getElem?_eq_some_iff.mp h).1
theorem eq_int {Q : VK} {H : Hp} {a b : Int} (h : Q (.int a) H) (e : a = b) : Q (.int b) H := e ▸ h
theorem eq_bl {Q : VK} {H : Hp} {a b : Bool} (h : Q (.bl a) H) (e : a = b) : Q (.bl b) H := e ▸ h
theorem small {n : Nat} (h : n ≤ 1000000) : n < sizeLine := Nat.lt_of_le_of_lt h (by decide)
theorem smallE {n : Nat} (h : n ≤ 1000000) : n ≤ sizeLine := Nat.le_of_lt (small h)
theorem snoc_int {xs : List Int} {y : Int} {H : Hp} {p : Addr} (h : H p = some (.lst (xs.map V.int ++ [V.int y]))) : H p = some (.lst ((xs ++ [y]).map V.int)) := by
  rw [List.map_append]; exact h
theorem cat_int {xs ys : List Int} {H : Hp} {p : Addr} (h : H p = some (.lst (xs.map V.int ++ ys.map V.int))) : H p = some (.lst ((xs ++ ys).map V.int)) := by
  rw [List.map_append]; exact h
theorem cast_lst {xs ys : List Int} {H : Hp} {p : Addr} (h : H p = some (.lst (xs.map V.int))) (e : xs = ys) : H p = some (.lst (ys.map V.int)) := e ▸ h

/-! ### tests -/
theorem dT {p : Prop} [Decidable p] (h : decide p = true) : p := of_decide_eq_true h
theorem dF {p : Prop} [Decidable p] (h : ¬ decide p = true) : ¬ p := fun x => h (decide_eq_true x)
theorem iteD {p A B : Prop} [Decidable p] (h1 : p → A) (h2 : ¬ p → B) : if decide p = true then A else B := by
  by_cases h : p
  · rw [if_pos (decide_eq_true h)]; exact h1 h
  · rw [if_neg (fun x => h (of_decide_eq_true x))]; exact h2 h
theorem iteN {p A B : Prop} [Decidable p] (h1 : ¬ p → A) (h2 : p → B) : if (!decide p) = true then A else B := by
  by_cases h : p
  · rw [decide_eq_true h]; exact iteF (h2 h)
  · rw [decide_eq_false h]; exact iteT (h1 h)
theorem iteB {b : Bool} {A B : Prop} (h1 : b = true → A) (h2 : b = false → B) : if b = true then A else B := by
  cases b with
  | true => exact iteT (h1 rfl)
  | false => exact iteF (h2 rfl)
theorem iteBN {b : Bool} {A B : Prop} (h1 : b = false → A) (h2 : b = true → B) : if (!b) = true then A else B := by
  cases b with
  | true => exact iteF (h2 rfl)
  | false => exact iteT (h1 rfl)
theorem iteDT {p A B : Prop} [Decidable p] (h : p) (k : A) : if decide p = true then A else B := by
  rw [if_pos (decide_eq_true h)]; exact k
theorem iteDF {p A B : Prop} [Decidable p] (h : ¬ p) (k : B) : if decide p = true then A else B := by
  rw [if_neg (fun x => h (of_decide_eq_true x))]; exact k
theorem iteNT {p A B : Prop} [Decidable p] (h : ¬ p) (k : A) : if (!decide p) = true then A else B := iteN (fun _ => k) (fun x => (h x).elim)
theorem iteNF {p A B : Prop} [Decidable p] (h : p) (k : B) : if (!decide p) = true then A else B := iteN (fun x => (x h).elim) (fun _ => k)

/-! ### equality of lists of ints -/
theorem eqvAll_ints : ∀ xs ys : List Int, PyData.eqvAll (xs.map PyData.int) (ys.map PyData.int) = decide (xs = ys)
  | [], [] => by simp [PyData.eqvAll]
  | [], y :: ys => by simp [PyData.eqvAll]
  | x :: xs, [] => by simp [PyData.eqvAll]
  | x :: xs, y :: ys => by
    have ih := eqvAll_ints xs ys
    simp only [List.map_cons, PyData.eqvAll, PyData.eqv, ih]
    by_cases h : x = y <;> by_cases h2 : xs = ys <;> simp [h, h2]
end Vx

namespace Vx
open PySem PySem.Spec PyProof.Rows L2
section
variable {X : Cx}
def rEqLi (K : PySem.W.Frag) : R2 := fun x y H Q => ∃ (a b : Addr) (xs ys : List Int), x = .ref a ∧ y = .ref b ∧ SqL K H a (xs.map V.int) ∧ SqL K H b (ys.map V.int) ∧ Q (.bl (decide (xs = ys))) H
def rNeLi (K : PySem.W.Frag) : R2 := fun x y H Q => ∃ (a b : Addr) (xs ys : List Int), x = .ref a ∧ y = .ref b ∧ SqL K H a (xs.map V.int) ∧ SqL K H b (ys.map V.int) ∧ Q (.bl (!decide (xs = ys))) H
theorem dpAll_ints {K : PySem.W.Frag} {H : Hp} : ∀ xs : List Int, DpAll K H (xs.map V.int) (xs.map PyData.int)
  | [] => .nil
  | x :: xs => .cons (.int x) (dpAll_ints xs)
theorem dp_ints {K : PySem.W.Frag} {H : Hp} {a : Addr} {xs : List Int} (h : SqL K H a (xs.map V.int)) : Dp K H (.ref a) (.list (xs.map PyData.int)) := .lst h (dpAll_ints xs)
theorem canLay_ints : ∀ xs : List Int, PyData.canLayAll0 (xs.map PyData.int) = true
  | [] => by simp [PyData.canLayAll0]
  | x :: xs => by simp [PyData.canLayAll0, PyData.canLay0, canLay_ints xs]
theorem depth_ints : ∀ xs : List Int, PyData.depthAll (xs.map PyData.int) = 0
  | [] => by simp [PyData.depthAll]
  | x :: xs => by simp [PyData.depthAll, PyData.depth, depth_ints xs]
theorem shaped_ints (xs : List Int) : SeqAt.shaped (.list (xs.map PyData.int)) = true := by
  unfold SeqAt.shaped
  simp [PyData.canLay0, canLay_ints, PyData.depth, depth_ints]
theorem eqv_ints (xs ys : List Int) : PyData.eqv (.list (xs.map PyData.int)) (.list (ys.map PyData.int)) = decide (xs = ys) := by
  simp only [PyData.eqv]
  exact eqvAll_ints xs ys
theorem op_eqLi (hu : X.A.units + 64 < cLine) : OpR X (compareOp .Eq) (rEqLi X.K) := by
  intro pins s σ H x y v u Q I rx ry h
  obtain ⟨a, b, xs, ys, rfl, rfl, h1, h2, q⟩ := h
  exact op_eqD hu pins s σ H _ _ v u Q I rx ry ⟨_, _, dp_ints h1, dp_ints h2, shaped_ints xs, shaped_ints ys, by rw [eqv_ints]; exact q⟩
theorem op_neLi (hu : X.A.units + 64 < cLine) : OpR X (compareOp .NotEq) (rNeLi X.K) := by
  intro pins s σ H x y v u Q I rx ry h
  obtain ⟨a, b, xs, ys, rfl, rfl, h1, h2, q⟩ := h
  exact op_neD hu pins s σ H _ _ v u Q I rx ry ⟨_, _, dp_ints h1, dp_ints h2, shaped_ints xs, shaped_ints ys, by rw [eqv_ints]; exact q⟩

/-! ### items, slices, repetition, comprehensions of ints -/
def itI (xs : List Int) (i : Int) : Int := (atI xs i).getD 0
theorem atI_int {xs : List Int} {i : Int} (h : -(xs.length : Int) ≤ i ∧ i < xs.length) : atI (xs.map V.int) i = some (.int (itI xs i)) := by
  unfold itI atI
  rw [List.length_map]
  have hk : ∃ j, ixN xs.length i = some j ∧ j < xs.length := by
    unfold ixN
    by_cases h0 : 0 ≤ i
    · refine ⟨i.toNat, ?_, by omega⟩
      rw [if_pos h0, if_pos h.2]
    · refine ⟨(i + xs.length).toNat, ?_, by omega⟩
      rw [if_neg h0, if_pos h.1]
  obtain ⟨j, e, hj⟩ := hk
  rw [e]
  show (xs.map V.int)[j]? = some (V.int ((xs[j]?).getD 0))
  rw [List.getElem?_map, List.getElem?_eq_getElem hj] <;> rfl
def cutI (xs : List Int) (lo hi : Option Int) : List Int := (xs.drop (HT.sIx xs.length 0 lo)).take (HT.sIx xs.length xs.length hi - HT.sIx xs.length 0 lo)
theorem cut_int {xs : List Int} {lo hi : Option Int} {H : Hp} {p : Addr} (h : H p = some (.lst (cutV (xs.map V.int) lo hi))) : H p = some (.lst ((cutI xs lo hi).map V.int)) := by
  rw [h]
  unfold cutV cutI
  rw [List.length_map, List.map_take, List.map_drop]
def rep (xs : List Int) (k : Int) : List Int := (List.replicate k.toNat xs).flatten
theorem rep_int {xs : List Int} {k : Int} {H : Hp} {p : Addr} (h : H p = some (.lst (List.replicate k.toNat (xs.map V.int)).flatten)) : H p = some (.lst ((rep xs k).map V.int)) := by
  rw [h]
  unfold rep
  rw [List.map_flatten, List.map_replicate]
theorem divW_lit {i j : Int} (h : 0 < j) (h2 : j.natAbs.log2 < 9000) : CDivW i j := ⟨h, h2⟩
theorem divW_small {i j : Int} (h : 0 < j) (h2 : j < 2 ^ 128) : CDivW i j := wide_div h (show j.natAbs < 2 ^ 128 by omega) (by decide) (by decide)
theorem comp_list {xs : List Int} {i : Nat} {x y : Int} {f : Int → Int} {H : Hp} {D : Addr} (hi : xs[i]? = some x) (h : H D = some (.lst (((xs.take i).map f).map V.int ++ [V.int y]))) (e : f x = y) : H D = some (.lst (((xs.take (i + 1)).map f).map V.int)) := by
  rw [h, ← e, List.take_succ, hi, List.map_append, List.map_append] <;> rfl
theorem comp_done {xs : List Int} {f : Int → Int} {H : Hp} {D : Addr} (h : H D = some (.lst (((xs.take (xs.map V.int).length).map f).map V.int))) : H D = some (.lst ((xs.map f).map V.int)) := by
  rw [List.length_map, List.take_length] at h
  exact h
theorem comp_range {i : Nat} {y : Int} {f : Nat → Int} {H : Hp} {D : Addr} (h : H D = some (.lst (((List.range i).map f).map V.int ++ [V.int y]))) (e : f i = y) : H D = some (.lst (((List.range (i + 1)).map f).map V.int)) := by
  rw [h, ← e, List.range_succ, List.map_append, List.map_append] <;> rfl
theorem iteBT {b : Bool} {A B : Prop} (h : b = true) (k : A) : if b = true then A else B := by rw [if_pos h]; exact k
theorem iteBF {b : Bool} {A B : Prop} (h : b = false) (k : B) : if b = true then A else B := by rw [if_neg (by rw [h]; decide)]; exact k
theorem take_succ_get {α : Type} {xs : List α} {i : Nat} {x : α} (hi : xs[i]? = some x) : xs.take (i + 1) = xs.take i ++ [x] := by rw [List.take_succ, hi] <;> rfl
end

/-! ### defs of the module, as callers see them -/
section
variable {P : Program} {w : World} {K : PySem.W.Frag} {mg : Str → Option Value} {base : Heap}
structure DefIn (K : PySem.W.Frag) (mg : Str → Option Value) (x : Str) (st : Stmt) (ps : List Str) : Prop where
  ex : ∃ (f : Addr) (fd : FuncData), Fun K x x st f fd ∧ mg x = some (.ref f) ∧ Binds K fd ps []
structure Cal (P : Program) (w : World) (K : PySem.W.Frag) (mg : Str → Option Value) (base : Heap) (k : Nat) (x : Str) (sp : Sp) : Prop where
  ex : ∃ (f : Addr) (fd : FuncData) (ps : List Str), FnOk P w K mg base CX0 k f fd ps sp ∧ mg x = some (.ref f) ∧ PySem.W.keepIn K (.ref f) = true ∧ Binds K fd ps []
theorem DefIn.ok {x : Str} {st : Stmt} {N ps : List Str} {k : Nat} {sp : Sp} (D : DefIn K mg x st ps) (S : FnScope N ps (defScope st)) (len : ∀ vs H Q E, sp vs H Q E → vs.length = ps.length)
    (hbody : ∀ (f : Addr) (cdv : Value) (A : Around) (outer : List Env) (s : Shared) (H : Hp) (vs : List V) (Q : VK) (E : XK), Room k (A.deeper (envOfC x (defScope st) s.heap.objs.size f cdv)) → sp vs H Q E →
      ∃ t, PSs (cxOf CX0 P w K mg base N x (defScope st) f cdv A outer s H E).nox (defBody st) t ∧ t { nx := fun _ H' => Q .non H', rt := Q } (start N vs) H) : Cal P w K mg base (k + 1) x sp := by
  obtain ⟨f, fd, F, hm, b⟩ := D.ex
  exact ⟨f, fd, ps, F.ok S len (fun cdv A outer s H vs Q E hr h => hbody f cdv A outer s H vs Q E hr h), hm, F.kp, b⟩
end
section
variable {X : Cx} {k j : Nat} {x : Str} {sp : Sp} {p pos : Pos} {e : Expr} {es : List Expr} {t : TA}
theorem vx_call (c : Cal X.prog X.w X.K X.mg X.base k x sp) (hr : Room j X.A) (hk : k ≤ j) (hg : Gl X x) (ha : PA X (e :: es) t)
    (hdb : (x == ("__debug__" : Str)) = false := by decide) (he : starEach (e :: es) X.env = (false, eval e X.env) :: starEach es X.env := by rfl) (hpl : (backTo pos (starEach es X.env)).any (·.1) = false := by rfl) :
    PE X (.Call (.Name x p) (e :: es) [] pos) (tCall sp [] E0 t) := by
  obtain ⟨f, fd, ps, F, hm, kp, b⟩ := c.ex
  exact pe_call F (hr.mono hk) hg hm kp b .nil pass0 ha hdb he hpl
end
end Vx

namespace Vx
open PySem PySem.Spec PyProof.Rows L2
section
variable {σ : L2.St} {H : Hp} {ta tb : TE} {x y z : V} {t : TT}
theorem vv_and {a b : Bool} (h1 : Val ta σ H (.bl a)) (h2 : Val tb σ H (.bl b)) : Val (tAndV ta tb) σ H (.bl (a && b)) := fun Q q => h1 _ ⟨a, rfl, by
  cases a with
  | true => exact iteT (h2 Q q)
  | false => exact iteF q⟩
theorem vv_or {a b : Bool} (h1 : Val ta σ H (.bl a)) (h2 : Val tb σ H (.bl b)) : Val (tOrV ta tb) σ H (.bl (a || b)) := fun Q q => h1 _ ⟨a, rfl, by
  cases a with
  | true => exact iteT q
  | false => exact iteF (h2 Q q)⟩
theorem vv_not {a : Bool} (h1 : Val ta σ H (.bl a)) : Val (tNotV ta) σ H (.bl (!a)) := fun Q q => h1 _ ⟨a, rfl, q⟩
theorem vv_un {r : V → Hp → VK → Prop} (ha : Val ta σ H x) (hr : ∀ Q : VK, Q z H → r x H Q) : Val (tUn r ta) σ H z := fun Q q => ha _ (hr Q q)
theorem vv_cmp {p : Int → Int → Bool} (ha : Val ta σ H x) (hb : Val tb σ H y) (hr : ∀ Q : VK, Q z H → ∃ i j, x = .int i ∧ y = .int j ∧ Q (.bl (p i j)) H) : Val (tCmp p ta tb) σ H z := fun Q q => ha _ (hb _ (hr Q q))
theorem vv_call1 {r : List V → Hp → VK → Prop} (ha : Val ta σ H x) (hr : ∀ Q : VK, Q z H → r [x] H Q) : Val (tCB r (tCons ta tNil)) σ H z := fun Q q => ha _ (hr Q q)
theorem vt_cmp {b : Bool} (h : Val ta σ H (.bl b)) : Ans (tB ta) σ H b := fun Q q => h _ ⟨b, rfl, q⟩
theorem vt_val {b : Bool} (h : Val ta σ H (.bl b)) : Ans (tB ta) σ H b := fun Q q => h _ ⟨b, rfl, q⟩
theorem vt_int {i : Int} {K : PySem.W.Frag} (h : Val ta σ H (.int i)) : Ans (fun σ H Q => ta σ H fun x H' => ∃ k, TruV K x H' k ∧ Q k H') σ H (i != 0) := fun Q q => h _ ⟨_, rfl, q⟩
theorem vv_if {p : Prop} [Decidable p] {a b : Int} (ht : Ans t σ H (decide p)) (hx : Val ta σ H (.int a)) (hy : Val tb σ H (.int b)) : Val (tIf t ta tb) σ H (.int (if p then a else b)) := fun Q q => ht _ (by
  by_cases h : p
  · rw [if_pos h] at q; exact iteDT h (hx Q q)
  · rw [if_neg h] at q; exact iteDF h (hy Q q))
theorem vv_ifb {c : Bool} {a b : Int} (ht : Ans t σ H c) (hx : Val ta σ H (.int a)) (hy : Val tb σ H (.int b)) : Val (tIf t ta tb) σ H (.int (if c = true then a else b)) := fun Q q => ht _ (by
  cases c with
  | true => exact iteT (hx Q q)
  | false => exact iteF (hy Q q))
end
end Vx

namespace Vx
open PySem PySem.Spec PyProof.Rows L2
def rLenLi (K : PySem.W.Frag) : List V → Hp → VK → Prop := fun xs H Q => ∃ (p : Addr) (ns : List Int), xs = [.ref p] ∧ SqL K H p (ns.map V.int) ∧ Q (.int (ns.length : Int)) H
theorem call_lenLi {X : Cx} : CallR X (.builtin "len") (rLenLi X.K) := by
  intro pins s σ H xs us Q I r h
  obtain ⟨p, ns, rfl, hs, q⟩ := h
  exact call_len_seq pins s σ H _ us Q I r ⟨p, _, rfl, Or.inl hs, by rw [List.length_map]; exact q⟩
end Vx

namespace Vx
open PySem PySem.Spec PyProof.Rows L2
section
variable {X : Cx} {K : PySem.W.Frag}
theorem ix_listK (hK : X.K = K := by rfl) : IxR X (rIxL K) := hK ▸ ix_list
theorem sl_listK (hK : X.K = K := by rfl) : SlR X (rSlL K) := hK ▸ sl_list
theorem call_lenLiK (hK : X.K = K := by rfl) : CallR X (.builtin "len") (rLenLi K) := hK ▸ call_lenLi
theorem op_eqLiK (hu : X.A.units + 64 < cLine) (hK : X.K = K := by rfl) : OpR X (compareOp .Eq) (rEqLi K) := hK ▸ op_eqLi hu
theorem op_neLiK (hu : X.A.units + 64 < cLine) (hK : X.K = K := by rfl) : OpR X (compareOp .NotEq) (rNeLi K) := hK ▸ op_neLi hu
theorem pi_listK {tg l : Expr} {tl : TE} (hl : PE X l tl) (hK : X.K = K := by rfl) : PI X tg l (iList K tl) := hK ▸ pi_list hl
theorem cr_sumK (hc : X.calm = true) (hK : X.K = K := by rfl) : CallR X (.builtin "sum") (rSum K) := hK ▸ cr_sum hc
theorem cr_maxK (hc : X.calm = true) (hK : X.K = K := by rfl) : CallR X (.builtin "max") (rMax K) := hK ▸ cr_max hc
theorem cr_minK (hc : X.calm = true) (hK : X.K = K := by rfl) : CallR X (.builtin "min") (rMin K) := hK ▸ cr_min hc
end
end Vx

namespace Vx
open PySem PySem.Spec PyProof.Rows L2
theorem tyes_go {σ : L2.St} {H : Hp} {f g : Hp → Prop} (h : f H) : tYes σ H (fun b H3 => if b = true then f H3 else g H3) := by
  show if true = true then f H else g H
  exact iteT h
end Vx

/-! # second part: data of any depth, the stable heap G, the owned addresses O -/
namespace Vx
open PySem PySem.Spec PyProof.Rows L2
mutual
inductive Rp (H : Hp) : V → PyData → Prop
  | non : Rp H .non .none
  | bl (b : Bool) : Rp H (.bl b) (.bool b)
  | int (i : Int) : Rp H (.int i) (.int i)
  | str (x : Str) : Rp H (.str x) (.str x)
  | lst {a : Addr} {xs : List V} {ds : List PyData} : H a = some (.lst xs) → RpAll H xs ds → Rp H (.ref a) (.list ds)
  | tup {a : Addr} {xs : List V} {ds : List PyData} : H a = some (.tup xs) → RpAll H xs ds → Rp H (.ref a) (.tuple ds)
inductive RpAll (H : Hp) : List V → List PyData → Prop
  | nil : RpAll H [] []
  | cons {v : V} {vs : List V} {d : PyData} {ds : List PyData} : Rp H v d → RpAll H vs ds → RpAll H (v :: vs) (d :: ds)
end
mutual
theorem Rp.mono {H H' : Hp} (e : Same H H') : ∀ {v : V} {d : PyData}, Rp H v d → Rp H' v d
  | _, _, .non => .non
  | _, _, .bl b => .bl b
  | _, _, .int i => .int i
  | _, _, .str x => .str x
  | _, _, .lst h r => .lst (e _ _ h) (RpAll.mono e r)
  | _, _, .tup h r => .tup (e _ _ h) (RpAll.mono e r)
theorem RpAll.mono {H H' : Hp} (e : Same H H') : ∀ {vs : List V} {ds : List PyData}, RpAll H vs ds → RpAll H' vs ds
  | _, _, .nil => .nil
  | _, _, .cons a b => .cons (Rp.mono e a) (RpAll.mono e b)
end
mutual
theorem Rp.dp {K : PySem.W.Frag} {H : Hp} : ∀ {v : V} {d : PyData}, Rp H v d → Dp K H v d
  | _, _, .non => .non
  | _, _, .bl b => .bl b
  | _, _, .int i => .int i
  | _, _, .str x => .str x
  | _, _, .lst h r => .lst (SqL.of h) (RpAll.dp r)
  | _, _, .tup h r => .tup (SqT.of h) (RpAll.dp r)
theorem RpAll.dp {K : PySem.W.Frag} {H : Hp} : ∀ {vs : List V} {ds : List PyData}, RpAll H vs ds → DpAll K H vs ds
  | _, _, .nil => .nil
  | _, _, .cons a b => .cons (Rp.dp a) (RpAll.dp b)
end
theorem RpAll.append {H : Hp} : ∀ {xs ys : List V} {ds es : List PyData}, RpAll H xs ds → RpAll H ys es → RpAll H (xs ++ ys) (ds ++ es)
  | _, _, _, _, .nil, s => s
  | _, _, _, _, .cons r t, s => .cons r (RpAll.append t s)
theorem RpAll.ints {H : Hp} : ∀ xs : List Int, RpAll H (xs.map V.int) (xs.map PyData.int)
  | [] => .nil
  | x :: xs => .cons (.int x) (RpAll.ints xs)
theorem RpAll.bls {H : Hp} : ∀ xs : List Bool, RpAll H (xs.map V.bl) (xs.map PyData.bool)
  | [] => .nil
  | x :: xs => .cons (.bl x) (RpAll.bls xs)
theorem RpAll.one {H : Hp} {v : V} {d : PyData} (h : Rp H v d) : RpAll H [v] [d] := .cons h .nil
theorem RpAll.len {H : Hp} : ∀ {vs : List V} {ds : List PyData}, RpAll H vs ds → vs.length = ds.length
  | _, _, .nil => rfl
  | _, _, .cons _ t => by rw [List.length_cons, List.length_cons, RpAll.len t]
theorem RpAll.at {H : Hp} : ∀ {vs : List V} {ds : List PyData} {i : Nat} {v : V}, RpAll H vs ds → vs[i]? = some v → ∃ d, ds[i]? = some d ∧ Rp H v d
  | _, _, _, _, .nil, h => by simp at h
  | _, _, 0, _, .cons r _, h => by
    simp at h
    subst h
    exact ⟨_, rfl, r⟩
  | _, _, i + 1, _, .cons _ t, h => by
    obtain ⟨d, h1, h2⟩ := RpAll.at (i := i) t (by simpa using h)
    exact ⟨d, by simpa using h1, h2⟩
theorem RpAll.at' {H : Hp} : ∀ {vs : List V} {ds : List PyData} {i : Nat} {d : PyData}, RpAll H vs ds → ds[i]? = some d → ∃ v, vs[i]? = some v ∧ Rp H v d
  | _, _, _, _, .nil, h => by simp at h
  | _, _, 0, _, .cons r _, h => by
    simp at h
    subst h
    exact ⟨_, rfl, r⟩
  | _, _, i + 1, _, .cons _ t, h => by
    obtain ⟨v, h1, h2⟩ := RpAll.at' (i := i) t (by simpa using h)
    exact ⟨v, by simpa using h1, h2⟩
theorem RpAll.take {H : Hp} : ∀ (n : Nat) {vs : List V} {ds : List PyData}, RpAll H vs ds → RpAll H (vs.take n) (ds.take n)
  | 0, _, _, _ => by simpa using RpAll.nil
  | n + 1, _, _, .nil => by simpa using RpAll.nil
  | n + 1, _, _, .cons r t => .cons r (RpAll.take n t)
theorem RpAll.drop {H : Hp} : ∀ (n : Nat) {vs : List V} {ds : List PyData}, RpAll H vs ds → RpAll H (vs.drop n) (ds.drop n)
  | 0, _, _, r => r
  | n + 1, _, _, .nil => by simpa using RpAll.nil
  | n + 1, _, _, .cons r t => RpAll.drop n t
theorem RpAll.set {H : Hp} {v : V} {d : PyData} (h : Rp H v d) : ∀ (n : Nat) {vs : List V} {ds : List PyData}, RpAll H vs ds → RpAll H (vs.set n v) (ds.set n d)
  | _, _, _, .nil => .nil
  | 0, _, _, .cons _ t => .cons h t
  | n + 1, _, _, .cons r t => .cons r (RpAll.set h n t)
theorem RpAll.rep {H : Hp} {vs : List V} {ds : List PyData} (h : RpAll H vs ds) : ∀ n : Nat, RpAll H (List.replicate n vs).flatten (List.replicate n ds).flatten
  | 0 => by simpa using RpAll.nil
  | n + 1 => by
    rw [List.replicate_succ, List.flatten_cons, List.replicate_succ, List.flatten_cons]
    exact RpAll.append h (RpAll.rep h n)
theorem RpAll.get {α : Type} {f : α → PyData} {H : Hp} {vs : List V} {xs : List α} {i : Nat} {v : V} (r : RpAll H vs (xs.map f)) (h : vs[i]? = some v) : ∃ x, xs[i]? = some x ∧ Rp H v (f x) := by
  obtain ⟨d, h1, h2⟩ := RpAll.at r h
  rw [List.getElem?_map] at h1
  cases e : xs[i]? with
  | none => rw [e] at h1; cases h1
  | some x =>
    rw [e] at h1
    have : f x = d := Option.some.inj h1
    exact ⟨x, rfl, this ▸ h2⟩
/-- the item at an index, data -/
theorem RpAll.ix {α : Type} {f : α → PyData} {H : Hp} {vs : List V} {xs : List α} {k : Int} (r : RpAll H vs (xs.map f)) (h : -(xs.length : Int) ≤ k ∧ k < xs.length) : ∃ v x, atI vs k = some v ∧ atI xs k = some x ∧ Rp H v (f x) := by
  have hl : vs.length = xs.length := by rw [r.len, List.length_map]
  have hk : ∃ j, ixN xs.length k = some j ∧ j < xs.length := by
    unfold ixN
    by_cases h0 : 0 ≤ k
    · refine ⟨k.toNat, ?_, by omega⟩
      rw [if_pos h0, if_pos h.2]
    · refine ⟨(k + xs.length).toNat, ?_, by omega⟩
      rw [if_neg h0, if_pos h.1]
  obtain ⟨j, e, hj⟩ := hk
  have hx := List.getElem?_eq_getElem hj
  obtain ⟨v, h1, h2⟩ := RpAll.at' (i := j) (d := f xs[j]) r (by rw [List.getElem?_map, hx] <;> rfl)
  refine ⟨v, xs[j], ?_, ?_, h2⟩
  · unfold atI
    rw [hl, e]
    exact h1
  · unfold atI
    rw [e]
    exact hx

/-! ### types -/
def encL {α : Type} (f : α → PyData) (xs : List α) : PyData := .list (xs.map f)
def encT2 {α β : Type} (f : α → PyData) (g : β → PyData) (p : α × β) : PyData := .tuple [f p.1, g p.2]
def encT3 {α β γ : Type} (f : α → PyData) (g : β → PyData) (h : γ → PyData) (p : α × β × γ) : PyData := .tuple [f p.1, g p.2.1, h p.2.2]
def encT4 {α β γ δ : Type} (f : α → PyData) (g : β → PyData) (h : γ → PyData) (i : δ → PyData) (p : α × β × γ × δ) : PyData := .tuple [f p.1, g p.2.1, h p.2.2.1, i p.2.2.2]
structure EncOk {α : Type} [DecidableEq α] (n : Nat) (f : α → PyData) : Prop where
  lay : ∀ x, PyData.canLay0 (f x) = true
  dep : ∀ x, PyData.depth (f x) ≤ n
  eqv : ∀ x y, PyData.eqv (f x) (f y) = decide (x = y)
theorem encOk_int : EncOk 0 PyData.int := ⟨fun _ => by simp [PyData.canLay0], fun _ => by simp [PyData.depth], fun x y => by simp [PyData.eqv]; by_cases h : x = y <;> simp [h]⟩
theorem encOk_bool : EncOk 0 PyData.bool := ⟨fun _ => by simp [PyData.canLay0], fun _ => by simp [PyData.depth], fun x y => by cases x <;> cases y <;> simp [PyData.eqv]⟩
section
variable {α β γ δ : Type} [DecidableEq α] [DecidableEq β] [DecidableEq γ] [DecidableEq δ] {n m l o : Nat} {f : α → PyData} {g : β → PyData} {h : γ → PyData} {i : δ → PyData}
theorem lay_map (ok : EncOk n f) : ∀ xs : List α, PyData.canLayAll0 (xs.map f) = true
  | [] => by simp [PyData.canLayAll0]
  | x :: xs => by simp [PyData.canLayAll0, ok.lay x, lay_map ok xs]
theorem dep_map (ok : EncOk n f) : ∀ xs : List α, PyData.depthAll (xs.map f) ≤ n
  | [] => by simp [PyData.depthAll]
  | x :: xs => by
    have h1 := ok.dep x
    have h2 := dep_map ok xs
    simp only [List.map_cons, PyData.depthAll]
    omega
theorem eqv_map (ok : EncOk n f) : ∀ xs ys : List α, PyData.eqvAll (xs.map f) (ys.map f) = decide (xs = ys)
  | [], [] => by simp [PyData.eqvAll]
  | [], y :: ys => by simp [PyData.eqvAll]
  | x :: xs, [] => by simp [PyData.eqvAll]
  | x :: xs, y :: ys => by
    have ih := eqv_map ok xs ys
    simp only [List.map_cons, PyData.eqvAll, ok.eqv, ih]
    by_cases h : x = y <;> by_cases h2 : xs = ys <;> simp [h, h2]
theorem encOk_L (ok : EncOk n f) : EncOk (n + 1) (encL f) := ⟨fun xs => by simp [encL, PyData.canLay0, lay_map ok], fun xs => by
  have := dep_map ok xs
  simp only [encL, PyData.depth]
  omega, fun xs ys => by simp only [encL, PyData.eqv]; exact eqv_map ok xs ys⟩
theorem encOk_T2 (ok : EncOk n f) (ok2 : EncOk m g) : EncOk (max n m + 1) (encT2 f g) := ⟨fun x => by simp [encT2, PyData.canLay0, PyData.canLayAll0, ok.lay, ok2.lay], fun x => by
  have h1 := ok.dep x.1
  have h2 := ok2.dep x.2
  simp only [encT2, PyData.depth, PyData.depthAll]
  omega, fun x y => by
  obtain ⟨a, b⟩ := x
  obtain ⟨c, d⟩ := y
  simp only [encT2, PyData.eqv, PyData.eqvAll, ok.eqv, ok2.eqv, Prod.mk.injEq]
  by_cases h1 : a = c <;> by_cases h2 : b = d <;> simp [h1, h2]⟩
theorem encOk_T3 (ok : EncOk n f) (ok2 : EncOk m g) (ok3 : EncOk l h) : EncOk (max n (max m l) + 1) (encT3 f g h) := ⟨fun x => by simp [encT3, PyData.canLay0, PyData.canLayAll0, ok.lay, ok2.lay, ok3.lay], fun x => by
  have h1 := ok.dep x.1
  have h2 := ok2.dep x.2.1
  have h3 := ok3.dep x.2.2
  simp only [encT3, PyData.depth, PyData.depthAll]
  omega, fun x y => by
  obtain ⟨a, b, e⟩ := x
  obtain ⟨c, d, e'⟩ := y
  simp only [encT3, PyData.eqv, PyData.eqvAll, ok.eqv, ok2.eqv, ok3.eqv, Prod.mk.injEq]
  by_cases h1 : a = c <;> by_cases h2 : b = d <;> by_cases h3 : e = e' <;> simp [h1, h2, h3]⟩
theorem encOk_T4 (ok : EncOk n f) (ok2 : EncOk m g) (ok3 : EncOk l h) (ok4 : EncOk o i) : EncOk (max n (max m (max l o)) + 1) (encT4 f g h i) := ⟨fun x => by simp [encT4, PyData.canLay0, PyData.canLayAll0, ok.lay, ok2.lay, ok3.lay, ok4.lay], fun x => by
  have h1 := ok.dep x.1
  have h2 := ok2.dep x.2.1
  have h3 := ok3.dep x.2.2.1
  have h4 := ok4.dep x.2.2.2
  simp only [encT4, PyData.depth, PyData.depthAll]
  omega, fun x y => by
  obtain ⟨a, b, e, u⟩ := x
  obtain ⟨c, d, e', u'⟩ := y
  simp only [encT4, PyData.eqv, PyData.eqvAll, ok.eqv, ok2.eqv, ok3.eqv, ok4.eqv, Prod.mk.injEq]
  by_cases h1 : a = c <;> by_cases h2 : b = d <;> by_cases h3 : e = e' <;> by_cases h4 : u = u' <;> simp [h1, h2, h3, h4]⟩
end
section
variable {X : Cx} {α : Type} [DecidableEq α] {n : Nat} {f : α → PyData}
def rEqT (f : α → PyData) : R2 := fun x y H Q => ∃ (a b : α), Rp H x (f a) ∧ Rp H y (f b) ∧ Q (.bl (decide (a = b))) H
def rNeT (f : α → PyData) : R2 := fun x y H Q => ∃ (a b : α), Rp H x (f a) ∧ Rp H y (f b) ∧ Q (.bl (!decide (a = b))) H
theorem shaped_of (ok : EncOk n f) (hn : n ≤ 64) (a : α) : SeqAt.shaped (f a) = true := by
  unfold SeqAt.shaped
  have h := ok.dep a
  rw [ok.lay]
  simp
  omega
theorem op_eqT (ok : EncOk n f) (hu : X.A.units + 64 < cLine) (hn : n ≤ 64 := by decide) : OpR X (compareOp .Eq) (rEqT f) := by
  intro pins s σ H x y v u Q I rx ry h
  obtain ⟨a, b, h1, h2, q⟩ := h
  exact op_eqD hu pins s σ H _ _ v u Q I rx ry ⟨_, _, h1.dp, h2.dp, shaped_of ok hn a, shaped_of ok hn b, by rw [ok.eqv]; exact q⟩
theorem op_neT (ok : EncOk n f) (hu : X.A.units + 64 < cLine) (hn : n ≤ 64 := by decide) : OpR X (compareOp .NotEq) (rNeT f) := by
  intro pins s σ H x y v u Q I rx ry h
  obtain ⟨a, b, h1, h2, q⟩ := h
  exact op_neD hu pins s σ H _ _ v u Q I rx ry ⟨_, _, h1.dp, h2.dp, shaped_of ok hn a, shaped_of ok hn b, by rw [ok.eqv]; exact q⟩
end
section
variable {H : Hp} {v : V} {α β γ δ : Type} {f : α → PyData} {g : β → PyData} {h : γ → PyData} {i : δ → PyData}
theorem rp_int {x : Int} (r : Rp H v (.int x)) : v = .int x := by cases r; rfl
theorem rp_bool {x : Bool} (r : Rp H v (.bool x)) : v = .bl x := by cases r; rfl
theorem rp_str {x : Str} (r : Rp H v (.str x)) : v = .str x := by cases r; rfl
theorem rp_list {xs : List α} (r : Rp H v (encL f xs)) : ∃ a vs, v = .ref a ∧ H a = some (.lst vs) ∧ RpAll H vs (xs.map f) := by
  unfold encL at r
  cases r with
  | lst h1 h2 => exact ⟨_, _, rfl, h1, h2⟩
theorem rpAll_ints : ∀ {vs : List V} {xs : List Int}, RpAll H vs (xs.map PyData.int) → vs = xs.map V.int
  | _, [], .nil => rfl
  | _, x :: xs, .cons r t => by rw [rp_int r, rpAll_ints t] <;> rfl
theorem rp_ints {xs : List Int} (r : Rp H v (encL PyData.int xs)) : ∃ a, v = .ref a ∧ H a = some (.lst (xs.map V.int)) := by
  obtain ⟨a, vs, e, h1, h2⟩ := rp_list r
  rw [rpAll_ints h2] at h1
  exact ⟨a, e, h1⟩
theorem rp_tup2 {x : α × β} (r : Rp H v (encT2 f g x)) : ∃ a v1 v2, v = .ref a ∧ H a = some (.tup [v1, v2]) ∧ Rp H v1 (f x.1) ∧ Rp H v2 (g x.2) := by
  unfold encT2 at r
  cases r with
  | tup h1 h2 =>
    cases h2 with
    | cons a b =>
      cases b with
      | cons b c =>
        cases c
        exact ⟨_, _, _, rfl, h1, a, b⟩
theorem rp_tup3 {x : α × β × γ} (r : Rp H v (encT3 f g h x)) : ∃ a v1 v2 v3, v = .ref a ∧ H a = some (.tup [v1, v2, v3]) ∧ Rp H v1 (f x.1) ∧ Rp H v2 (g x.2.1) ∧ Rp H v3 (h x.2.2) := by
  unfold encT3 at r
  cases r with
  | tup h1 h2 =>
    cases h2 with
    | cons a b =>
      cases b with
      | cons b c =>
        cases c with
        | cons c d =>
          cases d
          exact ⟨_, _, _, _, rfl, h1, a, b, c⟩
theorem rp_mk_list {a : Addr} {vs : List V} {xs : List α} (h1 : H a = some (.lst vs)) (h2 : RpAll H vs (xs.map f)) : Rp H (.ref a) (encL f xs) := .lst h1 h2
theorem rp_mk_ints {a : Addr} {xs : List Int} (h1 : H a = some (.lst (xs.map V.int))) : Rp H (.ref a) (encL PyData.int xs) := .lst h1 (RpAll.ints xs)
theorem rp_mk2 {a : Addr} {v1 v2 : V} {x : α} {y : β} (h1 : H a = some (.tup [v1, v2])) (r1 : Rp H v1 (f x)) (r2 : Rp H v2 (g y)) : Rp H (.ref a) (encT2 f g (x, y)) := .tup h1 (.cons r1 (.cons r2 .nil))
theorem rp_mk3 {a : Addr} {v1 v2 v3 : V} {x : α} {y : β} {z : γ} (h1 : H a = some (.tup [v1, v2, v3])) (r1 : Rp H v1 (f x)) (r2 : Rp H v2 (g y)) (r3 : Rp H v3 (h z)) : Rp H (.ref a) (encT3 f g h (x, y, z)) := .tup h1 (.cons r1 (.cons r2 (.cons r3 .nil)))
end

/-! ### the two heaps -/
def SameXs (L : List Addr) (H H' : Hp) : Prop := ∀ b o, H b = some o → b ∉ L → H' b = some o
theorem SameXs.of {H H' : Hp} {m : Addr} (x : SameX m H H') : SameXs [m] H H' := fun b o e n => x b o e (fun z => n (by rw [z]; exact List.mem_cons_self))
theorem ni1 {b m : Addr} (h : b ≠ m) : b ∉ [m] := by simpa using h
theorem ni2 {b m n : Addr} (h : b ≠ m) (h2 : b ≠ n) : b ∉ [m, n] := by simp [h, h2]
theorem ni3 {b m n o : Addr} (h : b ≠ m) (h2 : b ≠ n) (h3 : b ≠ o) : b ∉ [m, n, o] := by simp [h, h2, h3]
theorem ni4 {b m n o p : Addr} (h : b ≠ m) (h2 : b ≠ n) (h3 : b ≠ o) (h4 : b ≠ p) : b ∉ [m, n, o, p] := by simp [h, h2, h3, h4]
def hideL (L : List Addr) (H : Hp) : Hp := fun b => if b ∈ L then none else H b
theorem hideL_same (L : List Addr) (H : Hp) : Same (hideL L H) H := fun b o e => by
  unfold hideL at e
  split at e
  · cases e
  · exact e
theorem hideL_in {L : List Addr} {H : Hp} {b : Addr} (h : b ∈ L) : hideL L H b = none := if_pos h
theorem hideL_out {L : List Addr} {H : Hp} {b : Addr} (h : b ∉ L) : hideL L H b = H b := if_neg h
/-- M: owned from outside; H0, G0: at the entry; G: what stays as it is; O: what may change -/
structure Sep (M : List Addr) (H0 G0 G H : Hp) (O : List Addr) : Prop where
  base : SameXs M H0 H
  pm : ∀ a ∈ M, H a ≠ none
  sG : Same G H
  g0 : Same G0 G
  gn : ∀ b, H0 b ≠ none → G0 b = none → G b = none
  ow : ∀ a ∈ O, G a = none ∧ H a ≠ none ∧ (a ∈ M ∨ H0 a = none)
theorem all_nil {P : Addr → Prop} : ∀ x ∈ ([] : List Addr), P x := fun x h => by cases h
theorem all_cons {P : Addr → Prop} {a : Addr} {l : List Addr} (h : P a) (t : ∀ x ∈ l, P x) : ∀ x ∈ a :: l, P x := fun x hx => by
  cases hx with
  | head => exact h
  | tail _ hx => exact t x hx
theorem some_ne {H : Hp} {a : Addr} {o : HO} (h : H a = some o) : H a ≠ none := by
  rw [h]
  exact fun z => nomatch z
theorem same_ne {H H' : Hp} {a : Addr} (e : Same H H') (h : H a ≠ none) : H' a ≠ none := by
  cases q : H a with
  | none => exact absurd q h
  | some o => exact some_ne (e a o q)
section
variable {M : List Addr} {H0 G0 G H H' : Hp} {O : List Addr} {p m : Addr} {o : HO}
theorem Sep.start (M : List Addr) (H : Hp) (hM : ∀ a ∈ M, H a ≠ none) : Sep M H (hideL M H) (hideL M H) H M :=
  ⟨fun _ _ e _ => e, hM, hideL_same M H, Same.refl _, fun _ _ e => e, fun a ha => ⟨hideL_in ha, hM a ha, .inl ha⟩⟩
theorem Sep.startG {G H : Hp} (e : Same G H) : Sep [] H G G H [] := ⟨fun _ _ e _ => e, all_nil, e, Same.refl _, fun _ _ e => e, fun a ha => by cases ha⟩
theorem Sep.start0 (H : Hp) : Sep [] H H H H [] := Sep.startG (Same.refl H)
theorem Sep.b0 (S : Sep [] H0 G0 G H O) : Same H0 H := fun b o e => S.base b o e List.not_mem_nil
theorem Sep.free (S : Sep M H0 G0 G H O) {q : Addr} (n : H q = none) : H0 q = none := by
  cases e : H0 q with
  | none => rfl
  | some o =>
    by_cases h : q ∈ M
    · exact absurd n (S.pm q h)
    · rw [S.base q o e h] at n
      cases n
theorem Sep.same (S : Sep M H0 G0 G H O) (e : Same H H') : Sep M H0 G0 G H' O :=
  ⟨fun b o h n => e b o (S.base b o h n), fun a ha => same_ne e (S.pm a ha), S.sG.trans e, S.g0, S.gn, fun a ha => ⟨(S.ow a ha).1, same_ne e (S.ow a ha).2.1, (S.ow a ha).2.2⟩⟩
theorem Sep.gfree (S : Sep M H0 G0 G H O) {q : Addr} (n : H q = none) : G q = none := by
  cases e : G q with
  | none => rfl
  | some o => rw [S.sG q o e] at n; cases n
theorem Sep.new (S : Sep M H0 G0 G H O) (n : H p = none) (e : Same H H') (h : H' p = some o) (hm : H0 p = none) : Sep M H0 G0 G H' (p :: O) := by
  have S1 := S.same e
  refine ⟨S1.base, S1.pm, S1.sG, S1.g0, S1.gn, fun a ha => ?_⟩
  cases ha with
  | head => exact ⟨S.gfree n, some_ne h, .inr hm⟩
  | tail _ ha => exact S1.ow a ha
theorem Sep.grow (S : Sep M H0 G0 G H O) (n : H p = none) (e : Same H H') (h : H' p = some o) (hm : H0 p = none) : ∃ G', Same G G' ∧ G' p = some o ∧ Sep M H0 G0 G' H' O := by
  have S1 := S.same e
  have ng := S.gfree n
  refine ⟨upd G p o, fun b u q => by rw [upd_ne (ne_of_none q ng)]; exact q, upd_same, S1.base, S1.pm, fun b u q => ?_, fun b u q => ?_, fun b hb gb => ?_, fun a ha => ?_⟩
  · by_cases z : b = p
    · subst z
      rw [upd_same] at q
      exact q ▸ h
    · rw [upd_ne z] at q
      exact S1.sG b u q
  · have := S.g0 b u q
    rw [upd_ne (ne_of_none this ng)]
    exact this
  · by_cases z : b = p
    · subst z
      exact absurd hm hb
    · rw [upd_ne z]
      exact S.gn b hb gb
  · have hne : a ≠ p := fun z => (S.ow a ha).2.1 (by rw [z]; exact n)
    rw [upd_ne hne]
    exact S1.ow a ha
theorem Sep.mut (S : Sep M H0 G0 G H O) {L : List Addr} (x : SameXs L H H') (hL : ∀ a ∈ L, a ∈ O) (hs : ∀ a ∈ L, H' a ≠ none) : Sep M H0 G0 G H' O := by
  have keep : ∀ a, H a ≠ none → H' a ≠ none := fun a h => by
    by_cases hb : a ∈ L
    · exact hs a hb
    · cases q : H a with
      | none => exact absurd q h
      | some o => exact some_ne (x a o q hb)
  refine ⟨fun b o e n => ?_, fun a ha => keep a (S.pm a ha), fun b o e => ?_, S.g0, S.gn, fun a ha => ⟨(S.ow a ha).1, keep a (S.ow a ha).2.1, (S.ow a ha).2.2⟩⟩
  · refine x b o (S.base b o e n) fun hb => ?_
    rcases (S.ow b (hL b hb)).2.2 with z | z
    · exact n z
    · rw [e] at z; cases z
  · refine x b o (S.sG b o e) fun hb => ?_
    have := (S.ow b (hL b hb)).1
    rw [e] at this
    cases this
theorem Sep.mut1 (S : Sep M H0 G0 G H O) (x : SameX m H H') (hm : m ∈ O) (h : H' m = some o) : Sep M H0 G0 G H' O :=
  S.mut (SameXs.of x) (all_cons hm all_nil) (all_cons (some_ne h) all_nil)
theorem Sep.sub (S : Sep M H0 G0 G H O) {O' : List Addr} (h : ∀ a ∈ O', a ∈ O) : Sep M H0 G0 G H O' := ⟨S.base, S.pm, S.sG, S.g0, S.gn, fun a ha => S.ow a (h a ha)⟩
/-- what was owned and is to stay as it is from now on -/
theorem Sep.freeze (S : Sep M H0 G0 G H O) {O' : List Addr} (hp : p ∈ O) (h : H p = some o) (hm : H0 p = none) (hO : ∀ a ∈ O', a ∈ O ∧ a ≠ p) : ∃ G', Same G G' ∧ G' p = some o ∧ Sep M H0 G0 G' H O' := by
  have ng := (S.ow p hp).1
  refine ⟨upd G p o, fun b u q => by rw [upd_ne (ne_of_none q ng)]; exact q, upd_same, S.base, S.pm, fun b u q => ?_, fun b u q => ?_, fun b hb gb => ?_, fun a ha => ?_⟩
  · by_cases z : b = p
    · subst z
      rw [upd_same] at q
      exact q ▸ h
    · rw [upd_ne z] at q
      exact S.sG b u q
  · have := S.g0 b u q
    rw [upd_ne (ne_of_none this ng)]
    exact this
  · by_cases z : b = p
    · subst z
      exact absurd hm hb
    · rw [upd_ne z]
      exact S.gn b hb gb
  · rw [upd_ne (hO a ha).2]
    exact S.ow a (hO a ha).1
/-- a callee that hands on data in a stable heap of its own -/
theorem Sep.step (S : Sep M H0 G0 G H O) {G' : Hp} (e : Same H H') (eG : Same G G') (sG : Same G' H') (hn : ∀ b, H b ≠ none → G b = none → G' b = none) : Sep M H0 G0 G' H' O := by
  have S1 := S.same e
  refine ⟨S1.base, S1.pm, sG, S.g0.trans eG, fun b hb gb => ?_, fun a ha => ⟨hn a (S.ow a ha).2.1 (S.ow a ha).1, (S1.ow a ha).2⟩⟩
  refine hn b (fun z => ?_) (S.gn b hb gb)
  exact hb (S.free z)
theorem Sep.hid (S : Sep M H0 G0 G H O) {L : List Addr} (h : ∀ a ∈ L, a ∈ O) : Same G (hideL L H) := fun b o e => by
  rw [hideL_out fun z => by
    have := (S.ow b (h b z)).1
    rw [e] at this
    cases this]
  exact S.sG b o e
end
end Vx

namespace Vx
open PySem PySem.Spec PyProof.Rows L2
/-! ### lists of plain things (f : V.int, V.bl, V.str) -/
section
variable {α : Type} {f : α → V} {H : Hp} {p : Addr}
theorem cat_map {xs ys : List α} (h : H p = some (.lst (xs.map f ++ ys.map f))) : H p = some (.lst ((xs ++ ys).map f)) := by
  rw [List.map_append]; exact h
theorem snoc_map {xs : List α} {y : α} (h : H p = some (.lst (xs.map f ++ [f y]))) : H p = some (.lst ((xs ++ [y]).map f)) := by
  rw [List.map_append]; exact h
def repL (xs : List α) (k : Int) : List α := (List.replicate k.toNat xs).flatten
theorem rep_map {xs : List α} {k : Int} (h : H p = some (.lst (List.replicate k.toNat (xs.map f)).flatten)) : H p = some (.lst ((repL xs k).map f)) := by
  rw [h]
  unfold repL
  rw [List.map_flatten, List.map_replicate]
def cutL (xs : List α) (lo hi : Option Int) : List α := (xs.drop (HT.sIx xs.length 0 lo)).take (HT.sIx xs.length xs.length hi - HT.sIx xs.length 0 lo)
theorem cut_map {xs : List α} {lo hi : Option Int} (h : H p = some (.lst (cutV (xs.map f) lo hi))) : H p = some (.lst ((cutL xs lo hi).map f)) := by
  rw [h]
  unfold cutV cutL
  rw [List.length_map, List.map_take, List.map_drop]
theorem cast_map {xs ys : List α} (h : H p = some (.lst (xs.map f))) (e : xs = ys) : H p = some (.lst (ys.map f)) := e ▸ h
theorem drop_map {xs : List α} (h : H p = some (.lst (xs.map f).dropLast)) : H p = some (.lst (xs.dropLast.map f)) := by
  rw [h, List.map_dropLast]
theorem ixN_some {n : Nat} {k : Int} (h : -(n : Int) ≤ k ∧ k < n) : ∃ j, ixN n k = some j ∧ j < n := by
  unfold ixN
  by_cases h0 : 0 ≤ k
  · exact ⟨k.toNat, by rw [if_pos h0, if_pos h.2], by omega⟩
  · exact ⟨(k + n).toNat, by rw [if_neg h0, if_pos h.1], by omega⟩
def itD [Inhabited α] (xs : List α) (k : Int) : α := (atI xs k).getD default
theorem atI_map [Inhabited α] {xs : List α} {k : Int} (h : -(xs.length : Int) ≤ k ∧ k < xs.length) : atI (xs.map f) k = some (f (itD xs k)) := by
  obtain ⟨j, e, hj⟩ := ixN_some h
  unfold itD atI
  rw [List.length_map, e]
  show (xs.map f)[j]? = some (f ((xs[j]?).getD default))
  rw [List.getElem?_map, List.getElem?_eq_getElem hj] <;> rfl
def setL (xs : List α) (k : Int) (y : α) : List α := xs.set ((ixN xs.length k).getD 0) y
theorem ixN_map {xs : List α} {k : Int} (h : -(xs.length : Int) ≤ k ∧ k < xs.length) : ixN (xs.map f).length k = some ((ixN xs.length k).getD 0) := by
  obtain ⟨j, e, hj⟩ := ixN_some h
  rw [List.length_map, e] <;> rfl
theorem set_map {xs : List α} {k : Int} {y : α} (h : H p = some (.lst ((xs.map f).set ((ixN xs.length k).getD 0) (f y)))) : H p = some (.lst ((setL xs k y).map f)) := by
  rw [h]
  unfold setL
  rw [List.map_set]
def lastD [Inhabited α] (xs : List α) : α := xs.getLastD default
theorem pop_map [Inhabited α] {xs : List α} (h : xs ≠ []) : (xs.map f)[(xs.map f).length - 1]? = some (f (lastD xs)) := by
  rw [← List.getLast?_eq_getElem?, List.getLast?_map]
  unfold lastD
  cases e : xs.getLast? with
  | none => exact absurd (List.getLast?_eq_none_iff.mp e) h
  | some y =>
    rw [List.getLastD_eq_getLast?, e] <;> rfl
end
/-! ### lists of data -/
section
variable {α β : Type} {f : α → PyData} {g : β → PyData} {G : Hp} {vs ws : List V} {xs ys : List α}
theorem app_map (a : RpAll G vs (xs.map f)) (b : RpAll G ws (ys.map f)) : RpAll G (vs ++ ws) ((xs ++ ys).map f) := by
  rw [List.map_append]; exact a.append b
theorem one_map {v : V} {y : α} (a : RpAll G vs (xs.map f)) (b : Rp G v (f y)) : RpAll G (vs ++ [v]) ((xs ++ [y]).map f) := by
  rw [List.map_append]; exact a.append (.one b)
theorem rep_all (k : Int) (a : RpAll G vs (xs.map f)) : RpAll G (List.replicate k.toNat vs).flatten ((repL xs k).map f) := by
  unfold repL
  rw [List.map_flatten, List.map_replicate]
  exact a.rep _
theorem cut_all (lo hi : Option Int) (a : RpAll G vs (xs.map f)) : RpAll G (cutV vs lo hi) ((cutL xs lo hi).map f) := by
  unfold cutV cutL
  rw [a.len, List.length_map, List.map_take, List.map_drop]
  exact (a.drop _).take _
theorem rp_cast {v : V} {d e : PyData} (r : Rp G v d) (h : d = e) : Rp G v e := h ▸ r
theorem comp_listD {i : Nat} {x : α} {y : β} {v : V} {h : α → β} (hi : xs[i]? = some x) (a : RpAll G vs (((xs.take i).map h).map g)) (r : Rp G v (g y)) (e : h x = y) : RpAll G (vs ++ [v]) (((xs.take (i + 1)).map h).map g) := by
  rw [take_succ_get hi, List.map_append, List.map_append]
  exact a.append (.one (e ▸ r))
theorem comp_rangeD {i : Nat} {y : β} {v : V} {h : Nat → β} (a : RpAll G vs (((List.range i).map h).map g)) (r : Rp G v (g y)) (e : h i = y) : RpAll G (vs ++ [v]) (((List.range (i + 1)).map h).map g) := by
  rw [List.range_succ, List.map_append, List.map_append]
  exact a.append (.one (e ▸ r))
theorem comp_doneD {n : Nat} {h : List α → List β} (hl : n = xs.length) (a : RpAll G vs ((h (xs.take n)).map g)) : RpAll G vs ((h xs).map g) := by
  rw [hl, List.take_length] at a
  exact a
theorem comp_listFD {i : Nat} {x : α} {y : β} {v : V} {h : α → β} {q : α → Bool} (hi : xs[i]? = some x) (hq : q x = true) (a : RpAll G vs ((((xs.take i).filter q).map h).map g)) (r : Rp G v (g y)) (e : h x = y) : RpAll G (vs ++ [v]) ((((xs.take (i + 1)).filter q).map h).map g) := by
  rw [take_succ_get hi, List.filter_append, List.filter_cons, if_pos hq, List.map_append, List.map_append]
  exact a.append (.one (e ▸ r))
theorem skip_listD {i : Nat} {x : α} {h : α → β} {q : α → Bool} (hi : xs[i]? = some x) (hq : q x = false) (a : RpAll G vs ((((xs.take i).filter q).map h).map g)) : RpAll G vs ((((xs.take (i + 1)).filter q).map h).map g) := by
  rw [take_succ_get hi, List.filter_append, List.filter_cons, if_neg (by rw [hq]; decide), List.filter_nil, List.append_nil]
  exact a
end
section
variable {α β : Type} {f : β → V} {H : Hp} {D : Addr} {xs : List α}
theorem compM_list {i : Nat} {x : α} {y : β} {h : α → β} (hi : xs[i]? = some x) (a : H D = some (.lst (((xs.take i).map h).map f ++ [f y]))) (e : h x = y) : H D = some (.lst (((xs.take (i + 1)).map h).map f)) := by
  rw [a, ← e, take_succ_get hi, List.map_append, List.map_append] <;> rfl
theorem compM_range {i : Nat} {y : β} {h : Nat → β} (a : H D = some (.lst (((List.range i).map h).map f ++ [f y]))) (e : h i = y) : H D = some (.lst (((List.range (i + 1)).map h).map f)) := by
  rw [a, ← e, List.range_succ, List.map_append, List.map_append] <;> rfl
theorem compM_done {n : Nat} {h : List α → List β} (hl : n = xs.length) (a : H D = some (.lst ((h (xs.take n)).map f))) : H D = some (.lst ((h xs).map f)) := by
  rw [hl, List.take_length] at a
  exact a
theorem compM_listF {i : Nat} {x : α} {y : β} {h : α → β} {q : α → Bool} (hi : xs[i]? = some x) (hq : q x = true) (a : H D = some (.lst ((((xs.take i).filter q).map h).map f ++ [f y]))) (e : h x = y) : H D = some (.lst ((((xs.take (i + 1)).filter q).map h).map f)) := by
  rw [a, ← e, take_succ_get hi, List.filter_append, List.filter_cons, if_pos hq, List.map_append, List.map_append] <;> rfl
theorem skipM_list {i : Nat} {x : α} {h : α → β} {q : α → Bool} (hi : xs[i]? = some x) (hq : q x = false) (a : H D = some (.lst ((((xs.take i).filter q).map h).map f))) : H D = some (.lst ((((xs.take (i + 1)).filter q).map h).map f)) := by
  rw [a, take_succ_get hi, List.filter_append, List.filter_cons, if_neg (by rw [hq]; decide), List.filter_nil, List.append_nil]
theorem compM_rangeF {i : Nat} {y : β} {h : Nat → β} {q : Nat → Bool} (hq : q i = true) (a : H D = some (.lst ((((List.range i).filter q).map h).map f ++ [f y]))) (e : h i = y) : H D = some (.lst ((((List.range (i + 1)).filter q).map h).map f)) := by
  rw [a, ← e, List.range_succ, List.filter_append, List.filter_cons, if_pos hq, List.map_append, List.map_append] <;> rfl
theorem skipM_range {i : Nat} {h : Nat → β} {q : Nat → Bool} (hq : q i = false) (a : H D = some (.lst ((((List.range i).filter q).map h).map f))) : H D = some (.lst ((((List.range (i + 1)).filter q).map h).map f)) := by
  rw [a, List.range_succ, List.filter_append, List.filter_cons, if_neg (by rw [hq]; decide), List.filter_nil, List.append_nil]
end
/-! ### more rules -/
section
variable {X : Cx} {K : PySem.W.Frag}
theorem ix_tupK (hK : X.K = K := by rfl) : IxR X (rIxT K) := hK ▸ ix_tup
def rLenLK (K : PySem.W.Frag) : List V → Hp → VK → Prop := fun xs H Q => ∃ (p : Addr) (vs : List V) (n : Nat), xs = [.ref p] ∧ SqL K H p vs ∧ vs.length = n ∧ Q (.int (n : Int)) H
theorem call_lenLK (hK : X.K = K := by rfl) : CallR X (.builtin "len") (rLenLK K) := by
  subst hK
  intro pins s σ H xs us Q I r h
  obtain ⟨p, vs, n, rfl, hs, hn, q⟩ := h
  exact call_len_seq pins s σ H _ us Q I r ⟨p, _, rfl, Or.inl hs, by rw [hn]; exact q⟩
def rListLK (K : PySem.W.Frag) : List V → Hp → VK → Prop := fun xs H Q => ∃ (p : Addr) (vs : List V), xs = [.ref p] ∧ SqL K H p vs ∧ ∀ l, H l = none → Q (.ref l) (upd H l (.lst vs))
theorem call_listLK (hK : X.K = K := by rfl) : CallR X (.type "list") (rListLK K) := by
  subst hK
  intro pins s σ H xs us Q I r h
  obtain ⟨p, vs, rfl, hs, q⟩ := h
  exact call_list_of pins s σ H _ us Q I r ⟨p, _, rfl, Or.inl hs, q⟩
theorem cr_anyK (hc : X.calm = true) (hK : X.K = K := by rfl) : CallR X (.builtin "any") (rAny K) := hK ▸ cr_any hc
theorem cr_allK (hc : X.calm = true) (hK : X.K = K := by rfl) : CallR X (.builtin "all") (rAll K) := hK ▸ cr_all hc
theorem pi_tupK {tg l : Expr} {tl : TE} (hl : PE X l tl) (hK : X.K = K := by rfl) : PI X tg l (iTup K tl) := hK ▸ pi_tup hl
theorem pip {op : Operator} {r : R2} (h : OpR X (inplaceOp op) r) : PIp X op r := fun pins s σ H x y v u Q I rx ry q => h pins s σ H x y v u Q I rx ry q
/-- an item at a place from 0 on, by itself (ahead of o[i] op= e) -/
def rIxP (K : PySem.W.Frag) : R2 := fun x y H Q => ∃ (p : Addr) (xs : List V) (k : Int) (v : V), x = .ref p ∧ y = .int k ∧ SqL K H p xs ∧ 0 ≤ k ∧ k < 2 ^ 62 ∧ atI xs k = some v ∧ Q v H
theorem pget_list (hK : X.K = K := by rfl) : PGet X (rIxP K) := by
  subst hK
  intro pins s σ H o i ov iv Q I ro ri h
  obtain ⟨p, xs, k, v, rfl, rfl, hq, h0, h62, ha, q⟩ := h
  cases ro
  obtain ⟨t, rfl⟩ := ri
  obtain ⟨its, r, pl, hz⟩ := I.list hq
  obtain ⟨j, h1, h2, h3, h4, h5⟩ := atI_get ha
  obtain ⟨w, ew, rw'⟩ := r.get h2
  have hj : k.toNat = j := by
    rw [seqIndex_of h0 h5] at h1
    exact Option.some.inj h1
  exact getItem_listL pl.isList h0 (by omega) (by rw [hj]; simpa using ew) ⟨v, H, I, rw', q⟩
theorem tru_map {α : Type} [DecidableEq α] {f : α → V} {xs : List α} : (!decide (xs = [])) = !(xs.map f).isEmpty := by
  cases xs <;> simp
end
end Vx

namespace Vx
open PySem PySem.Spec PyProof.Rows L2
/-! ### objects -/
section
variable {M : List Addr} {H0 G0 G H H' : Hp} {O : List Addr} {p m : Addr} {o : HO}
theorem gen_obj {x dx : Addr} {o1 o2 : HO} (nx : H x = none) (nd : H dx = none) (ne : dx ≠ x) (h : upd (upd H dx o1) x o2 = H') : Same H H' ∧ H' x = some o2 := by
  subst h
  exact ⟨fun b u e => by rw [upd_ne (ne_of_none e nx), upd_ne (ne_of_none e nd)]; exact e, upd_same⟩
theorem sameX_of {m : Addr} (x : SameXs [m] H H') : SameX m H H' := fun b o e n => x b o e (by simpa using n)
theorem g_ne {a b : Addr} (h : G a = some o) (S : Sep M H0 G0 G H O) (hb : b ∈ O) : a ≠ b := fun z => by
  have := (S.ow b hb).1
  rw [← z, h] at this
  cases this
/-- an object whose making has laid some lists -/
theorem Sep.mutnew (S : Sep M H0 G0 G H O) {L : List Addr} (x : SameXs L H H') (hL : ∀ a ∈ L, a ∈ O) (hs : ∀ a ∈ L, H' a ≠ none) (hn : H p = none) (hp : H' p ≠ none) (h0 : H0 p = none) : Sep M H0 G0 G H' (p :: O) := by
  have S1 := S.mut x hL hs
  refine ⟨S1.base, S1.pm, S1.sG, S1.g0, S1.gn, all_cons ⟨S.gfree hn, hp, .inr h0⟩ S1.ow⟩
theorem Sep.init (S : Sep M H0 G0 G H O) (x : SameX m H H') (hm : m ∈ O) (h : H' m = some o) (L : List Addr) (hL : ∀ a ∈ L, H a = none ∧ H' a ≠ none ∧ H0 a = none) : Sep M H0 G0 G H' (L ++ O) := by
  have S1 := S.mut1 x hm h
  refine ⟨S1.base, S1.pm, S1.sG, S1.g0, S1.gn, fun a ha => ?_⟩
  rcases List.mem_append.mp ha with z | z
  · obtain ⟨h1, h2, h3⟩ := hL a z
    exact ⟨S.gfree h1, h2, .inr h3⟩
  · exact S1.ow a z
end
section
variable {P : Program} {w : World} {K : PySem.W.Frag} {mg : Str → Option Value} {base : Heap}
structure MethIn (K : PySem.W.Frag) (C : Addr) (q m : Str) (st : Stmt) (ps : List Str) : Prop where
  ex : ∃ (f : Addr) (fd : FuncData), Fun K m q st f fd ∧ Meth K C m f ∧ Binds K fd ps []
structure PropIn (K : PySem.W.Frag) (C : Addr) (q m : Str) (st : Stmt) (ps : List Str) : Prop where
  ex : ∃ (r f : Addr) (fd : FuncData), Fun K m q st f fd ∧ PropOf K C m r f ∧ Binds K fd ps []
structure InitIn (K : PySem.W.Frag) (mg : Str → Option Value) (C : Addr) (cn q : Str) (st : Stmt) (ps : List Str) : Prop where
  ex : ∃ (f : Addr) (fd : FuncData), Fun K "__init__" q st f fd ∧ Mk K C f ∧ mg cn = some (.ref C) ∧ Binds K fd ps []
structure MetC (P : Program) (w : World) (K : PySem.W.Frag) (mg : Str → Option Value) (base : Heap) (k : Nat) (C : Addr) (m : Str) (sp : Sp) : Prop where
  ex : ∃ (f : Addr) (fd : FuncData) (ps : List Str), Cls K C ∧ Meth K C m f ∧ FnOk P w K mg base CX0 k f fd ps sp ∧ Binds K fd ps []
structure PropC (P : Program) (w : World) (K : PySem.W.Frag) (mg : Str → Option Value) (base : Heap) (k : Nat) (C : Addr) (m : Str) (sp : Sp) : Prop where
  ex : ∃ (q f : Addr) (fd : FuncData) (ps : List Str), Cls K C ∧ PropOf K C m q f ∧ FnOk P w K mg base CX0 k f fd ps sp ∧ Binds K fd ps []
structure MakC (P : Program) (w : World) (K : PySem.W.Frag) (mg : Str → Option Value) (base : Heap) (k : Nat) (cn : Str) (C : Addr) (sp : Sp) : Prop where
  ex : ∃ (f : Addr) (fd : FuncData) (ps : List Str), Mk K C f ∧ FnOk P w K mg base CX0 k f fd ps sp ∧ mg cn = some (.ref C) ∧ Binds K fd ps []
abbrev Body (P : Program) (w : World) (K : PySem.W.Frag) (mg : Str → Option Value) (base : Heap) (x : Str) (st : Stmt) (N : List Str) (k : Nat) (sp : Sp) : Prop :=
  ∀ (f : Addr) (cdv : Value) (A : Around) (outer : List Env) (s : Shared) (H : Hp) (vs : List V) (Q : VK) (E : XK), Room k (A.deeper (envOfC x (defScope st) s.heap.objs.size f cdv)) → sp vs H Q E →
    ∃ t, PSs (cxOf CX0 P w K mg base N x (defScope st) f cdv A outer s H E).nox (defBody st) t ∧ t { nx := fun _ H' => Q .non H', rt := Q } (start N vs) H
theorem MethIn.ok {C : Addr} {q m : Str} {st : Stmt} {N ps : List Str} {k : Nat} {sp : Sp} (D : MethIn K C q m st ps) (c : Cls K C) (S : FnScope N ps (defScope st)) (len : ∀ vs H Q E, sp vs H Q E → vs.length = ps.length)
    (hbody : Body P w K mg base q st N k sp) : MetC P w K mg base (k + 1) C m sp := by
  obtain ⟨f, fd, F, me, b⟩ := D.ex
  exact ⟨f, fd, ps, c, me, F.ok S len (fun cdv A outer s H vs Q E hr h => hbody f cdv A outer s H vs Q E hr h), b⟩
theorem PropIn.ok {C : Addr} {q m : Str} {st : Stmt} {N ps : List Str} {k : Nat} {sp : Sp} (D : PropIn K C q m st ps) (c : Cls K C) (S : FnScope N ps (defScope st)) (len : ∀ vs H Q E, sp vs H Q E → vs.length = ps.length)
    (hbody : Body P w K mg base q st N k sp) : PropC P w K mg base (k + 1) C m sp := by
  obtain ⟨r, f, fd, F, me, b⟩ := D.ex
  exact ⟨r, f, fd, ps, c, me, F.ok S len (fun cdv A outer s H vs Q E hr h => hbody f cdv A outer s H vs Q E hr h), b⟩
theorem InitIn.ok {C : Addr} {cn q : Str} {st : Stmt} {N ps : List Str} {k : Nat} {sp : Sp} (D : InitIn K mg C cn q st ps) (S : FnScope N ps (defScope st)) (len : ∀ vs H Q E, sp vs H Q E → vs.length = ps.length)
    (hbody : Body P w K mg base q st N k sp) : MakC P w K mg base (k + 1) cn C sp := by
  obtain ⟨f, fd, F, me, hm, b⟩ := D.ex
  exact ⟨f, fd, ps, me, F.ok S len (fun cdv A outer s H vs Q E hr h => hbody f cdv A outer s H vs Q E hr h), hm, b⟩
end
section
variable {X : Cx} {k j : Nat} {C : Addr} {x m : Str} {sp : Sp} {p pos apos : Pos} {e o : Expr} {es : List Expr} {ta : TE} {t : TA}
theorem vx_call0 (c : Cal X.prog X.w X.K X.mg X.base k x sp) (hr : Room j X.A) (hk : k ≤ j) (hg : Gl X x) (hdb : (x == ("__debug__" : Str)) = false := by decide) : PE X (.Call (.Name x p) [] [] pos) (tCall sp [] E0 tNil) := by
  obtain ⟨f, fd, ps, F, hm, kp, b⟩ := c.ex
  exact pe_call0 F (hr.mono hk) hg hm kp b .nil pass0 hdb
theorem vx_make (c : MakC X.prog X.w X.K X.mg X.base k x C sp) (hr : Room j X.A) (hk : k + 1 ≤ j) (hg : Gl X x) (ha : PA X (e :: es) t)
    (hdb : (x == ("__debug__" : Str)) = false := by decide) (he : starEach (e :: es) X.env = (false, eval e X.env) :: starEach es X.env := by rfl) (hpl : (backTo pos (starEach es X.env)).any (·.1) = false := by rfl) :
    PE X (.Call (.Name x p) (e :: es) [] pos) (tMake C sp [] E0 t) := by
  obtain ⟨f, fd, ps, M, F, hm, b⟩ := c.ex
  exact pe_make M F (hr.mono hk) hg hm b .nil pass0 ha hdb he hpl
theorem vx_make0 (c : MakC X.prog X.w X.K X.mg X.base k x C sp) (hr : Room j X.A) (hk : k + 1 ≤ j) (hg : Gl X x) (hdb : (x == ("__debug__" : Str)) = false := by decide) :
    PE X (.Call (.Name x p) [] [] pos) (tMake C sp [] E0 tNil) := by
  obtain ⟨f, fd, ps, M, F, hm, b⟩ := c.ex
  exact pe_make0 M F (hr.mono hk) hg hm b .nil pass0 hdb
theorem vx_meth {pl : Sem Bool} (c : MetC X.prog X.w X.K X.mg X.base k C m sp) (hr : Room j X.A) (hk : k ≤ j) (he : PE X o ta) (ha : PA X (e :: es) t)
    (hst : starEach (e :: es) X.env = (false, eval e X.env) :: starEach es X.env := by rfl) (hpl : (backTo pos (starEach es X.env)).any (·.1) = false := by rfl)
    (ht : eval (.Call (.Attribute o m apos) (e :: es) [] pos) X.env = (do
      let ov ← eval o X.env
      standAt apos.atName
      let (f, first) ← holding [ov] (getMethod ov m pl)
      callWith pos f first (backTo pos (starEach (e :: es) X.env)) (backToKw pos (keywordEach [] X.env))) := by rfl) :
    PE X (.Call (.Attribute o m apos) (e :: es) [] pos) (tMeth C m sp [] E0 ta t) := by
  obtain ⟨f, fd, ps, hc, hm, F, b⟩ := c.ex
  exact pe_meth he hc hm F (hr.mono hk) b .nil pass0 ha hst hpl ht
theorem vx_meth0 {pl : Sem Bool} (c : MetC X.prog X.w X.K X.mg X.base k C m sp) (hr : Room j X.A) (hk : k ≤ j) (he : PE X o ta)
    (ht : eval (.Call (.Attribute o m apos) [] [] pos) X.env = (do
      let ov ← eval o X.env
      standAt apos.atName
      let (f, first) ← holding [ov] (getMethod ov m pl)
      callWith pos f first (backTo pos (starEach [] X.env)) (backToKw pos (keywordEach [] X.env))) := by rfl) :
    PE X (.Call (.Attribute o m apos) [] [] pos) (tMeth C m sp [] E0 ta tNil) := by
  obtain ⟨f, fd, ps, hc, hm, F, b⟩ := c.ex
  exact pe_meth0 he hc hm F (hr.mono hk) b .nil pass0 ht
theorem vx_prop (c : PropC X.prog X.w X.K X.mg X.base k C m sp) (hr : Room j X.A) (hk : k + 1 ≤ j) (he : PE X o ta) (hab : attributeBase o m X.env (eval o X.env) = eval o X.env) : PE X (.Attribute o m pos) (tProp C sp [] E0 ta) := by
  obtain ⟨q, f, fd, ps, hc, hp, F, b⟩ := c.ex
  exact pe_prop he hc hp F (hr.mono hk) b .nil pass0 hab
end
theorem iteBNT {b : Bool} {A B : Prop} (h : b = false) (k : A) : if (!b) = true then A else B := by rw [h]; exact iteT k
theorem iteNN {b : Bool} {A B : Prop} (h : if b = true then A else B) : if (!!b) = true then A else B := by rw [Bool.not_not]; exact h
theorem iteBNF {b : Bool} {A B : Prop} (h : b = true) (k : B) : if (!b) = true then A else B := by rw [h]; exact iteF k
theorem shl_side {i j : Int} (h0 : 0 ≤ j) (h1 : j ≤ 4096) (h2 : -(2 ^ 4096) < i) (h3 : i < 2 ^ 4096) : CShl i j := by
  obtain ⟨k, rfl⟩ := Int.eq_ofNat_of_zero_le h0
  exact shl_ok (n := 4096) (by omega) (by omega)
end Vx

namespace Vx
open PySem PySem.Spec PyProof.Rows L2
section
variable {X : Cx} {K : PySem.W.Frag}
theorem fldK {e : Expr} {f : Str} {pos : Pos} {ta : TE} (he : PE X e ta) (hb : attributeBase e f X.env (eval e X.env) = eval e X.env := by rfl) (hK : X.K = K := by rfl) : PE X (.Attribute e f pos) (tFld K ta f) := hK ▸ pe_fld he hb
theorem pg_tupK {es : List Expr} {k : Nat} {t : TGs} {n : Nat} {pos : Pos} (h : PGs X es t) (hc : X.calm = true := by rfl)
    (hn : (assignEach es X.env).length = n := by rfl) (hst : (assignEach es X.env).findIdx? (·.1) = none := by rfl) (hK : X.K = K := by rfl) : PG X (.Tuple es k pos) (gTup K n t) := hK ▸ pg_tup hc h hn hst
end
end Vx

namespace Vx
open PySem PySem.Spec PyProof.Rows L2
section
variable {α β : Type} {f : α → PyData} {g : β → PyData} {fv : α → V} {gv : β → V} {G : Hp} {vs ws : List V} {xs : List α} {ys : List β}
theorem big1 {n : Nat} (h : n ≤ 1000000) : n ≤ sizeLine := smallE h
theorem cat_len (a : RpAll G vs (xs.map f)) (b : RpAll G ws (ys.map g)) (h : xs.length + ys.length ≤ 1000000) : vs.length + ws.length ≤ sizeLine := by
  rw [a.len, b.len, List.length_map, List.length_map]; exact smallE h
theorem cat_lenM (h : xs.length + ys.length ≤ 1000000) : (xs.map fv).length + (ys.map gv).length ≤ sizeLine := by
  rw [List.length_map, List.length_map]; exact smallE h
theorem rep_len {k : Nat} (a : RpAll G vs (xs.map f)) (h : xs.length * k ≤ 1000000) : vs.length * k ≤ sizeLine := by
  rw [a.len, List.length_map]; exact smallE h
theorem rep_lenM {k : Nat} (h : xs.length * k ≤ 1000000) : (xs.map fv).length * k ≤ sizeLine := by
  rw [List.length_map]; exact smallE h
theorem app_len (a : RpAll G vs (xs.map f)) (h : xs.length ≤ 1000000) : vs.length < sizeLine := by
  rw [a.len, List.length_map]; exact small h
theorem app_lenM (h : xs.length ≤ 1000000) : (xs.map fv).length < sizeLine := by
  rw [List.length_map]; exact small h
theorem cutL_len {α : Type} (xs : List α) (lo hi : Option Int) : (cutL xs lo hi).length ≤ xs.length := by
  unfold cutL
  rw [List.length_take, List.length_drop]
  omega
theorem repL_len {α : Type} (xs : List α) (k : Int) : (repL xs k).length = k.toNat * xs.length := by
  unfold repL
  simp
end
end Vx
/-! # third part: what a def computes, as a plain function with refusals -/
namespace Vx
open PySem PySem.Spec PyProof.Rows L2
inductive Rx (α : Type) where
  | ok (a : α)
  | er (e : Nat)
  | bad
def Rx.bind {α β : Type} (m : Rx α) (f : α → Rx β) : Rx β :=
  match m with
  | .ok a => f a
  | .er e => .er e
  | .bad => .bad
/-- what is wanted of an outcome -/
def cW {α : Type} (m : Rx α) (K : α → Prop) (E : Nat → Prop) : Prop :=
  match m with
  | .ok a => K a
  | .er e => E e
  | .bad => False
def grd {α : Type} (p : Prop) [Decidable p] (m : Rx α) : Rx α := if p then m else .bad
/-- within a comprehension nothing may be raised -/
def noEr {α : Type} (m : Rx α) : Rx α :=
  match m with
  | .ok a => .ok a
  | _ => .bad
/-- what the clause does not name may not come -/
def tryR {α β : Type} (m : Rx α) (cs : List Nat) (f : α → Rx β) (h : Nat → Rx β) : Rx β :=
  match m with
  | .ok a => f a
  | .er e => if e ∈ cs then h e else .bad
  | .bad => .bad
def bnd {α β : Type} (a : α) (f : α → Rx β) : Rx β := f a
inductive Lp (σ ρ : Type) where
  | go (s : σ)
  | bk (s : σ)
  | rt (r : ρ)
def Lp.aft {σ ρ τ : Type} (l : Lp σ ρ) (kr : ρ → Rx τ) (k : σ → Rx τ) : Rx τ :=
  match l with
  | .go s => k s
  | .bk s => k s
  | .rt r => kr r
def forS {σ α : Type} : List α → σ → (σ → α → Rx σ) → Rx σ
  | [], s, _ => .ok s
  | x :: r, s, f => (f s x).bind fun s' => forS r s' f
def forR {σ α ρ : Type} : List α → σ → (σ → α → Rx (Lp σ ρ)) → Rx (Lp σ ρ)
  | [], s, _ => .ok (.go s)
  | x :: r, s, f => (f s x).bind fun l =>
    match l with
    | .go s' => forR r s' f
    | .bk s' => .ok (.go s')
    | .rt v => .ok (.rt v)
def whileR {σ ρ : Type} : Nat → σ → (σ → Rx (Lp σ ρ)) → Rx (Lp σ ρ)
  | 0, _, _ => .bad
  | n + 1, s, f => (f s).bind fun l =>
    match l with
    | .go s' => whileR n s' f
    | .bk s' => .ok (.go s')
    | .rt v => .ok (.rt v)
def mapA {α β : Type} : List α → List β → (α → Rx β) → Rx (List β)
  | [], acc, _ => .ok acc
  | x :: r, acc, f => grd (acc.length ≤ 1000000) ((f x).bind fun y => mapA r (acc ++ [y]) f)
def mapF {α β : Type} : List α → List β → (α → Rx (Option β)) → Rx (List β)
  | [], acc, _ => .ok acc
  | x :: r, acc, f => grd (acc.length ≤ 1000000) ((f x).bind fun y =>
    match y with
    | some z => mapF r (acc ++ [z]) f
    | none => mapF r acc f)
section
variable {α β γ σ ρ τ : Type} {K : α → Prop} {E : Nat → Prop}
theorem cW_gen {m : Rx α} (h : cW m K E) : ∃ (K' : α → Prop) (E' : Nat → Prop), (∀ v, K' v → K v) ∧ (∀ e, E' e → E e) ∧ cW m K' E' := ⟨K, E, fun _ x => x, fun _ x => x, h⟩
theorem cW_grd {p : Prop} {dp : Decidable p} {m : Rx α} (h : cW (grd p m) K E) : p ∧ cW m K E := by
  unfold grd at h
  split at h
  · exact ⟨‹p›, h⟩
  · exact h.elim
theorem cW_pos {p : Prop} {dp : Decidable p} {a b : Rx α} (c : p) (h : cW (if p then a else b) K E) : cW a K E := by rwa [if_pos c] at h
theorem cW_neg {p : Prop} {dp : Decidable p} {a b : Rx α} (c : ¬ p) (h : cW (if p then a else b) K E) : cW b K E := by rwa [if_neg c] at h
theorem cW_call {m : Rx β} {f : β → Rx α} {K2 : β → Prop} {E2 : Nat → Prop} (h : cW (m.bind f) K E) (ho : ∀ v, cW (f v) K E → K2 v) (he : ∀ e, E e → E2 e) : cW m K2 E2 := by
  cases m with
  | ok a => exact ho a h
  | er e => exact he e h
  | bad => exact h
theorem cW_push {m : Rx β} {f : β → Rx α} (h : cW (m.bind f) K E) : ∃ K2 : β → Prop, (∀ v, K2 v → cW (f v) K E) ∧ cW m K2 E := ⟨fun v => cW (f v) K E, fun _ x => x, cW_call h (fun _ x => x) fun _ x => x⟩
theorem cW_name {m : Rx α} (h : cW m K E) : ∃ K' : α → Prop, (∀ v, K' v → K v) ∧ cW m K' E := ⟨K, fun _ x => x, h⟩
theorem cW_noEr {m : Rx α} (h : cW (noEr m) K E) : cW m K (fun _ => False) := by
  cases m with
  | ok a => exact h
  | er e => exact h
  | bad => exact h
theorem cW_try {m : Rx β} {cs : List Nat} {f : β → Rx α} {g : Nat → Rx α} {K2 : β → Prop} {E2 : Nat → Prop} (h : cW (tryR m cs f g) K E) (ho : ∀ v, cW (f v) K E → K2 v) (hc : ∀ e, e ∈ cs → cW (g e) K E → E2 e) : cW m K2 E2 := by
  cases m with
  | ok a => exact ho a h
  | er e =>
    have h2 : cW (if e ∈ cs then g e else .bad) K E := h
    by_cases q : e ∈ cs
    · exact hc e q (cW_pos q h2)
    · exact (cW_neg q h2).elim
  | bad => exact h
theorem cW_bnd {a : β} {f : β → Rx α} (h : cW (bnd a f) K E) : cW (f a) K E := h
theorem cW_ok {a : α} (h : cW (.ok a) K E) : K a := h
theorem cW_er {e : Nat} (h : cW (.er e : Rx α) K E) : E e := h
theorem cW_negB {b : Bool} {x y : Rx α} (c : b = false) (h : cW (if b = true then x else y) K E) : cW y K E := cW_neg (by rw [c]; decide) h
theorem cW_forS {xs : List β} {i : Nat} {x : β} {s : α} {f : α → β → Rx α} (hx : xs[i]? = some x) (h : cW (forS (xs.drop i) s f) K E) : cW (f s x) (fun s' => cW (forS (xs.drop (i + 1)) s' f) K E) E := by
  rw [List.drop_eq_getElem?_toList_append, hx] at h
  exact cW_call h (fun _ z => z) fun _ z => z
theorem cW_forS0 {xs : List β} {n : Nat} {s : α} {f : α → β → Rx α} (hn : n = xs.length) (h : cW (forS (xs.drop n) s f) K E) : K s := by
  subst hn
  rw [List.drop_length] at h
  exact h
theorem cW_forR {K : Lp σ ρ → Prop} {xs : List β} {i : Nat} {x : β} {s : σ} {f : σ → β → Rx (Lp σ ρ)} (hx : xs[i]? = some x) (h : cW (forR (xs.drop i) s f) K E) :
    cW (f s x) (fun l => match l with | .go s' => cW (forR (xs.drop (i + 1)) s' f) K E | .bk s' => K (.go s') | .rt v => K (.rt v)) E := by
  rw [List.drop_eq_getElem?_toList_append, hx] at h
  refine cW_call h (fun l z => ?_) fun _ z => z
  cases l with
  | go s' => exact z
  | bk s' => exact z
  | rt v => exact z
theorem cW_forR0 {K : Lp σ ρ → Prop} {xs : List β} {n : Nat} {s : σ} {f : σ → β → Rx (Lp σ ρ)} (hn : n = xs.length) (h : cW (forR (xs.drop n) s f) K E) : K (.go s) := by
  subst hn
  rw [List.drop_length] at h
  exact h
theorem cW_whileR {K : Lp σ ρ → Prop} {m : Nat} {s : σ} {f : σ → Rx (Lp σ ρ)} (h : cW (whileR m s f) K E) :
    ∃ n, m = n + 1 ∧ cW (f s) (fun l => match l with | .go s' => cW (whileR n s' f) K E | .bk s' => K (.go s') | .rt v => K (.rt v)) E := by
  cases m with
  | zero => exact h.elim
  | succ n =>
    refine ⟨n, rfl, cW_call h (fun l z => ?_) fun _ z => z⟩
    cases l with
    | go s' => exact z
    | bk s' => exact z
    | rt v => exact z
theorem cW_mapA {K : List α → Prop} {xs : List β} {acc : List α} {i : Nat} {x : β} {f : β → Rx α} (hx : xs[i]? = some x) (h : cW (mapA (xs.drop i) acc f) K E) :
    acc.length ≤ 1000000 ∧ cW (f x) (fun y => cW (mapA (xs.drop (i + 1)) (acc ++ [y]) f) K E) E := by
  rw [List.drop_eq_getElem?_toList_append, hx] at h
  obtain ⟨z, h⟩ := cW_grd h
  exact ⟨z, cW_call h (fun _ z => z) fun _ z => z⟩
theorem cW_mapA0 {K : List α → Prop} {xs : List β} {acc : List α} {n : Nat} {f : β → Rx α} (hn : n = xs.length) (h : cW (mapA (xs.drop n) acc f) K E) : K acc := by
  subst hn
  rw [List.drop_length] at h
  exact h
theorem cW_mapF {K : List α → Prop} {xs : List β} {acc : List α} {i : Nat} {x : β} {f : β → Rx (Option α)} (hx : xs[i]? = some x) (h : cW (mapF (xs.drop i) acc f) K E) :
    acc.length ≤ 1000000 ∧ cW (f x) (fun y => match y with | some z => cW (mapF (xs.drop (i + 1)) (acc ++ [z]) f) K E | none => cW (mapF (xs.drop (i + 1)) acc f) K E) E := by
  rw [List.drop_eq_getElem?_toList_append, hx] at h
  obtain ⟨z, h⟩ := cW_grd h
  refine ⟨z, cW_call h (fun y z => ?_) fun _ z => z⟩
  cases y with
  | none => exact z
  | some w => exact z
theorem cW_mapF0 {K : List α → Prop} {xs : List β} {acc : List α} {n : Nat} {f : β → Rx (Option α)} (hn : n = xs.length) (h : cW (mapF (xs.drop n) acc f) K E) : K acc := by
  subst hn
  rw [List.drop_length] at h
  exact h
end
/-- the numbers of a range -/
def rng (lo : Int) (n : Nat) : List Int := (List.range n).map fun (j : Nat) => lo + (j : Int)
theorem rng_get {lo : Int} {n i : Nat} (h : i < n) : (rng lo n)[i]? = some (lo + (i : Int)) := by
  unfold rng
  rw [List.getElem?_map, List.getElem?_range h] <;> rfl
theorem rng_len (lo : Int) (n : Nat) : (rng lo n).length = n := by
  unfold rng
  rw [List.length_map, List.length_range]

/-! ### calls that may raise -/
/-- what a call with n values and keywords ks gives the parameters -/
structure Bnd (K : PySem.W.Frag) (fd : FuncData) (ps : List Str) (n : Nat) (ks : List Str) (g : List V → List V → List V) : Prop where
  to : ∀ (s : Shared) (us ws : List Value) (vs zs : List V), K.In s.heap → vs.length = n → zs.length = ks.length → Vals vs us → Vals zs ws → ∃ vv : List Value, BindsTo s fd ⟨us, ks.zip ws⟩ (ps.zip vv) ∧ Vals (g vs zs) vv
theorem Bnd.of_kbn {K : PySem.W.Frag} {fd : FuncData} {ps ks : List Str} {n : Nat} {g : List Value → List Value → List Value} {gV : List V → List V → List V} (b : KBn K fd ps n ks g gV) : Bnd K fd ps n ks gV :=
  ⟨fun s us ws vs zs X l1 l2 r rz => ⟨g us ws, b.to s us ws X (r.length.symm.trans l1) (rz.length.symm.trans l2), b.rel r rz⟩⟩
theorem Bnd.all {K : PySem.W.Frag} {fd : FuncData} {ps ks : List Str} {n : Nat} {g : List V → List V → List V} (h : ∀ (us ws : List Value) (vs zs : List V), vs.length = n → zs.length = ks.length → Vals vs us → Vals zs ws →
    ∃ vv : List Value, bindArgs fd ⟨us, ks.zip ws⟩ = pure (ps.zip vv) ∧ Vals (g vs zs) vv) : Bnd K fd ps n ks g :=
  ⟨fun s us ws vs zs _ l1 l2 r rz => by
    obtain ⟨vv, e, q⟩ := h us ws vs zs l1 l2 r rz
    exact ⟨vv, BindsTo.of_eq e, q⟩⟩
abbrev Pat := Nat × List Str × (List V → List V → List V)
def Bnd1 (K : PySem.W.Frag) (fd : FuncData) (ps : List Str) (p : Pat) : Prop := Bnd K fd ps p.1 p.2.1 p.2.2
section
variable {P : Program} {w : World} {K : PySem.W.Frag} {mg : Str → Option Value} {base : Heap}
/-- a def of the top, with the ways it is called -/
structure DefX (K : PySem.W.Frag) (mg : Str → Option Value) (x : Str) (st : Stmt) (ps : List Str) (pats : List Pat) : Prop where
  ex : ∃ (f : Addr) (fd : FuncData) (dvs : List V) (kws : List (Str × V)), FunD K x x (defArgs st) (defBody st) (defScope st) dvs kws f fd ∧ mg x = some (.ref f) ∧ ∀ p ∈ pats, Bnd1 K fd ps p
structure CalX (P : Program) (w : World) (K : PySem.W.Frag) (mg : Str → Option Value) (base : Heap) (k : Nat) (x : Str) (sp : Sp) (pats : List Pat) : Prop where
  ex : ∃ (f : Addr) (fd : FuncData) (ps : List Str), FnOk P w K mg base (L2.CX P w) k f fd ps sp ∧ mg x = some (.ref f) ∧ PySem.W.keepIn K (.ref f) = true ∧ ∀ p ∈ pats, Bnd1 K fd ps p
abbrev BodyX (P : Program) (w : World) (K : PySem.W.Frag) (mg : Str → Option Value) (base : Heap) (x : Str) (st : Stmt) (N : List Str) (k : Nat) (sp : Sp) : Prop :=
  ∀ (f : Addr) (cdv : Value) (A : Around) (outer : List Env) (s : Shared) (H : Hp) (vs : List V) (Q : VK) (E : XK), Room k (A.deeper (envOfC x (defScope st) s.heap.objs.size f cdv)) → sp vs H Q E →
    ∃ t, PSs (cxOf (L2.CX P w) P w K mg base N x (defScope st) f cdv A outer s H E) (defBody st) t ∧ t { nx := fun _ H' => Q .non H', rt := Q } (start N vs) H
theorem DefX.ok {x : Str} {st : Stmt} {N ps : List Str} {pats : List Pat} {k : Nat} {sp : Sp} (D : DefX K mg x st ps pats) (S : FnScope N ps (defScope st)) (len : ∀ vs H Q E, sp vs H Q E → vs.length = ps.length)
    (hbody : BodyX P w K mg base x st N k sp) : CalX P w K mg base (k + 1) x sp pats := by
  obtain ⟨f, fd, dvs, kws, F, hm, b⟩ := D.ex
  exact ⟨f, fd, ps, F.ok S len (fun cdv A outer s H vs Q E hr h => hbody f cdv A outer s H vs Q E hr h), hm, F.kp, b⟩
end
section
variable {X : Cx} {k j n : Nat} {f : Addr} {fd : FuncData} {ps ks : List Str} {g : List V → List V → List V} {sp : Sp} {x : Str} {pos p : Pos} {e : Expr} {es : List Expr} {kws : List Keyword} {t tk : TA} {W : WX}
theorem run_X {pins : List (Addr × Obj)} {σ : L2.St} {H : Hp} {s : Shared} {Q : VK} {us ws : List Value} {vs zs : List V} (F : FnOk X.prog X.w X.K X.mg X.base (L2.CX X.prog X.w) k f fd ps sp) (hr : Room k X.A) (hb : Bnd X.K fd ps n ks g) (tkW : Takes X W)
    (I : Inv X pins σ H s) (r : Vals vs us) (rz : Vals zs ws) (l1 : vs.length = n) (l2 : zs.length = ks.length) (h : sp (g vs zs) H Q (WE W σ)) :
    wpAny (model X.prog X.w) X.A (call (.ref f) us (ks.zip ws)) (EP X pins σ Q) X.xe s := by
  obtain ⟨vv, b, r2⟩ := hb.to s us ws vs zs I.kIn l1 l2 r rz
  refine wpAny_call (codeAny_mono (F.run X.A X.stack s H ⟨us, ks.zip ws⟩ vv (g vs zs) Q (WE W σ) hr I.env0 b r2 h) fun rr s' hq => ?_)
  cases rr with
  | error er => exact passAt tkW σ pins H s er s' I hq
  | ok fl =>
    cases fl with
    | ret u => exact I.after hq
    | next => exact hq.elim
    | brk => exact hq.elim
    | cont => exact hq.elim
/-- f(e, .., k = v, ..) -/
def tCallX (n m : Nat) (sp : Sp) (g : List V → List V → List V) (W : WX) (t tk : TA) : TE := fun σ H Q => t σ H fun vs H1 => tk σ H1 fun zs H2 => vs.length = n ∧ zs.length = m ∧ sp (g vs zs) H2 Q (WE W σ)
theorem vx_callX {pats : List Pat} (c : CalX X.prog X.w X.K X.mg X.base k x sp pats) (pt : Pat) (hpt : pt ∈ pats) (hr : Room j X.A) (hk : k ≤ j) (tkW : Takes X W) (hg : Gl X x) (ha : PA X (e :: es) t) (hkw : PK X kws tk)
    (hall : (backToKw pos (keywordEach kws X.env)).all (·.1.isSome) = true := by rfl) (hks : (backToKw pos (keywordEach kws X.env)).filterMap (·.1) = pt.2.1 := by rfl)
    (hdb : (x == ("__debug__" : Str)) = false := by decide) (he : starEach (e :: es) X.env = (false, eval e X.env) :: starEach es X.env := by rfl)
    (hpl : ((backTo pos (starEach (e :: es) X.env)).any (·.1) || (backToKw pos (keywordEach kws X.env)).any (·.1.isNone)) = false := by rfl) :
    PE X (.Call (.Name x p) (e :: es) kws pos) (tCallX pt.1 pt.2.1.length sp pt.2.2 W t tk) := by
  obtain ⟨f, fd, ps, F, hm, kp, b⟩ := c.ex
  refine ⟨fun pins s σ H Q I h => ?_⟩
  refine wpAny_Call_Name_kw (ld_glob I hg hm ?_ hdb)
  refine PySem.W.callWith_KW (h₀ := X.base) I.ok.mod.kin kp hall (thn (ha.run pos pins s σ H _ I h) fun us s1 ⟨vs, H1, I1, r, q⟩ => ?_) hpl he
  refine thn (hkw.run pos pins s1 σ H1 _ I1 q) fun ws s2 ⟨zs, H2, I2, rz, l1, l2, q2⟩ => ⟨I2.kIn, ?_⟩
  rw [hks]
  exact run_X F (hr.mono hk) (b pt hpt) tkW I2 r rz l1 l2 q2
theorem vx_callX0 {pats : List Pat} (c : CalX X.prog X.w X.K X.mg X.base k x sp pats) (pt : Pat) (hpt : pt ∈ pats) (hr : Room j X.A) (hk : k ≤ j) (tkW : Takes X W) (hg : Gl X x) (hks : pt.2.1 = [] := by rfl)
    (hdb : (x == ("__debug__" : Str)) = false := by decide) : PE X (.Call (.Name x p) [] [] pos) (tCallX pt.1 pt.2.1.length sp pt.2.2 W tNil tNil) := by
  obtain ⟨f, fd, ps, F, hm, kp, b⟩ := c.ex
  refine ⟨fun pins s σ H Q I h => ?_⟩
  refine wpAny_Call_Name_kw (ld_glob I hg hm ?_ hdb)
  obtain ⟨l1, l2, q2⟩ := h
  have hz := run_X (us := []) (ws := []) F (hr.mono hk) (b pt hpt) tkW I .nil .nil l1 l2 q2
  rw [hks] at hz
  exact PySem.W.callWith_K0 I.kIn kp hz
end
/-! ### borrowed things -/
theorem Sep.bM {M : List Addr} {H0 G0 G H : Hp} {O : List (Addr)} (S : Sep M H0 G0 G H O) : Same (hideL M H0) H := fun b o e => by
  by_cases h : b ∈ M
  · rw [hideL_in h] at e
    cases e
  · rw [hideL_out h] at e
    exact S.base b o e h
theorem b_ne {M : List Addr} {H0 G0 G H : Hp} {O : List Addr} {a b : Addr} {o : HO} (h : (hideL M H0) a = some o) (S : Sep M H0 G0 G H O) (hb : b ∈ O) : a ≠ b := fun z => by
  subst z
  rcases (S.ow a hb).2.2 with q | q
  · rw [hideL_in q] at h
    cases h
  · by_cases hM : a ∈ M
    · rw [hideL_in hM] at h
      cases h
    · rw [hideL_out hM, q] at h
      cases h
theorem hide0 {H : Hp} : hideL [] H = H := by
  funext b
  unfold hideL
  rw [if_neg List.not_mem_nil]
theorem hide_nil {H : Hp} {a : Addr} {o : HO} (h : H a = some o) : (hideL [] H) a = some o := by
  rw [hide0]
  exact h
theorem Rp.hide_nil {H : Hp} {v : V} {d : PyData} (h : Rp H v d) : Rp (hideL [] H) v d := by
  rw [hide0]
  exact h
theorem Sep.startM {M : List Addr} {G H : Hp} (e : Same G H) (hM : ∀ a ∈ M, H a ≠ none) (hG : ∀ a ∈ M, G a = none) : Sep M H G G H M :=
  ⟨fun _ _ e _ => e, hM, e, Same.refl _, fun _ _ e => e, fun a ha => ⟨hG a ha, hM a ha, .inl ha⟩⟩
theorem Sep.gno {M : List Addr} {H0 G0 G H : Hp} {O L : List Addr} (S : Sep M H0 G0 G H O) (h : ∀ a ∈ L, a ∈ O) : ∀ a ∈ L, G a = none := fun a ha => (S.ow a (h a ha)).1
theorem RpAll.ixD {α : Type} [Inhabited α] {f : α → PyData} {H : Hp} {vs : List V} {xs : List α} {k : Int} (r : RpAll H vs (xs.map f)) (h : -(xs.length : Int) ≤ k ∧ k < xs.length) : ∃ v, atI vs k = some v ∧ Rp H v (f (itD xs k)) := by
  obtain ⟨v, x, h1, h2, h3⟩ := RpAll.ix r h
  refine ⟨v, h1, ?_⟩
  unfold itD
  rw [h2]
  exact h3
theorem tru_all {α : Type} [DecidableEq α] {f : α → PyData} {H : Hp} {vs : List V} {xs : List α} (r : RpAll H vs (xs.map f)) : (!decide (xs = [])) = !vs.isEmpty := by
  have h := r.len
  rw [List.length_map] at h
  cases xs <;> cases vs <;> simp_all
theorem ix_nn {α : Type} {xs : List α} {k : Int} (h0 : 0 ≤ k) (h1 : k < xs.length) : -(xs.length : Int) ≤ k ∧ k < xs.length := ⟨by omega, h1⟩
theorem all_nilQ {α : Type} {P : α → Prop} : ∀ x ∈ ([] : List α), P x := fun x h => by cases h
theorem all_consQ {α : Type} {P : α → Prop} {a : α} {l : List α} (h : P a) (t : ∀ x ∈ l, P x) : ∀ x ∈ a :: l, P x := fun x hx => by
  rcases List.mem_cons.mp hx with rfl | hx
  · exact h
  · exact t x hx
theorem mem_one {a b : Nat} (h : a ∈ [b]) : a = b := by simpa using h
theorem mem_cons2 {a b : Nat} {l : List Nat} (h : a ∈ b :: l) : a = b ∨ a ∈ l := List.mem_cons.mp h
theorem len0 {α : Type} {l : List α} (h : l.length = 0) : l = [] := List.length_eq_zero_iff.mp h
theorem len1 {α : Type} {l : List α} (h : l.length = 1) : ∃ a, l = [a] := List.length_eq_one_iff.mp h
theorem len_s {α : Type} {l : List α} {n : Nat} (h : l.length = n + 1) : ∃ a r, l = a :: r ∧ r.length = n := by
  cases l with
  | nil => cases h
  | cons a r => exact ⟨a, r, rfl, Nat.succ.inj h⟩
theorem len2 {α : Type} {l : List α} (h : l.length = 2) : ∃ a b, l = [a, b] := by
  obtain ⟨a, r, rfl, h2⟩ := len_s h
  obtain ⟨b, rfl⟩ := len1 h2
  exact ⟨a, b, rfl⟩
theorem len3 {α : Type} {l : List α} (h : l.length = 3) : ∃ a b c, l = [a, b, c] := by
  obtain ⟨a, r, rfl, h2⟩ := len_s h
  obtain ⟨b, c, rfl⟩ := len2 h2
  exact ⟨a, b, c, rfl⟩
theorem len4 {α : Type} {l : List α} (h : l.length = 4) : ∃ a b c d, l = [a, b, c, d] := by
  obtain ⟨a, r, rfl, h2⟩ := len_s h
  obtain ⟨b, c, d, rfl⟩ := len3 h2
  exact ⟨a, b, c, d, rfl⟩
theorem len5 {α : Type} {l : List α} (h : l.length = 5) : ∃ a b c d e, l = [a, b, c, d, e] := by
  obtain ⟨a, r, rfl, h2⟩ := len_s h
  obtain ⟨b, c, d, e, rfl⟩ := len4 h2
  exact ⟨a, b, c, d, e, rfl⟩
theorem len6 {α : Type} {l : List α} (h : l.length = 6) : ∃ a b c d e f, l = [a, b, c, d, e, f] := by
  obtain ⟨a, r, rfl, h2⟩ := len_s h
  obtain ⟨b, c, d, e, f, rfl⟩ := len5 h2
  exact ⟨a, b, c, d, e, f, rfl⟩
theorem len7 {α : Type} {l : List α} (h : l.length = 7) : ∃ a b c d e f g, l = [a, b, c, d, e, f, g] := by
  obtain ⟨a, r, rfl, h2⟩ := len_s h
  obtain ⟨b, c, d, e, f, g, rfl⟩ := len6 h2
  exact ⟨a, b, c, d, e, f, g, rfl⟩
def rLenTK (K : PySem.W.Frag) : List V → Hp → VK → Prop := fun xs H Q => ∃ (p : Addr) (vs : List V) (n : Nat), xs = [.ref p] ∧ SqT K H p vs ∧ vs.length = n ∧ Q (.int (n : Int)) H
theorem call_lenTK {X : Cx} {K : PySem.W.Frag} (hK : X.K = K := by rfl) : CallR X (.builtin "len") (rLenTK K) := by
  subst hK
  intro pins s σ H xs us Q I r h
  obtain ⟨p, vs, n, rfl, hs, hn, q⟩ := h
  exact call_len_seq pins s σ H _ us Q I r ⟨p, _, rfl, Or.inr hs, by rw [hn]; exact q⟩
theorem exm_mk {K : PySem.W.Frag} {S C : Addr} (h1 : PySem.W.subIn K (.ref C) (.type "BaseException") = some true) (h2 : PySem.W.isClsIn K C = true) (h3 : PySem.W.typeIn K (.ref C) = some (.type "type")) (h4 : PySem.W.subIn K (.ref S) (.ref C) = some true) :
    PySem.W.exmOne K (.ref S) (.ref C) = some true := by
  unfold PySem.W.isClsIn at h2
  unfold PySem.W.exmOne
  unfold PySem.W.kitCls
  simp only [h1, h2, h3, h4, beq_self_eq_true, Bool.and_self, if_true]
theorem kit_mk {K : PySem.W.Frag} {S C : Addr} (h2 : PySem.W.isClsIn K C = true) (h3 : PySem.W.typeIn K (.ref C) = some (.type "type")) (h4 : PySem.W.subIn K (.ref S) (.ref C) = some true) :
    PySem.W.kitOne K (.ref S) (.ref C) = some true := by
  unfold PySem.W.isClsIn at h2
  unfold PySem.W.kitOne
  split
  · rfl
  · unfold PySem.W.kitCls
    simp only [h2, h3, h4, beq_self_eq_true, Bool.and_self, if_true]
/-- isinstance(e, C) of the exception in hand -/
def rIsX (K : PySem.W.Frag) (a : Addr) (cls : Value) (d : Option Addr) : List V → Hp → VK → Prop := fun xs H Q => ∃ (D C : Addr) (b : Bool), cls = .ref D ∧ d = none ∧ ExcC K D ∧ xs = [.ref a, .ref C] ∧ PySem.W.kitOne K (.ref D) (.ref C) = some b ∧ Q (.bl b) H
theorem call_isX {X : Cx} {K : PySem.W.Frag} {a : Addr} {cls : Value} {d : Option Addr} {oe : Obj} {pn : List (Addr × Obj)} (hz : Zc cls d oe) (hf : ∃ vs, oe.data = .fields vs) (hK : X.K = K := by rfl) : CallR (X.suite a ((a, oe) :: pn)) (.builtin "isinstance") (rIsX K a cls d) := by
  subst hK
  intro pins s σ H xs us Q I r h
  obtain ⟨D, C, b, rfl, rfl, c, rfl, e, q⟩ := h
  exact call_isE c hz hf pins s σ H _ us Q I r ⟨_, _, b, rfl, fun u z => z, e, q⟩
/-! ### unpacking a list -/
section
variable {X : Cx} {K : PySem.W.Frag} {pos : Pos}
theorem pg_seqK {es : List Expr} {k : Nat} {t : TGs} {n : Nat} (h : PGs X es t) (hc : X.calm = true := by rfl) (hK : X.K = K := by rfl)
    (hn : (assignEach es X.env).length = n := by rfl) (hst : (assignEach es X.env).findIdx? (·.1) = none := by rfl) : PG X (.Tuple es k pos) (gLst K n t) := hK ▸ pg_lst hc h hn hst
end
theorem SqL.cast {K : PySem.W.Frag} {H : Hp} {a : Addr} {xs ys : List V} (h : SqL K H a xs) (e : xs = ys) : SqL K H a ys := e ▸ h
section
variable {α : Type} [Inhabited α] {f : α → V}
theorem unp2 {xs : List α} (h : xs.length = 2) : xs.map f = [f (itD xs 0), f (itD xs 1)] := by
  obtain ⟨a, b, rfl⟩ := len2 h
  rfl
theorem unp3 {xs : List α} (h : xs.length = 3) : xs.map f = [f (itD xs 0), f (itD xs 1), f (itD xs 2)] := by
  obtain ⟨a, b, c, rfl⟩ := len3 h
  rfl
theorem unp4 {xs : List α} (h : xs.length = 4) : xs.map f = [f (itD xs 0), f (itD xs 1), f (itD xs 2), f (itD xs 3)] := by
  obtain ⟨a, b, c, d, rfl⟩ := len4 h
  rfl
theorem unp6 {xs : List α} (h : xs.length = 6) : xs.map f = [f (itD xs 0), f (itD xs 1), f (itD xs 2), f (itD xs 3), f (itD xs 4), f (itD xs 5)] := by
  obtain ⟨a, b, c, d, e, g, rfl⟩ := len6 h
  rfl
theorem unp8 {xs : List α} (h : xs.length = 8) : xs.map f = [f (itD xs 0), f (itD xs 1), f (itD xs 2), f (itD xs 3), f (itD xs 4), f (itD xs 5), f (itD xs 6), f (itD xs 7)] := by
  obtain ⟨a, r, rfl, h2⟩ := len_s h
  obtain ⟨b, c, d, e, g, i, j, rfl⟩ := len7 h2
  rfl
end
/-! ### classes -/
section
variable {P : Program} {w : World} {K : PySem.W.Frag} {mg : Str → Option Value} {base : Heap}
structure MethX (K : PySem.W.Frag) (C : Addr) (q m : Str) (st : Stmt) (ps : List Str) (pats : List Pat) : Prop where
  ex : ∃ (f : Addr) (fd : FuncData) (dvs : List V) (kws : List (Str × V)), FunD K m q (defArgs st) (defBody st) (defScope st) dvs kws f fd ∧ Meth K C m f ∧ ∀ p ∈ pats, Bnd1 K fd ps p
structure InitX (K : PySem.W.Frag) (mg : Str → Option Value) (C : Addr) (cn q : Str) (st : Stmt) (ps : List Str) (pats : List Pat) : Prop where
  ex : ∃ (f : Addr) (fd : FuncData) (dvs : List V) (kws : List (Str × V)), FunD K "__init__" q (defArgs st) (defBody st) (defScope st) dvs kws f fd ∧ Mk K C f ∧ mg cn = some (.ref C) ∧ ∀ p ∈ pats, Bnd1 K fd ps p
structure PropX (K : PySem.W.Frag) (C : Addr) (q m : Str) (st : Stmt) (ps : List Str) (pats : List Pat) : Prop where
  ex : ∃ (r f : Addr) (fd : FuncData) (dvs : List V) (kws : List (Str × V)), FunD K m q (defArgs st) (defBody st) (defScope st) dvs kws f fd ∧ PropOf K C m r f ∧ Binds K fd ps []
structure MetX (P : Program) (w : World) (K : PySem.W.Frag) (mg : Str → Option Value) (base : Heap) (k : Nat) (C : Addr) (m : Str) (sp : Sp) (pats : List Pat) : Prop where
  ex : ∃ (f : Addr) (fd : FuncData) (ps : List Str), Cls K C ∧ Meth K C m f ∧ FnOk P w K mg base (L2.CX P w) k f fd ps sp ∧ ∀ p ∈ pats, Bnd1 K fd ps p
structure PropY (P : Program) (w : World) (K : PySem.W.Frag) (mg : Str → Option Value) (base : Heap) (k : Nat) (C : Addr) (m : Str) (sp : Sp) (pats : List Pat) : Prop where
  ex : ∃ (q f : Addr) (fd : FuncData) (ps : List Str), Cls K C ∧ PropOf K C m q f ∧ FnOk P w K mg base (L2.CX P w) k f fd ps sp ∧ Binds K fd ps []
structure MakX (P : Program) (w : World) (K : PySem.W.Frag) (mg : Str → Option Value) (base : Heap) (k : Nat) (cn : Str) (C : Addr) (sp : Sp) (pats : List Pat) : Prop where
  ex : ∃ (f : Addr) (fd : FuncData) (ps : List Str), Mk K C f ∧ FnOk P w K mg base (L2.CX P w) k f fd ps sp ∧ mg cn = some (.ref C) ∧ ∀ p ∈ pats, Bnd1 K fd ps p
theorem MethX.ok {C : Addr} {q m : Str} {st : Stmt} {N ps : List Str} {pats : List Pat} {k : Nat} {sp : Sp} (D : MethX K C q m st ps pats) (c : Cls K C) (S : FnScope N ps (defScope st)) (len : ∀ vs H Q E, sp vs H Q E → vs.length = ps.length)
    (hbody : BodyX P w K mg base q st N k sp) : MetX P w K mg base (k + 1) C m sp pats := by
  obtain ⟨f, fd, dvs, kws, F, me, b⟩ := D.ex
  exact ⟨f, fd, ps, c, me, F.ok S len (fun cdv A outer s H vs Q E hr h => hbody f cdv A outer s H vs Q E hr h), b⟩
theorem PropX.ok {C : Addr} {q m : Str} {st : Stmt} {N ps : List Str} {pats : List Pat} {k : Nat} {sp : Sp} (D : PropX K C q m st ps pats) (c : Cls K C) (S : FnScope N ps (defScope st)) (len : ∀ vs H Q E, sp vs H Q E → vs.length = ps.length)
    (hbody : BodyX P w K mg base q st N k sp) : PropY P w K mg base (k + 1) C m sp pats := by
  obtain ⟨r, f, fd, dvs, kws, F, me, b⟩ := D.ex
  exact ⟨r, f, fd, ps, c, me, F.ok S len (fun cdv A outer s H vs Q E hr h => hbody f cdv A outer s H vs Q E hr h), b⟩
theorem InitX.ok {C : Addr} {cn q : Str} {st : Stmt} {N ps : List Str} {pats : List Pat} {k : Nat} {sp : Sp} (D : InitX K mg C cn q st ps pats) (S : FnScope N ps (defScope st)) (len : ∀ vs H Q E, sp vs H Q E → vs.length = ps.length)
    (hbody : BodyX P w K mg base q st N k sp) : MakX P w K mg base (k + 1) cn C sp pats := by
  obtain ⟨f, fd, dvs, kws, F, me, hm, b⟩ := D.ex
  exact ⟨f, fd, ps, me, F.ok S len (fun cdv A outer s H vs Q E hr h => hbody f cdv A outer s H vs Q E hr h), hm, b⟩
end
theorem cW_callN {α β : Type} {m : Rx β} {f : β → Rx α} {K : α → Prop} {E : Nat → Prop} {K2 : β → Prop} {E2 : Nat → Prop} (h : cW ((noEr m).bind f) K E) (ho : ∀ v, cW (f v) K E → K2 v) (_ : True) : cW m K2 E2 := by
  cases m with
  | ok a => exact ho a h
  | er e => exact h.elim
  | bad => exact h.elim
section
variable {X : Cx} {k j n : Nat} {f C : Addr} {fd : FuncData} {ps ks : List Str} {g : List V → List V → List V} {sp : Sp} {x m : Str} {pos p apos : Pos} {e o : Expr} {es : List Expr} {kws : List Keyword} {ta : TE} {t tk : TA} {W : WX}
theorem run_mkX {pins : List (Addr × Obj)} {σ : L2.St} {H : Hp} {s : Shared} {Q : VK} {us ws : List Value} {vs zs : List V} (M : Mk X.K C f) (F : FnOk X.prog X.w X.K X.mg X.base (L2.CX X.prog X.w) k f fd ps sp) (hr : Room (k + 1) X.A) (hb : Bnd X.K fd ps n ks g) (tkW : Takes X W)
    (I : Inv X pins σ H s) (r : Vals vs us) (rz : Vals zs ws) (l1 : vs.length + 1 = n) (l2 : zs.length = ks.length)
    (h : ∀ x dx, H x = none → H dx = none → dx ≠ x → sp (g (.ref x :: vs) zs) (upd (upd H dx (.own x)) x (.ins C dx [])) (fun v H2 => v = .non ∧ Q (.ref x) H2) (WE W σ)) :
    wpAny (model X.prog X.w) X.A (call (.ref C) us (ks.zip ws)) (EP X pins σ Q) X.xe s := by
  have hq := h (s.heap.objs.size + 1) s.heap.objs.size (I.hok.fresh (Nat.le_succ _)) (I.hok.fresh (Nat.le_refl _)) (Nat.ne_of_lt (Nat.lt_succ_self _))
  have I2 := Inv.made (C := C) I
  have r1 : Vals (V.ref (s.heap.objs.size + 1) :: vs) (Value.ref (s.heap.objs.size + 1) :: us) := .cons rfl r
  obtain ⟨vv, b, r2⟩ := hb.to _ (Value.ref (s.heap.objs.size + 1) :: us) ws (V.ref (s.heap.objs.size + 1) :: vs) zs I2.kIn (by rw [List.length_cons, l1]) l2 r1 rz
  refine wpAny_call (make_map (f := f) I.kIn M.makes M.init (beq_iff_eq.mp M.fn) (codeAny_mono (F.run _ X.stack _ _ ⟨Value.ref (s.heap.objs.size + 1) :: us, ks.zip ws⟩ vv _ _ (WE W σ) (hr.make C us (ks.zip ws))
    (I2.env0.make C us (ks.zip ws)) b r2 hq) fun r s' hq' => ?_))
  cases r with
  | error e => exact passAt tkW σ pins _ _ e s' I2 hq'
  | ok fl =>
    cases fl with
    | ret u =>
      obtain ⟨v, H', I3, rv, ev, q3⟩ := I2.after hq'
      subst ev
      exact ⟨rv, ⟨V.ref (s.heap.objs.size + 1), H', I3, rfl, q3⟩⟩
    | next => exact False.elim hq'
    | brk => exact False.elim hq'
    | cont => exact False.elim hq'
/-- C(e, .., k = v, ..) -/
def tMakeX (C : Addr) (n m : Nat) (sp : Sp) (g : List V → List V → List V) (W : WX) (t tk : TA) : TE := fun σ H Q => t σ H fun vs H1 => tk σ H1 fun zs H2 => vs.length + 1 = n ∧ zs.length = m ∧ ∀ x dx, H2 x = none → H2 dx = none → dx ≠ x →
  sp (g (.ref x :: vs) zs) (upd (upd H2 dx (.own x)) x (.ins C dx [])) (fun v H3 => v = .non ∧ Q (.ref x) H3) (WE W σ)
theorem vx_makeX {pats : List Pat} (c : MakX X.prog X.w X.K X.mg X.base k x C sp pats) (pt : Pat) (hpt : pt ∈ pats) (hr : Room j X.A) (hk : k + 1 ≤ j) (tkW : Takes X W) (hg : Gl X x) (ha : PA X (e :: es) t) (hkw : PK X kws tk)
    (hall : (backToKw pos (keywordEach kws X.env)).all (·.1.isSome) = true := by rfl) (hks : (backToKw pos (keywordEach kws X.env)).filterMap (·.1) = pt.2.1 := by rfl) (hdb : (x == ("__debug__" : Str)) = false := by decide)
    (he : starEach (e :: es) X.env = (false, eval e X.env) :: starEach es X.env := by rfl) (hpl : ((backTo pos (starEach (e :: es) X.env)).any (·.1) || (backToKw pos (keywordEach kws X.env)).any (·.1.isNone)) = false := by rfl) :
    PE X (.Call (.Name x p) (e :: es) kws pos) (tMakeX C pt.1 pt.2.1.length sp pt.2.2 W t tk) := by
  obtain ⟨f, fd, ps, M, F, hm, b⟩ := c.ex
  refine ⟨fun pins s σ H Q I h => ?_⟩
  refine wpAny_Call_Name_kw (ld_glob I hg hm ?_ hdb)
  refine PySem.W.callWith_KW (h₀ := X.base) I.ok.mod.kin M.kp hall (thn (ha.run pos pins s σ H _ I h) fun us s1 ⟨vs, H1, I1, r, q⟩ => ?_) hpl he
  refine thn (hkw.run pos pins s1 σ H1 _ I1 q) fun ws s2 ⟨zs, H2, I2, rz, l1, l2, q2⟩ => ⟨I2.kIn, ?_⟩
  rw [hks]
  exact run_mkX M F (hr.mono hk) (b pt hpt) tkW I2 r rz l1 l2 q2
theorem vx_makeX0 {pats : List Pat} (c : MakX X.prog X.w X.K X.mg X.base k x C sp pats) (pt : Pat) (hpt : pt ∈ pats) (hr : Room j X.A) (hk : k + 1 ≤ j) (tkW : Takes X W) (hg : Gl X x) (hks : pt.2.1 = [] := by rfl)
    (hdb : (x == ("__debug__" : Str)) = false := by decide) : PE X (.Call (.Name x p) [] [] pos) (tMakeX C pt.1 pt.2.1.length sp pt.2.2 W tNil tNil) := by
  obtain ⟨f, fd, ps, M, F, hm, b⟩ := c.ex
  refine ⟨fun pins s σ H Q I h => ?_⟩
  refine wpAny_Call_Name_kw (ld_glob I hg hm ?_ hdb)
  obtain ⟨l1, l2, q2⟩ := h
  have hz := run_mkX (us := []) (ws := []) M F (hr.mono hk) (b pt hpt) tkW I .nil .nil l1 l2 q2
  rw [hks] at hz
  exact PySem.W.callWith_K0 I.kIn M.kp hz
/-- o.m(e, .., k = v, ..) -/
def tMethX (C : Addr) (m : Str) (n mm : Nat) (sp : Sp) (g : List V → List V → List V) (W : WX) (ta : TE) (t tk : TA) : TE := fun σ H Q => ta σ H fun x H1 => ∃ a dx fs, x = .ref a ∧ H1 a = some (.ins C dx fs) ∧ fs.lookup m = none ∧
  t σ H1 fun vs H2 => tk σ H2 fun zs H3 => (x :: vs).length = n ∧ zs.length = mm ∧ sp (g (x :: vs) zs) H3 Q (WE W σ)
theorem vx_methX {pats : List Pat} {pl : Sem Bool} (c : MetX X.prog X.w X.K X.mg X.base k C m sp pats) (pt : Pat) (hpt : pt ∈ pats) (hr : Room j X.A) (hk : k ≤ j) (tkW : Takes X W) (he : PE X o ta) (ha : PA X (e :: es) t) (hkw : PK X kws tk)
    (hall : (backToKw pos (keywordEach kws X.env)).all (·.1.isSome) = true := by rfl) (hks : (backToKw pos (keywordEach kws X.env)).filterMap (·.1) = pt.2.1 := by rfl)
    (hst : starEach (e :: es) X.env = (false, eval e X.env) :: starEach es X.env := by rfl) (hpl : ((backTo pos (starEach (e :: es) X.env)).any (·.1) || (backToKw pos (keywordEach kws X.env)).any (·.1.isNone)) = false := by rfl)
    (ht : eval (.Call (.Attribute o m apos) (e :: es) kws pos) X.env = (do
      let ov ← eval o X.env
      standAt apos.atName
      let (f, first) ← holding [ov] (getMethod ov m pl)
      callWith pos f first (backTo pos (starEach (e :: es) X.env)) (backToKw pos (keywordEach kws X.env))) := by rfl) :
    PE X (.Call (.Attribute o m apos) (e :: es) kws pos) (tMethX C m pt.1 pt.2.1.length sp pt.2.2 W ta t tk) := by
  obtain ⟨f, fd, ps, hc, hm, F, b⟩ := c.ex
  refine ⟨fun pins s σ H Q I h => ?_⟩
  refine PySem.W.methodCall_KW (pl := pl) (thn (he.run pins s σ H _ I h) fun u s1 ⟨x, H1, I1, rx, a, dx, fs, ex, ea, l, q⟩ => ?_) ht
  subst ex
  obtain rfl : u = Value.ref a := rx
  refine getmeth_ok I1 ea hc hm l ?_
  refine PySem.W.callWith_KW (first := [.ref a]) (h₀ := X.base) I.ok.mod.kin hm.kp hall (thn (ha.run pos pins s1 σ H1 _ I1 q) fun us s2 ⟨vs, H2, I2, r, q2⟩ => ?_) hpl hst
  refine thn (hkw.run pos pins s2 σ H2 _ I2 q2) fun ws s3 ⟨zs, H3, I3, rz, l1, l2, q3⟩ => ⟨I3.kIn, ?_⟩
  rw [hks]
  exact run_X (us := .ref a :: us) (vs := .ref a :: vs) F (hr.mono hk) (b pt hpt) tkW I3 (.cons rfl r) rz l1 l2 q3
theorem vx_methX0 {pats : List Pat} {pl : Sem Bool} (c : MetX X.prog X.w X.K X.mg X.base k C m sp pats) (pt : Pat) (hpt : pt ∈ pats) (hr : Room j X.A) (hk : k ≤ j) (tkW : Takes X W) (he : PE X o ta) (hks : pt.2.1 = [] := by rfl)
    (ht : eval (.Call (.Attribute o m apos) [] [] pos) X.env = (do
      let ov ← eval o X.env
      standAt apos.atName
      let (f, first) ← holding [ov] (getMethod ov m pl)
      callWith pos f first (backTo pos (starEach [] X.env)) (backToKw pos (keywordEach [] X.env))) := by rfl) :
    PE X (.Call (.Attribute o m apos) [] [] pos) (tMethX C m pt.1 pt.2.1.length sp pt.2.2 W ta tNil tNil) := by
  obtain ⟨f, fd, ps, hc, hm, F, b⟩ := c.ex
  refine ⟨fun pins s σ H Q I h => ?_⟩
  refine PySem.W.methodCall_KW (pl := pl) (thn (he.run pins s σ H _ I h) fun u s1 ⟨x, H1, I1, rx, a, dx, fs, ex, ea, l, q⟩ => ?_) ht
  subst ex
  obtain rfl : u = Value.ref a := rx
  refine getmeth_ok I1 ea hc hm l ?_
  obtain ⟨l1, l2, q3⟩ := q
  have hz := run_X (us := [.ref a]) (vs := [.ref a]) (ws := []) F (hr.mono hk) (b pt hpt) tkW I1 (.cons rfl .nil) .nil l1 l2 q3
  rw [hks] at hz
  exact PySem.W.callWith_K0 (first := [.ref a]) I1.kIn hm.kp hz
theorem vx_propX {pats : List Pat} (c : PropY X.prog X.w X.K X.mg X.base k C m sp pats) (hr : Room j X.A) (hk : k + 1 ≤ j) (he : PE X o ta) (hab : attributeBase o m X.env (eval o X.env) = eval o X.env := by rfl) : PE X (.Attribute o m pos) (tProp C sp [] E0 ta) := by
  obtain ⟨q, f, fd, ps, hc, hp, F, b⟩ := c.ex
  exact pe_prop he hc hp F (hr.mono hk) b .nil (passL (X := X.nox)) hab
end
theorem Sep.news {M : List Addr} {H0 G0 G H H' : Hp} {O : List Addr} (S : Sep M H0 G0 G H O) (e : Same H H') (L : List Addr) (hL : ∀ a ∈ L, H a = none ∧ H' a ≠ none ∧ H0 a = none) : Sep M H0 G0 G H' (L ++ O) := by
  have S2 := S.same e
  refine ⟨S2.base, S2.pm, S2.sG, S2.g0, S2.gn, fun a ha => ?_⟩
  rcases List.mem_append.mp ha with h | h
  · obtain ⟨h1, h2, h3⟩ := hL a h
    exact ⟨S.gfree h1, h2, .inr h3⟩
  · exact S2.ow a h
theorem vv_chain {r r' : R2} {ta tb tc : TE} {σ : L2.St} {H : Hp} {x y z : V} {a b : Bool} (ha : Val ta σ H x) (hb : Val tb σ H y) (hc : Val tc σ H z) (h1 : ∀ Q : VK, Q (.bl a) H → r x y H Q) (h2 : ∀ Q : VK, Q (.bl b) H → r' y z H Q) :
    Val (tChain r r' ta tb tc) σ H (.bl (a && b)) := fun Q q => ha _ (hb _ (h1 _ ⟨a, rfl, by
  cases a with
  | true =>
    rw [if_pos rfl]
    exact hc _ (h2 _ q)
  | false =>
    rw [if_neg Bool.false_ne_true]
    exact q⟩))
/-! ### constants that are tuples, lists backwards, zip -/
theorem inV_ints (x : Int) : ∀ xs : List Int, inV (V.int x) (xs.map V.int) = decide (x ∈ xs)
  | [] => by simp [inV]
  | y :: r => by
    have h := inV_ints x r
    unfold inV at h ⊢
    rw [List.map_cons, List.any_cons, h]
    by_cases c : x = y
    · subst c
      simp [eqV]
    · simp [eqV, c, Ne.symm c]
theorem flat_ints : ∀ xs : List Int, (xs.map V.int).all flatV = true
  | [] => rfl
  | _ :: r => flat_ints r
def rInI (K : PySem.W.Frag) : R2 := fun x y H Q => ∃ (i : Int) (p : Addr) (xs : List Int), x = .int i ∧ y = .ref p ∧ (SqL K H p (xs.map V.int) ∨ SqT K H p (xs.map V.int)) ∧ Q (.bl (decide (i ∈ xs))) H
def rNotInI (K : PySem.W.Frag) : R2 := fun x y H Q => ∃ (i : Int) (p : Addr) (xs : List Int), x = .int i ∧ y = .ref p ∧ (SqL K H p (xs.map V.int) ∨ SqT K H p (xs.map V.int)) ∧ Q (.bl (!decide (i ∈ xs))) H
theorem op_inI {X : Cx} {K : PySem.W.Frag} (hK : X.K = K := by rfl) : OpR X (compareOp .In) (rInI K) := by
  subst hK
  intro pins s σ H x y v u Q I rx ry h
  obtain ⟨i, p, xs, rfl, rfl, hs, q⟩ := h
  refine op_in_seq pins s σ H _ _ v u Q I rx ry ⟨p, _, rfl, hs, rfl, flat_ints xs, ?_⟩
  rw [if_neg Bool.false_ne_true, inV_ints]
  exact q
theorem op_notInI {X : Cx} {K : PySem.W.Frag} (hK : X.K = K := by rfl) : OpR X (compareOp .NotIn) (rNotInI K) := by
  subst hK
  intro pins s σ H x y v u Q I rx ry h
  obtain ⟨i, p, xs, rfl, rfl, hs, q⟩ := h
  refine op_notIn_seq pins s σ H _ _ v u Q I rx ry ⟨p, _, rfl, hs, rfl, flat_ints xs, ?_⟩
  rw [if_pos rfl, inV_ints]
  exact q
theorem pe_revLK {X : Cx} {K : PySem.W.Frag} {e : Expr} {te : TE} {k : Nat} {p1 p2 p3 pos : Pos} (he : PE X e te) (hK : X.K = K := by rfl) : PE X (.Subscript e (.Slice none none (some (.UnaryOp .USub (.Constant (.int 1) k p1) p2)) p3) pos) (tRevL K te) := hK ▸ pe_revL he
theorem rev_map {α : Type} {f : α → V} {xs : List α} {H : Hp} {p : Addr} (h : H p = some (.lst (xs.map f).reverse)) : H p = some (.lst (xs.reverse.map f)) := by
  rw [List.map_reverse]
  exact h
theorem RpAll.rev {G : Hp} : ∀ {vs : List V} {ds : List PyData}, RpAll G vs ds → RpAll G vs.reverse ds.reverse
  | _, _, .nil => .nil
  | _, _, .cons h t => by
    rw [List.reverse_cons, List.reverse_cons]
    exact (RpAll.rev t).append (.one h)
theorem rev_all {α : Type} {f : α → PyData} {xs : List α} {G : Hp} {vs : List V} (a : RpAll G vs (xs.map f)) : RpAll G vs.reverse (xs.reverse.map f) := by
  rw [List.map_reverse]
  exact a.rev
theorem pi_zipK {X : Cx} {K : PySem.W.Frag} {e e2 : Expr} {ta : TA} {p pos tpos : Pos} {elts : List Expr} {kk : Nat} (hg : Gl X "zip") (hm : X.mg "zip" = none) (ha : PA X [e, e2] ta) (hK : X.K = K := by rfl)
    (hs : starEach [e, e2] X.env = (false, eval e X.env) :: starEach [e2] X.env := by rfl) (hpl : (backTo pos (starEach [e2] X.env)).any (·.1) = false := by rfl) :
    PI X (.Tuple elts kk tpos) (.Call (.Name "zip" p) [e, e2] [] pos) (RZ.iZipA K ta) := hK ▸ RZ.pi_zipA hg hm ha hs hpl
/-- a comprehension over zip of two lists of one length -/
theorem lc_zipL {K : PySem.W.Frag} {a b : Addr} {xs ys : List V} {g : TG} {tt : TT} {te : TE} {vs : List Nat} {σ : L2.St} {H1 : Hp} {D : Addr} {Qd : Hp → Prop} (hl : xs.length = ys.length) (Pv : Nat → Hp → Prop) (h0 : Pv 0 (upd H1 D (.lst []))) (hq : ∀ i H, i ≤ xs.length → Pv i H → SqL K H a xs ∧ SqL K H b ys)
    (hs : ∀ (i : Nat) (x y : V) (T : Addr) (H : Hp), xs[i]? = some x → ys[i]? = some y → H T = none → Pv i H → g (.ref T) (wipe σ vs) (upd H T (.tup [x, y])) fun σ2 H2 => wipe σ2 vs = wipe σ vs ∧ tt σ2 H2 fun b H3 =>
      if b = true then te σ2 H3 fun y H4 => ∃ acc, H4 D = some (.lst acc) ∧ acc.length < sizeLine ∧ Pv (i + 1) (upd H4 D (.lst (acc ++ [y]))) else Pv (i + 1) H3) (hd : ∀ H, Pv xs.length H → Qd H) :
    ∃ W : Nat → Nat → Hp → Prop, (∃ m, W 0 m (upd H1 D (.lst []))) ∧ ∀ i m H, W i m H →
      ((Itz K a b).stop i H ∧ Qd H) ∨ ((Itz K a b).go i H ∧ ∃ Nx : Hp → Prop, (∀ H', Nx H' → ∃ m', m' < m ∧ W (i + 1) m' H') ∧ ∀ x H', (Itz K a b).yld i H x H' → g x (wipe σ vs) H' fun σ2 H2 => wipe σ2 vs = wipe σ vs ∧ tt σ2 H2 fun b H3 =>
        if b = true then te σ2 H3 fun y H4 => ∃ acc, H4 D = some (.lst acc) ∧ acc.length < sizeLine ∧ Nx (upd H4 D (.lst (acc ++ [y]))) else Nx H3) := by
  refine ⟨fun i m H => m = xs.length - i ∧ i ≤ xs.length ∧ Pv i H, ⟨xs.length, by simp, Nat.zero_le _, h0⟩, ?_⟩
  rintro i m H ⟨rfl, hi, p⟩
  obtain ⟨qx, qy⟩ := hq i H hi p
  by_cases hlt : i < xs.length
  · have hlt2 : i < ys.length := by omega
    refine .inr ⟨⟨xs, ys, xs[i], ys[i], qx, qy, List.getElem?_eq_getElem hlt, List.getElem?_eq_getElem hlt2⟩, Pv (i + 1), fun H' p' => ⟨xs.length - (i + 1), by omega, rfl, hlt, p'⟩, fun v H' y => ?_⟩
    obtain ⟨T, x', y', rfl, hT, rfl, f1, f2⟩ := y
    exact hs i x' y' T H (f1 xs qx) (f2 ys qy) hT p
  · have e : i = xs.length := by omega
    subst e
    exact .inl ⟨⟨xs, ys, qx, qy, Or.inl (Nat.le_refl _)⟩, hd H p⟩
theorem zip_get {α β : Type} {xs : List α} {ys : List β} {i : Nat} {x : α} {y : β} (h1 : xs[i]? = some x) (h2 : ys[i]? = some y) : (xs.zip ys)[i]? = some (x, y) := by
  rw [List.getElem?_zip_eq_some]
  exact ⟨h1, h2⟩
theorem zip_len {α β : Type} {xs : List α} {ys : List β} {n : Nat} (h : xs.length = ys.length) (e : n = xs.length) : n = (xs.zip ys).length := by
  rw [List.length_zip, ← h, Nat.min_self]
  exact e
theorem zlen {α β : Type} {vs ws : List V} {xs : List α} {ys : List β} (a : vs.length = xs.length) (b : ws.length = ys.length) (h : xs.length = ys.length) : vs.length = ws.length := by rw [a, b, h]
section
variable {t : TT} {ta tb : TE} {σ : L2.St} {H : Hp}
theorem vv_ifP {p : Prop} [Decidable p] {a b : Int} (ht : Ans t σ H (decide p)) (hx : p → Val ta σ H (.int a)) (hy : ¬ p → Val tb σ H (.int b)) : Val (tIf t ta tb) σ H (.int (if p then a else b)) := by
  by_cases h : p
  · have := vv_if (p := p) (a := a) (b := a) ht (hx h) (tb := ta) (hx h)
    intro Q q
    refine ht _ ?_
    rw [decide_eq_true h, if_pos rfl]
    rw [if_pos h] at q
    exact hx h _ q
  · intro Q q
    refine ht _ ?_
    rw [decide_eq_false h, if_neg Bool.false_ne_true]
    rw [if_neg h] at q
    exact hy h _ q
theorem vv_ifQ {c : Bool} {a b : Int} (ht : Ans t σ H c) (hx : c = true → Val ta σ H (.int a)) (hy : c = false → Val tb σ H (.int b)) : Val (tIf t ta tb) σ H (.int (if c = true then a else b)) := by
  intro Q q
  refine ht _ ?_
  cases c with
  | true =>
    rw [if_pos rfl]
    rw [if_pos rfl] at q
    exact hx rfl _ q
  | false =>
    rw [if_neg Bool.false_ne_true]
    rw [if_neg Bool.false_ne_true] at q
    exact hy rfl _ q
end
theorem kit_mk0 {K : PySem.W.Frag} {S C : Addr} (h1 : (Value.ref S == Value.ref C) = false) (h2 : PySem.W.isClsIn K C = true) (h3 : PySem.W.typeIn K (.ref C) = some (.type "type")) (h4 : PySem.W.subIn K (.ref S) (.ref C) = some false) :
    PySem.W.kitOne K (.ref S) (.ref C) = some false := by
  unfold PySem.W.isClsIn at h2
  unfold PySem.W.kitOne
  rw [if_neg (by rw [h1]; exact Bool.false_ne_true)]
  unfold PySem.W.kitCls
  simp only [h2, h3, h4, beq_self_eq_true, Bool.and_self, if_true]
theorem vv_call2 {ta tb : TE} {σ : L2.St} {H : Hp} {x y z : V} {r : List V → Hp → VK → Prop} (ha : Val ta σ H x) (hb : Val tb σ H y) (hr : ∀ Q : VK, Q z H → r [x, y] H Q) : Val (tCB r (tCons ta (tCons tb tNil))) σ H z := fun Q q => ha _ (hb _ (hr Q q))
end Vx
/-! # fourth part: reckoning with functions that may refuse -/
namespace Vx
open PySem PySem.Spec PyProof.Rows L2
section
variable {α β σ ρ τ : Type}
theorem bind_ok (a : α) (f : α → Rx β) : (Rx.ok a).bind f = f a := rfl
theorem bind_er (e : Nat) (f : α → Rx β) : (Rx.er e : Rx α).bind f = .er e := rfl
theorem grd_pos {p : Prop} {dp : Decidable p} {m : Rx α} (h : p) : grd p m = m := if_pos h
theorem bnd_eq (a : α) (f : α → Rx β) : bnd a f = f a := rfl
theorem noEr_ok (a : α) : noEr (.ok a : Rx α) = .ok a := rfl
theorem tryR_ok {cs : List Nat} (a : α) (f : α → Rx β) (g : Nat → Rx β) : tryR (.ok a) cs f g = f a := rfl
theorem tryR_er {cs : List Nat} {e : Nat} (h : e ∈ cs) (f : α → Rx β) (g : Nat → Rx β) : tryR (.er e) cs f g = g e := if_pos h
theorem aft_go (s : σ) (kr : ρ → Rx τ) (k : σ → Rx τ) : (Lp.go s : Lp σ ρ).aft kr k = k s := rfl
theorem aft_rt (r : ρ) (kr : ρ → Rx τ) (k : σ → Rx τ) : (Lp.rt r : Lp σ ρ).aft kr k = kr r := rfl
/-- gives a value of which P holds -/
def Gv (m : Rx α) (P : α → Prop) : Prop := ∃ v, m = .ok v ∧ P v
theorem Gv.ok {a : α} {P : α → Prop} (h : P a) : Gv (.ok a) P := ⟨a, rfl, h⟩
theorem Gv.of_eq {m : Rx α} {a : α} {P : α → Prop} (e : m = .ok a) (h : P a) : Gv m P := ⟨a, e, h⟩
theorem Gv.bind {m : Rx α} {f : α → Rx β} {P : α → Prop} {Q : β → Prop} (h : Gv m P) (k : ∀ v, P v → Gv (f v) Q) : Gv (m.bind f) Q := by
  obtain ⟨v, rfl, p⟩ := h
  exact k v p
theorem Gv.bind_eq {m : Rx α} {f : α → Rx β} {a : α} {Q : β → Prop} (h : m = .ok a) (k : Gv (f a) Q) : Gv (m.bind f) Q := by
  subst h
  exact k
theorem Gv.grd {p : Prop} {dp : Decidable p} {m : Rx α} {Q : α → Prop} (h : p) (k : Gv m Q) : Gv (Vx.grd p m) Q := by
  rw [grd_pos h]
  exact k
theorem Gv.bnd {a : α} {f : α → Rx β} {Q : β → Prop} (k : ∀ x, x = a → Gv (f x) Q) : Gv (Vx.bnd a f) Q := k a rfl
theorem Gv.ite {p : Prop} {dp : Decidable p} {a b : Rx α} {Q : α → Prop} (h1 : p → Gv a Q) (h2 : ¬ p → Gv b Q) : Gv (if p then a else b) Q := by
  split
  · exact h1 ‹_›
  · exact h2 ‹_›
theorem Gv.pos {p : Prop} {dp : Decidable p} {a b : Rx α} {Q : α → Prop} (h : p) (k : Gv a Q) : Gv (if p then a else b) Q := by rwa [if_pos h]
theorem Gv.neg {p : Prop} {dp : Decidable p} {a b : Rx α} {Q : α → Prop} (h : ¬ p) (k : Gv b Q) : Gv (if p then a else b) Q := by rwa [if_neg h]
theorem Gv.imp {m : Rx α} {P Q : α → Prop} (h : Gv m P) (k : ∀ v, P v → Q v) : Gv m Q := by
  obtain ⟨v, e, p⟩ := h
  exact ⟨v, e, k v p⟩
theorem Gv.noEr {m : Rx α} {P : α → Prop} (h : Gv m P) : Gv (Vx.noEr m) P := by
  obtain ⟨v, rfl, p⟩ := h
  exact ⟨v, rfl, p⟩
theorem Gv.tryOk {m : Rx α} {cs : List Nat} {f : α → Rx β} {g : Nat → Rx β} {P : α → Prop} {Q : β → Prop} (h : Gv m P) (k : ∀ v, P v → Gv (f v) Q) : Gv (tryR m cs f g) Q := by
  obtain ⟨v, rfl, p⟩ := h
  exact k v p
theorem Gv.tryEr {m : Rx α} {cs : List Nat} {e : Nat} {f : α → Rx β} {g : Nat → Rx β} {Q : β → Prop} (h : m = .er e) (hm : e ∈ cs) (k : Gv (g e) Q) : Gv (tryR m cs f g) Q := by
  subst h
  rw [tryR_er hm]
  exact k
theorem Gv.get {m : Rx α} {a : α} (h : Gv m (fun v => v = a)) : m = .ok a := by
  obtain ⟨v, e, rfl⟩ := h
  exact e
theorem Gv.eq {m : Rx α} {P : α → Prop} (h : Gv m P) : ∃ v, m = .ok v ∧ P v := h
/-- a loop that keeps P -/
theorem Gv.forS {P : Nat → σ → Prop} {xs : List α} {s : σ} {f : σ → α → Rx σ} (h0 : P 0 s) (hs : ∀ i x s, xs[i]? = some x → P i s → Gv (f s x) (P (i + 1))) : Gv (Vx.forS xs s f) (P xs.length) := by
  induction xs generalizing s P with
  | nil => exact .ok h0
  | cons x r ih =>
    refine Gv.bind (hs 0 x s rfl h0) fun s' p => ?_
    exact ih (P := fun i => P (i + 1)) p fun i y s hy q => hs (i + 1) y s (by simpa using hy) q
theorem Gv.forR {P : Nat → σ → Prop} {xs : List α} {s : σ} {f : σ → α → Rx (Lp σ ρ)} (h0 : P 0 s) (hs : ∀ i x s, xs[i]? = some x → P i s → Gv (f s x) (fun l => ∃ s', l = .go s' ∧ P (i + 1) s')) : Gv (Vx.forR xs s f) (fun l => ∃ s', l = .go s' ∧ P xs.length s') := by
  induction xs generalizing s P with
  | nil => exact .ok ⟨s, rfl, h0⟩
  | cons x r ih =>
    refine Gv.bind (hs 0 x s rfl h0) ?_
    rintro _ ⟨s', rfl, p⟩
    exact ih (P := fun i => P (i + 1)) p fun i y s hy q => hs (i + 1) y s (by simpa using hy) q
/-- a loop that carries nothing -/
theorem forR_unit {xs : List α} {f : Unit → α → Rx (Lp Unit ρ)} (h : ∀ x ∈ xs, f () x = .ok (.go ())) : Vx.forR xs () f = .ok (.go ()) := by
  induction xs with
  | nil => rfl
  | cons x r ih =>
    show (f () x).bind _ = _
    rw [h x List.mem_cons_self]
    exact ih fun y hy => h y (List.mem_cons_of_mem _ hy)
theorem forS_pure {xs : List α} {s : σ} {f : σ → α → Rx σ} {g : σ → α → σ} (h : ∀ s x, x ∈ xs → f s x = .ok (g s x)) : Vx.forS xs s f = .ok (xs.foldl g s) := by
  induction xs generalizing s with
  | nil => rfl
  | cons x r ih =>
    show (f s x).bind _ = _
    rw [h s x List.mem_cons_self]
    exact ih fun s y hy => h s y (List.mem_cons_of_mem _ hy)
theorem mapA_pure {xs : List α} {acc : List β} {f : α → Rx β} {g : α → β} (h : ∀ x ∈ xs, f x = .ok (g x)) (hl : acc.length + xs.length ≤ 1000000) : mapA xs acc f = .ok (acc ++ xs.map g) := by
  induction xs generalizing acc with
  | nil => simp [mapA]
  | cons x r ih =>
    rw [List.length_cons] at hl
    unfold mapA
    rw [grd_pos (by omega), h x List.mem_cons_self, bind_ok, ih (fun y hy => h y (List.mem_cons_of_mem _ hy)) (by rw [List.length_append, List.length_cons, List.length_nil]; omega)]
    simp
theorem mapA_pure0 {xs : List α} {f : α → Rx β} {g : α → β} (h : ∀ x ∈ xs, f x = .ok (g x)) (hl : xs.length ≤ 1000000) : mapA xs [] f = .ok (xs.map g) := by
  rw [mapA_pure h (by simpa using hl)]
  rfl
theorem mapF_pure {xs : List α} {acc : List β} {f : α → Rx (Option β)} {g : α → Option β} (h : ∀ x ∈ xs, f x = .ok (g x)) (hl : acc.length + xs.length ≤ 1000000) : mapF xs acc f = .ok (acc ++ xs.filterMap g) := by
  induction xs generalizing acc with
  | nil => simp [mapF]
  | cons x r ih =>
    rw [List.length_cons] at hl
    unfold mapF
    rw [grd_pos (by omega), h x List.mem_cons_self, bind_ok]
    cases e : g x with
    | none =>
      show mapF r acc f = _
      rw [ih (fun y hy => h y (List.mem_cons_of_mem _ hy)) (by omega), List.filterMap_cons, e]
    | some z =>
      show mapF r (acc ++ [z]) f = _
      rw [ih (fun y hy => h y (List.mem_cons_of_mem _ hy)) (by rw [List.length_append, List.length_cons, List.length_nil]; omega), List.filterMap_cons, e]
      simp
/-- a while that ends: m falls -/
theorem Gv.whileR {P : σ → Prop} {R : σ → Prop} (m : σ → Nat) {f : σ → Rx (Lp σ ρ)} (hs : ∀ s, P s → Gv (f s) (fun l => (∃ s', l = .go s' ∧ P s' ∧ m s' < m s) ∨ ∃ s', l = .bk s' ∧ R s')) : ∀ {n : Nat} {s : σ}, P s → m s < n → Gv (Vx.whileR n s f) (fun l => ∃ s', l = .go s' ∧ R s') := by
  intro n
  induction n with
  | zero => intro s _ h; exact absurd h (Nat.not_lt_zero _)
  | succ n ih =>
    intro s p h
    refine Gv.bind (hs s p) ?_
    rintro _ (⟨s', rfl, p', l⟩ | ⟨s', rfl, r⟩)
    · exact ih p' (by omega)
    · exact .ok ⟨s', rfl, r⟩
end
theorem rng_mem {lo x : Int} {n : Nat} (h : x ∈ rng lo n) : lo ≤ x ∧ x < lo + n := by
  unfold rng at h
  obtain ⟨j, hj, rfl⟩ := List.mem_map.mp h
  have := List.mem_range.mp hj
  omega
theorem rng_at {lo x : Int} {n i : Nat} (h : (rng lo n)[i]? = some x) : x = lo + i ∧ i < n := by
  have hl := get_len h
  rw [rng_len] at hl
  rw [rng_get hl] at h
  exact ⟨(Option.some.inj h).symm, hl⟩
end Vx
namespace Vx
open PySem PySem.Spec PyProof.Rows L2
structure St_Encoder where
  probs : (List Int)
  front : (List Int)
  low : Int
  span : Int
deriving DecidableEq
structure St_Decoder where
  probs : (List Int)
  octs : (List Int)
  place : Int
  span : Int
  value : Int
deriving DecidableEq
def F__law_draws_b1 (free_15 : Bool) (found_33 : (List Int)) (rest_34 : Int) (state_35 : Int) (it38 : Int) : Rx ((List Int) × Int × Int) :=
  (if free_15 = true then (if 1 < rest_34 then grd (0 < (it38 : Int)) <| grd ((found_33).length ≤ 1000000) <| bnd ((found_33) ++ [(rest_34 % it38)]) fun y49 => grd (0 < (it38 : Int) ∧ (it38 : Int) < 2 ^ 128) <| bnd ((rest_34 / it38)) fun rest_51 => .ok ((y49), (rest_51), (state_35)) else bnd ((((state_35 * 48271) + 11) % 2147483647)) fun state_52 => bnd ((((state_52 * 69621) + 7) % 2147483647)) fun state_53 => grd (0 < (it38 : Int)) <| grd ((found_33).length ≤ 1000000) <| bnd ((found_33) ++ [((state_53 / 13) % it38)]) fun y62 => .ok ((y62), (rest_34), (state_53))) else bnd ((((state_35 * 48271) + 11) % 2147483647)) fun state_63 => bnd ((((state_63 * 69621) + 7) % 2147483647)) fun state_64 => grd (0 < (it38 : Int)) <| grd ((found_33).length ≤ 1000000) <| bnd ((found_33) ++ [((state_64 / 13) % it38)]) fun y73 => .ok ((y73), (rest_34), (state_64)))

def F__law_draws_r1 (found_79 : (List Int)) (rest_80 : Int) (state_81 : Int) : Rx (List Int) :=
  .ok (found_79)

def F__law_draws (cell' : Int) (limits' : (List Int)) : Rx (List Int) :=
  bnd ((if cell' < 0 then -cell' else cell')) fun rest_10 => bnd ((rest_10 % 2147483647)) fun state_11 => bnd ((decide (cell' < 0) || decide (((10 : Int) ^ Int.toNat 18) ≤ cell'))) fun free_14 => Rx.bind (forS (limits') ((([] : (List Int))), (rest_10), (state_11)) (fun s x => F__law_draws_b1 (free_14) (s.1) (s.2.1) (s.2.2) x)) fun s => F__law_draws_r1  (s.1) (s.2.1) (s.2.2)

def F__law_items_c2 (context_251 : Int) (bits_252 : (List Int)) (it280 : Int) : Rx (Int × Int) :=
  grd ((-(2 ^ 64) < ((context_251 + 1) : Int) ∧ ((context_251 + 1) : Int) < 2 ^ 64) ∨ (-(2 ^ 64) < ((if decide (0 < (it280 % 3)) = true then 1 else 0) : Int) ∧ ((if decide (0 < (it280 % 3)) = true then 1 else 0) : Int) < 2 ^ 64)) <| grd (-((bits_252).length : Int) ≤ it280 ∧ it280 < ((bits_252).length : Int)) <| .ok (((((context_251 + 1) * (if decide (0 < (it280 % 3)) = true then 1 else 0)) - 1), (itD (bits_252) (it280))))

def F__law_items_b1 (items_124 : (List (Int × Int))) (it127 : Int) : Rx ((List (Int × Int))) :=
  Rx.bind (F__law_draws it127 ([4, 8, 256, 2, 40])) fun v137 => grd (-((v137).length : Int) ≤ 2 ∧ 2 < ((v137).length : Int)) <| grd (-((v137).length : Int) ≤ 2 ∧ 2 < ((v137).length : Int)) <| grd (-((v137).length : Int) ≤ 2 ∧ 2 < ((v137).length : Int)) <| grd (-((v137).length : Int) ≤ 1 ∧ 1 < ((v137).length : Int)) <| grd (-(([0, 255, 1, 128, (itD (v137) (2)), (itD (v137) (2)), (itD (v137) (2)), (-1)]).length : Int) ≤ (itD (v137) (1)) ∧ (itD (v137) (1)) < (([0, 255, 1, 128, (itD (v137) (2)), (itD (v137) (2)), (itD (v137) (2)), (-1)]).length : Int)) <| bnd ((itD ([0, 255, 1, 128, (itD (v137) (2)), (itD (v137) (2)), (itD (v137) (2)), (-1)]) ((itD (v137) (1))))) fun context_161 => grd (-((v137).length : Int) ≤ 0 ∧ 0 < ((v137).length : Int)) <| (if (itD (v137) (0)) < 2 then grd (-((v137).length : Int) ≤ 3 ∧ 3 < ((v137).length : Int)) <| grd (-((v137).length : Int) ≤ 4 ∧ 4 < ((v137).length : Int)) <| grd (-(2 ^ 63) ≤ ((itD (v137) (4)) : Int) ∧ ((itD (v137) (4)) : Int) < 2 ^ 63 ∧ ([(context_161, (itD (v137) (3)))]).length * Int.toNat ((itD (v137) (4))) ≤ 1000000) <| grd ((items_124).length + (repL ([(context_161, (itD (v137) (3)))]) ((itD (v137) (4)))).length ≤ 1000000) <| .ok ((items_124) ++ (repL ([(context_161, (itD (v137) (3)))]) ((itD (v137) (4))))) else grd (-((v137).length : Int) ≤ 4 ∧ 4 < ((v137).length : Int)) <| grd (-(2 ^ 63) ≤ ((itD (v137) (4)) : Int) ∧ ((itD (v137) (4)) : Int) < 2 ^ 63 ∧ ([2]).length * Int.toNat ((itD (v137) (4))) ≤ 1000000) <| Rx.bind (F__law_draws ((it127 / 1000)) (repL ([2]) ((itD (v137) (4))))) fun v240 => grd (-(2 ^ 62) ≤ (((v240) : (List Int)).length : Int) ∧ (((v240) : (List Int)).length : Int) < 2 ^ 62) <| Rx.bind (mapA (rng (0) (Int.toNat ((((v240) : (List Int)).length : Int)))) [] (fun x => noEr (F__law_items_c2 (context_161) (v240) x))) fun v253 => grd ((items_124).length + (v253).length ≤ 1000000) <| .ok ((items_124) ++ (v253)))

def F__law_items_r1 (most_92 : Int) (items_342 : (List (Int × Int))) : Rx (List (Int × Int)) :=
  .ok (cutL (items_342) none (some (most_92)))

def F__law_items (script' : (List Int)) (most' : Int) : Rx (List (Int × Int)) :=
  Rx.bind (forS (script') (([] : (List (Int × Int)))) (fun s x => F__law_items_b1  s x)) fun s => F__law_items_r1 (most') s

def F_Encoder___init__  : Rx St_Encoder :=
  grd (-(2 ^ 63) ≤ (256 : Int) ∧ (256 : Int) < 2 ^ 63 ∧ ([2048]).length * Int.toNat (256) ≤ 1000000) <| bnd ((4294967296 - 1)) fun _span_405 => .ok (⟨repL ([2048]) (256), ([] : (List Int)), 0, _span_405⟩ : St_Encoder)

def F__check_context (context' : Int) : Rx Unit :=
  (if 0 ≤ context' then (if context' < 256 then .ok (()) else .er 1) else .er 1)

def F__check_decision (decision' : Int) : Rx Unit :=
  (if 0 ≤ decision' then (if decision' ≤ 1 then .ok (()) else .er 1) else .er 1)

def F__adapted (chance' : Int) (decision' : Int) : Rx Int :=
  (if (decision' : Int) = 0 then .ok ((chance' + ((4096 - chance') / 32))) else .ok ((chance' - (chance' / 32))))

def F_Encoder__carry_r1 (self_449 : St_Encoder) (place_450 : Int) : Rx St_Encoder :=
  grd ((0 : Int) ≤ place_450 ∧ place_450 < 2 ^ 62 ∧ place_450 < ((self_449.front).length : Int)) <| grd (-((self_449.front).length : Int) ≤ place_450 ∧ place_450 < ((self_449.front).length : Int)) <| bnd (setL (self_449.front) (place_450) (((itD (self_449.front) (place_450)) + 1))) fun y459 => .ok (⟨self_449.probs, y459, self_449.low, self_449.span⟩ : St_Encoder)

def F_Encoder__carry_b1 (self_432 : St_Encoder) (place_433 : Int) : Rx (Lp (St_Encoder × Int) St_Encoder) :=
  grd (-((self_432.front).length : Int) ≤ place_433 ∧ place_433 < ((self_432.front).length : Int)) <| (if ((itD (self_432.front) (place_433)) : Int) = 255 then grd (-((self_432.front).length : Int) ≤ place_433 ∧ place_433 < ((self_432.front).length : Int)) <| bnd (setL (self_432.front) (place_433) (0)) fun y445 => bnd ((place_433 - 1)) fun place_446 => .ok (.go (((⟨self_432.probs, y445, self_432.low, self_432.span⟩ : St_Encoder)), (place_446))) else .ok (.bk ((self_432), (place_433))))

def F_Encoder__carry (self' : St_Encoder) : Rx St_Encoder :=
  bnd (((((self'.front) : (List Int)).length : Int) - 1)) fun place_419 => Rx.bind ((whileR 1000000 ((self'), (place_419)) (fun s => F_Encoder__carry_b1  (s.1) (s.2)) : Rx (Lp (St_Encoder × Int) St_Encoder))) fun l => l.aft Rx.ok fun s => F_Encoder__carry_r1  (s.1) (s.2)

def F_Encoder__narrow_r2 (self_563 : St_Encoder) : Rx St_Encoder :=
  .ok self_563

def F_Encoder__narrow_b2 (self_532 : St_Encoder) : Rx (Lp (St_Encoder) St_Encoder) :=
  (if self_532.span < 16777216 then grd ((self_532.front).length ≤ 1000000) <| bnd ((self_532.front) ++ [(self_532.low / 16777216)]) fun y543 => grd ((0 : Int) ≤ 8 ∧ (8 : Int) ≤ 4096 ∧ -(2 ^ 4096) < (self_532.low : Int) ∧ (self_532.low : Int) < 2 ^ 4096) <| bnd ((PySem.Builtin.bitAnd ((self_532.low * 2 ^ Int.toNat (8))) ((4294967296 - 1)))) fun _low_546 => grd ((0 : Int) ≤ 8 ∧ (8 : Int) ≤ 4096 ∧ -(2 ^ 4096) < (self_532.span : Int) ∧ (self_532.span : Int) < 2 ^ 4096) <| bnd ((self_532.span * 2 ^ Int.toNat (8))) fun _span_554 => .ok (.go ((⟨self_532.probs, y543, _low_546, _span_554⟩ : St_Encoder))) else .ok (.bk (self_532)))

def F_Encoder__narrow_k1 (self_464 : St_Encoder) : Rx St_Encoder :=
  Rx.bind ((whileR 1000000 (self_464) (fun s => F_Encoder__narrow_b2  s) : Rx (Lp (St_Encoder) St_Encoder))) fun l => l.aft Rx.ok fun s => F_Encoder__narrow_r2  s

def F_Encoder__narrow (self' : St_Encoder) (chance' : Int) (decision' : Int) : Rx St_Encoder :=
  grd ((-(2 ^ 64) < ((self'.span / 4096) : Int) ∧ ((self'.span / 4096) : Int) < 2 ^ 64) ∨ (-(2 ^ 64) < (chance' : Int) ∧ (chance' : Int) < 2 ^ 64)) <| bnd (((self'.span / 4096) * chance')) fun part_463 => Rx.bind (((if (decision' : Int) = 0 then .ok ((⟨self'.probs, self'.front, self'.low, part_463⟩ : St_Encoder)) else bnd ((self'.span - part_463)) fun _span_477 => bnd ((self'.low + part_463)) fun _low_484 => (if 4294967296 ≤ _low_484 then bnd ((_low_484 - 4294967296)) fun _low_492 => Rx.bind (noEr (F_Encoder__carry ((⟨self'.probs, self'.front, _low_492, _span_477⟩ : St_Encoder)))) fun v501 => .ok (v501) else .ok ((⟨self'.probs, self'.front, _low_484, _span_477⟩ : St_Encoder)))) : Rx (St_Encoder))) fun s => F_Encoder__narrow_k1  s

def F_Encoder_code (self' : St_Encoder) (context' : Int) (decision' : Int) : Rx St_Encoder :=
  Rx.bind (F__check_context context') fun v564 => Rx.bind (F__check_decision decision') fun v565 => grd (-((self'.probs).length : Int) ≤ context' ∧ context' < ((self'.probs).length : Int)) <| bnd ((itD (self'.probs) (context'))) fun chance_567 => Rx.bind (F_Encoder__narrow (self') chance_567 decision') fun v568 => Rx.bind (noEr (F__adapted chance_567 decision')) fun v579 => grd (-((v568.probs).length : Int) ≤ context' ∧ context' < ((v568.probs).length : Int)) <| bnd (setL (v568.probs) (context') (v579)) fun y587 => .ok (⟨y587, v568.front, v568.low, v568.span⟩ : St_Encoder)

def F_Encoder_code_even (self' : St_Encoder) (decision' : Int) : Rx St_Encoder :=
  Rx.bind (F__check_decision decision') fun v590 => Rx.bind (F_Encoder__narrow (self') 2048 decision') fun v591 => .ok v591

def F__law_code_items_b1 (encoder_632 : St_Encoder) (it635 : (Int × Int)) : Rx (St_Encoder) :=
  (if 0 ≤ it635.1 then Rx.bind (noEr (F_Encoder_code (encoder_632) it635.1 it635.2)) fun v637 => .ok (v637) else Rx.bind (noEr (F_Encoder_code_even (encoder_632) it635.2)) fun v648 => .ok (v648))

def F__law_code_items_r1 (encoder_666 : St_Encoder) : Rx St_Encoder :=
  .ok encoder_666

def F__law_code_items (encoder' : St_Encoder) (items' : (List (Int × Int))) : Rx St_Encoder :=
  Rx.bind (forS (items') (encoder') (fun s x => F__law_code_items_b1  s x)) fun s => F__law_code_items_r1  s

def F_Decoder__shift_k1 (self_667 : St_Decoder) (octet_668 : Int) : Rx St_Decoder :=
  grd ((0 : Int) ≤ 8 ∧ (8 : Int) ≤ 4096 ∧ -(2 ^ 4096) < (self_667.value : Int) ∧ (self_667.value : Int) < 2 ^ 4096) <| bnd ((PySem.Builtin.bitOr ((self_667.value * 2 ^ Int.toNat (8))) (octet_668))) fun _value_693 => .ok (⟨self_667.probs, self_667.octs, self_667.place, self_667.span, _value_693⟩ : St_Decoder)

def F_Decoder__shift (self' : St_Decoder) : Rx St_Decoder :=
  Rx.bind (((if self'.place < (((self'.octs) : (List Int)).length : Int) then grd (-((self'.octs).length : Int) ≤ self'.place ∧ self'.place < ((self'.octs).length : Int)) <| bnd ((itD (self'.octs) (self'.place))) fun octet_675 => bnd ((self'.place + 1)) fun _place_676 => .ok (((⟨self'.probs, self'.octs, _place_676, self'.span, self'.value⟩ : St_Decoder)), (octet_675)) else .ok ((self'), (0))) : Rx (St_Decoder × Int))) fun s => F_Decoder__shift_k1  (s.1) (s.2)

def F_Decoder___init___b1 (self_777 : St_Decoder) (it780 : Int) : Rx (St_Decoder) :=
  Rx.bind (noEr (F_Decoder__shift (self_777))) fun v781 => .ok (v781)

def F_Decoder___init___r1 (self_799 : St_Decoder) : Rx St_Decoder :=
  bnd ((if (4294967296 - 2) < self_799.value then (4294967296 - 2) else self_799.value)) fun _value_800 => .ok (⟨self_799.probs, self_799.octs, self_799.place, self_799.span, _value_800⟩ : St_Decoder)

def F_Decoder___init__ (octets' : (List Int)) : Rx St_Decoder :=
  grd (-(2 ^ 63) ≤ (256 : Int) ∧ (256 : Int) < 2 ^ 63 ∧ ([2048]).length * Int.toNat (256) ≤ 1000000) <| bnd ((4294967296 - 1)) fun _span_750 => Rx.bind (forS (rng (0) (Int.toNat (4))) ((⟨repL ([2048]) (256), octets', 0, _span_750, 0⟩ : St_Decoder)) (fun s x => F_Decoder___init___b1  s x)) fun s => F_Decoder___init___r1  s

def F__law_cell (script' : (List Int)) (k' : Int) : Rx Int :=
  (if k' < (((script') : (List Int)).length : Int) then grd (-((script').length : Int) ≤ k' ∧ k' < ((script').length : Int)) <| .ok ((itD (script') (k'))) else .ok (0))

def F_Encoder_octets_c1 (self_823 : St_Encoder) (it855 : Int) : Rx Int :=
  grd ((0 : Int) ≤ it855) <| .ok ((PySem.Builtin.bitAnd ((self_823.low / 2 ^ Int.toNat (it855))) (255)))

def F_Encoder_octets_r2 (octets_904 : (List Int)) : Rx (List Int) :=
  .ok (octets_904)

def F_Encoder_octets_b2 (octets_890 : (List Int)) : Rx (Lp ((List Int)) (List Int)) :=
  (if (octets_890 : (List Int)) = [] then .ok (.bk (octets_890)) else grd (-((octets_890).length : Int) ≤ (-1) ∧ (-1) < ((octets_890).length : Int)) <| (if ((itD (octets_890) ((-1))) : Int) = 0 then grd ((octets_890) ≠ []) <| bnd ((octets_890).dropLast) fun y903 => .ok (.go (y903)) else .ok (.bk (octets_890))))

def F_Encoder_octets (self' : St_Encoder) : Rx (List Int) :=
  Rx.bind (mapA ([24, 16, 8, 0]) [] (fun x => noEr (F_Encoder_octets_c1 (self') x))) fun v824 => grd ((self'.front).length + (v824).length ≤ 1000000) <| Rx.bind ((whileR 1000000 ((self'.front) ++ (v824)) (fun s => F_Encoder_octets_b2  s) : Rx (Lp ((List Int)) (List Int)))) fun l => l.aft Rx.ok fun s => F_Encoder_octets_r2  s

def F_Decoder__decide_r2 (decision_949 : Int) (self_986 : St_Decoder) : Rx (Int × St_Decoder) :=
  .ok (decision_949, self_986)

def F_Decoder__decide_b2 (self_961 : St_Decoder) : Rx (Lp (St_Decoder) (Int × St_Decoder)) :=
  (if self_961.span < 16777216 then Rx.bind (noEr (F_Decoder__shift (self_961))) fun v965 => grd ((0 : Int) ≤ 8 ∧ (8 : Int) ≤ 4096 ∧ -(2 ^ 4096) < (v965.span : Int) ∧ (v965.span : Int) < 2 ^ 4096) <| bnd ((v965.span * 2 ^ Int.toNat (8))) fun _span_977 => .ok (.go ((⟨v965.probs, v965.octs, v965.place, _span_977, v965.value⟩ : St_Decoder))) else .ok (.bk (self_961)))

def F_Decoder__decide_k1 (decision_912 : Int) (self_913 : St_Decoder) : Rx (Int × St_Decoder) :=
  Rx.bind ((whileR 1000000 (self_913) (fun s => F_Decoder__decide_b2  s) : Rx (Lp (St_Decoder) (Int × St_Decoder)))) fun l => l.aft Rx.ok fun s => F_Decoder__decide_r2 (decision_912) s

def F_Decoder__decide (self' : St_Decoder) (chance' : Int) : Rx (Int × St_Decoder) :=
  grd ((-(2 ^ 64) < ((self'.span / 4096) : Int) ∧ ((self'.span / 4096) : Int) < 2 ^ 64) ∨ (-(2 ^ 64) < (chance' : Int) ∧ (chance' : Int) < 2 ^ 64)) <| bnd (((self'.span / 4096) * chance')) fun part_907 => bnd ((if self'.value < part_907 then 0 else 1)) fun decision_911 => Rx.bind (((if (decision_911 : Int) = 0 then .ok ((⟨self'.probs, self'.octs, self'.place, part_907, self'.value⟩ : St_Decoder)) else bnd ((self'.value - part_907)) fun _value_926 => bnd ((self'.span - part_907)) fun _span_933 => .ok ((⟨self'.probs, self'.octs, self'.place, _span_933, _value_926⟩ : St_Decoder))) : Rx (St_Decoder))) fun s => F_Decoder__decide_k1 (decision_911) s

def F_Decoder_read (self' : St_Decoder) (context' : Int) : Rx (Int × St_Decoder) :=
  Rx.bind (F__check_context context') fun v987 => grd (-((self'.probs).length : Int) ≤ context' ∧ context' < ((self'.probs).length : Int)) <| bnd ((itD (self'.probs) (context'))) fun chance_989 => Rx.bind (F_Decoder__decide (self') chance_989) fun v990 => Rx.bind (noEr (F__adapted chance_989 v990.1)) fun v1001 => grd (-((v990.2.probs).length : Int) ≤ context' ∧ context' < ((v990.2.probs).length : Int)) <| bnd (setL (v990.2.probs) (context') (v1001)) fun y1009 => .ok (v990.1, (⟨y1009, v990.2.octs, v990.2.place, v990.2.span, v990.2.value⟩ : St_Decoder))

def F_Encoder_probability (self' : St_Encoder) (context' : Int) : Rx Int :=
  Rx.bind (F__check_context context') fun v1012 => grd (-((self'.probs).length : Int) ≤ context' ∧ context' < ((self'.probs).length : Int)) <| .ok ((itD (self'.probs) (context')))

def F_Decoder_probability (self' : St_Decoder) (context' : Int) : Rx Int :=
  Rx.bind (F__check_context context') fun v1014 => grd (-((self'.probs).length : Int) ≤ context' ∧ context' < ((self'.probs).length : Int)) <| .ok ((itD (self'.probs) (context')))

def F__law_bad_read_k2 (decoder_1051 : St_Decoder) (count_1052 : Int) : Rx (Bool × St_Decoder) :=
  .ok (decide ((count_1052 : Int) = 2), decoder_1051)

def F__law_bad_read_k1 (context_1016 : Int) (decoder_1017 : St_Decoder) (count_1018 : Int) : Rx (Bool × St_Decoder) :=
  Rx.bind ((tryR (F_Decoder_probability (decoder_1017) context_1016) [1] (fun v1057 => .ok (count_1018)) (fun _ => bnd ((count_1018 + (if true = true then 1 else 0))) fun count_1069 => .ok (count_1069)) : Rx (Int))) fun s => F__law_bad_read_k2 (decoder_1017) s

def F__law_bad_read (decoder' : St_Decoder) (context' : Int) : Rx (Bool × St_Decoder) :=
  Rx.bind ((tryR (F_Decoder_read (decoder') context') [1] (fun v1024 => .ok ((v1024.2), (0))) (fun _ => bnd ((0 + (if true = true then 1 else 0))) fun count_1040 => .ok ((decoder'), (count_1040))) : Rx (St_Decoder × Int))) fun s => F__law_bad_read_k1 (context') (s.1) (s.2)

def F__law_bad_code_k2 (before_1134 : (List Int)) (encoder_1135 : St_Encoder) (count_1136 : Int) : Rx (Bool × St_Encoder) :=
  (if decide ((count_1136 : Int) = 2) = true then Rx.bind (noEr (F_Encoder_octets (encoder_1135))) fun v1215 => .ok (decide ((v1215 : (List Int)) = before_1134), encoder_1135) else .ok (false, encoder_1135))

def F__law_bad_code_k1 (context_1089 : Int) (decision_1090 : Int) (before_1091 : (List Int)) (encoder_1092 : St_Encoder) (count_1093 : Int) : Rx (Bool × St_Encoder) :=
  Rx.bind (((if 0 ≤ decision_1090 then (if decision_1090 ≤ 1 then tryR (F_Encoder_probability (encoder_1092) context_1089) [1] (fun v1166 => .ok ((encoder_1092), (count_1093))) (fun _ => bnd ((count_1093 + (if true = true then 1 else 0))) fun count_1179 => .ok ((encoder_1092), (count_1179))) else tryR (F_Encoder_code_even (encoder_1092) decision_1090) [1] (fun v1144 => .ok ((v1144), (count_1093))) (fun _ => bnd ((count_1093 + (if true = true then 1 else 0))) fun count_1161 => .ok ((encoder_1092), (count_1161)))) else tryR (F_Encoder_code_even (encoder_1092) decision_1090) [1] (fun v1184 => .ok ((v1184), (count_1093))) (fun _ => bnd ((count_1093 + (if true = true then 1 else 0))) fun count_1201 => .ok ((encoder_1092), (count_1201)))) : Rx (St_Encoder × Int))) fun s => F__law_bad_code_k2 (before_1091) (s.1) (s.2)

def F__law_bad_code (encoder' : St_Encoder) (context' : Int) (decision' : Int) : Rx (Bool × St_Encoder) :=
  Rx.bind (F_Encoder_octets (encoder')) fun v1080 => Rx.bind ((tryR (F_Encoder_code (encoder') context' decision') [1] (fun v1102 => .ok ((v1102), (0))) (fun _ => bnd ((0 + (if (true && (!false)) = true then 1 else 0))) fun count_1121 => .ok ((encoder'), (count_1121))) : Rx (St_Encoder × Int))) fun s => F__law_bad_code_k1 (context') (decision') (v1080) (s.1) (s.2)

def F_Decoder_read_even (self' : St_Decoder) : Rx (Int × St_Decoder) :=
  Rx.bind (F_Decoder__decide (self') 2048) fun v1228 => .ok (v1228.1, v1228.2)

def F_law_b3 (draws_1366 : (List Int)) (context_1367 : Int) (decision_1368 : Int) (encoder_1411 : St_Encoder) (it1414 : (Int × Int)) : Rx (Lp (St_Encoder) Bool) :=
  grd (-((draws_1366).length : Int) ≤ 5 ∧ 5 < ((draws_1366).length : Int)) <| Rx.bind (F__law_bad_code (encoder_1411) context_1367 ((itD (draws_1366) (5)))) fun v1416 => (if v1416.1 = true then grd (-((draws_1366).length : Int) ≤ 2 ∧ 2 < ((draws_1366).length : Int)) <| Rx.bind (F__law_bad_code (v1416.2) ((itD (draws_1366) (2))) decision_1368) fun v1430 => (if v1430.1 = true then Rx.bind (F__law_code_items (v1430.2) ([it1414])) fun v1459 => .ok (.go (v1459)) else .ok (.rt (false))) else .ok (.rt (false)))

def F_law_b4 (context_1568 : Int) (decoder_1621 : St_Decoder) (it1624 : (Int × Int)) : Rx (Lp (St_Decoder) Bool) :=
  Rx.bind (F__law_bad_read (decoder_1621) context_1568) fun v1625 => (if v1625.1 = true then (if 0 ≤ it1624.1 then Rx.bind (F_Decoder_read (v1625.2) it1624.1) fun v1638 => (if (v1638.1 : Int) = it1624.2 then (if it1624.1 < 0 then Rx.bind (F_Decoder_read_even (v1638.2)) fun v1651 => (if (v1651.1 : Int) = it1624.2 then .ok (.go (v1651.2)) else .ok (.rt (false))) else .ok (.go (v1638.2))) else .ok (.rt (false))) else (if it1624.1 < 0 then Rx.bind (F_Decoder_read_even (v1625.2)) fun v1680 => (if (v1680.1 : Int) = it1624.2 then .ok (.go (v1680.2)) else .ok (.rt (false))) else .ok (.go (v1625.2)))) else .ok (.rt (false)))

def F_law_r4 (draws_1569 : (List Int)) (encoder_1570 : St_Encoder) (decoder_1723 : St_Decoder) : Rx Bool :=
  grd (-((draws_1569).length : Int) ≤ 2 ∧ 2 < ((draws_1569).length : Int)) <| Rx.bind (F_Decoder_probability (decoder_1723) ((itD (draws_1569) (2)))) fun v1725 => grd (-((draws_1569).length : Int) ≤ 2 ∧ 2 < ((draws_1569).length : Int)) <| Rx.bind (F_Encoder_probability (encoder_1570) ((itD (draws_1569) (2)))) fun v1734 => .ok (decide ((v1725 : Int) = v1734))

def F_law_r3 (draws_1369 : (List Int)) (context_1370 : Int) (items_1371 : (List (Int × Int))) (twin_1372 : St_Encoder) (encoder_1485 : St_Encoder) : Rx Bool :=
  Rx.bind (F__law_code_items (twin_1372) (items_1371)) fun v1486 => Rx.bind (F_Encoder_octets (encoder_1485)) fun v1500 => Rx.bind (F_Encoder_octets (v1486)) fun v1512 => (if (v1500 : (List Int)) = v1512 then grd (-((draws_1369).length : Int) ≤ 2 ∧ 2 < ((draws_1369).length : Int)) <| Rx.bind (F_Encoder_probability (encoder_1485) ((itD (draws_1369) (2)))) fun v1528 => grd (-((draws_1369).length : Int) ≤ 2 ∧ 2 < ((draws_1369).length : Int)) <| Rx.bind (F_Encoder_probability (v1486) ((itD (draws_1369) (2)))) fun v1537 => (if (v1528 : Int) = v1537 then Rx.bind (F_Decoder___init__ (v1500)) fun v1554 => Rx.bind (forR (items_1371) (v1554) (fun s x => F_law_b4 (context_1370) s x)) fun l => l.aft Rx.ok fun s => F_law_r4 (draws_1369) (encoder_1485) s else .ok (false)) else .ok (false))

def F_law_k2 (script_1277 : (List Int)) (draws_1278 : (List Int)) (context_1279 : Int) (decision_1280 : Int) : Rx Bool :=
  Rx.bind (F__law_items (cutL (script_1277) (some (1)) none) 40) fun v1302 => Rx.bind F_Encoder___init__ fun v1327 => Rx.bind F_Encoder___init__ fun v1352 => Rx.bind (forR (v1302) (v1327) (fun s x => F_law_b3 (draws_1278) (context_1279) (decision_1280) s x)) fun l => l.aft Rx.ok fun s => F_law_r3 (draws_1278) (context_1279) (v1302) (v1352) s

def F_law_k1 (script_1260 : (List Int)) (draws_1261 : (List Int)) (context_1262 : Int) : Rx Bool :=
  grd (-((draws_1261).length : Int) ≤ 4 ∧ 4 < ((draws_1261).length : Int)) <| bnd ((2 + (itD (draws_1261) (4)))) fun decision_1276 => Rx.bind ((grd (-((draws_1261).length : Int) ≤ 3 ∧ 3 < ((draws_1261).length : Int)) <| (if ((itD (draws_1261) (3)) : Int) = 0 then grd (-((draws_1261).length : Int) ≤ 4 ∧ 4 < ((draws_1261).length : Int)) <| bnd (((-1) - (itD (draws_1261) (4)))) fun decision_1287 => .ok (decision_1287) else .ok (decision_1276)) : Rx (Int))) fun s => F_law_k2 (script_1260) (draws_1261) (context_1262) s

def F_law (script' : (List Int)) : Rx Bool :=
  Rx.bind (F__law_cell (script') 0) fun v1239 => Rx.bind (F__law_draws v1239 ([2, 1000, 256, 2, 1000, 2])) fun v1249 => grd (-((v1249).length : Int) ≤ 1 ∧ 1 < ((v1249).length : Int)) <| bnd ((256 + (itD (v1249) (1)))) fun context_1259 => Rx.bind ((grd (-((v1249).length : Int) ≤ 0 ∧ 0 < ((v1249).length : Int)) <| (if ((itD (v1249) (0)) : Int) = 0 then grd (-((v1249).length : Int) ≤ 1 ∧ 1 < ((v1249).length : Int)) <| bnd (((-1) - (itD (v1249) (1)))) fun context_1269 => .ok (context_1269) else .ok (context_1259)) : Rx (Int))) fun s => F_law_k1 (script') (v1249) s
theorem cell_gv (s : List Int) (k : Int) (h : 0 ≤ k) : Gv (F__law_cell s k) (fun _ => True) := by
  unfold F__law_cell
  exact Gv.ite (fun c => Gv.grd ⟨by omega, c⟩ (.ok trivial)) fun _ => .ok trivial
def Inb : List Int → List Int → Prop
  | [], [] => True
  | v :: vs, l :: ls => 0 ≤ v ∧ v < l ∧ Inb vs ls
  | _, _ => False
theorem Inb.snoc : ∀ {vs ls : List Int} {y l : Int}, Inb vs ls → 0 ≤ y → y < l → Inb (vs ++ [y]) (ls ++ [l])
  | [], [], _, _, _, h0, h1 => ⟨h0, h1, trivial⟩
  | _ :: _, _ :: _, _, _, h, h0, h1 => ⟨h.1, h.2.1, Inb.snoc h.2.2 h0 h1⟩
  | [], _ :: _, _, _, h, _, _ => h.elim
  | _ :: _, [], _, _, h, _, _ => h.elim
theorem Inb.len : ∀ {vs ls : List Int}, Inb vs ls → vs.length = ls.length
  | [], [], _ => rfl
  | _ :: _, _ :: _, h => congrArg Nat.succ (Inb.len h.2.2)
  | [], _ :: _, h => h.elim
  | _ :: _, [], h => h.elim
theorem Inb.cons {v ls : List Int} {l : Int} (h : Inb v (l :: ls)) : ∃ a r, v = a :: r ∧ 0 ≤ a ∧ a < l ∧ Inb r ls := by
  cases v with
  | nil => exact h.elim
  | cons a r => exact ⟨a, r, rfl, h.1, h.2.1, h.2.2⟩
theorem Inb.nil {v : List Int} (h : Inb v []) : v = [] := by
  cases v with
  | nil => rfl
  | cons a r => exact h.elim
theorem draws_gv (cell : Int) (limits : List Int) (hl : ∀ l ∈ limits, 0 < l ∧ l < 18446744073709551616) (hn : limits.length ≤ 1000000) : Gv (F__law_draws cell limits) (fun v => Inb v limits) := by
  unfold F__law_draws
  refine Gv.bnd fun rest _ => Gv.bnd fun state _ => Gv.bnd fun free _ => Gv.bind (Gv.forS (P := fun i s => Inb s.1 (limits.take i)) ?_ fun i x s hx p => ?_) fun s p => .ok ?_
  · rw [List.take_zero]
    trivial
  · have hb0 := hl x (List.mem_of_getElem? hx)
    have hb : 0 < x ∧ x < 2 ^ 128 := ⟨hb0.1, by omega⟩
    have hlen := p.len
    have hi := get_len hx
    rw [List.length_take] at hlen
    have nx : ∀ y : Int, 0 ≤ y → y < x → Inb (s.1 ++ [y]) (limits.take (i + 1)) := fun y h0 h1 => by
      rw [take_succ_get hx]
      exact p.snoc h0 h1
    unfold F__law_draws_b1
    refine Gv.ite (fun _ => Gv.ite (fun _ => Gv.grd hb.1 (Gv.grd (by omega) (Gv.bnd fun y hy => Gv.grd ⟨hb.1, hb.2⟩ (Gv.bnd fun _ _ => .ok ?_)))) fun _ => Gv.bnd fun _ _ => Gv.bnd fun _ _ => Gv.grd hb.1 (Gv.grd (by omega) (Gv.bnd fun y hy => .ok ?_))) fun _ => Gv.bnd fun _ _ => Gv.bnd fun _ _ => Gv.grd hb.1 (Gv.grd (by omega) (Gv.bnd fun y hy => .ok ?_))
    · subst hy
      exact nx _ (Int.emod_nonneg _ (by omega)) (Int.emod_lt_of_pos _ hb.1)
    · subst hy
      exact nx _ (Int.emod_nonneg _ (by omega)) (Int.emod_lt_of_pos _ hb.1)
    · subst hy
      exact nx _ (Int.emod_nonneg _ (by omega)) (Int.emod_lt_of_pos _ hb.1)
  · rw [List.take_length] at p
    exact p
theorem ixg {xs : List Int} {k : Int} {n : Nat} (e : xs.length = n) (h : -(n : Int) ≤ k ∧ k < n) : -(xs.length : Int) ≤ k ∧ k < xs.length := by
  rw [e]
  exact h
theorem itD_lit {xs : List Int} {a k : Int} (n : Nat) (e : k = (n : Int)) (h : xs[n]? = some a) : itD xs k = a := by
  subst e
  have hl := get_len h
  unfold itD atI ixN
  rw [if_pos (by omega), if_pos (by omega)]
  show (xs[n]?).getD default = a
  rw [h]
  rfl
theorem sIx_in {n d : Nat} {v : Int} (h0 : 0 ≤ v) (h1 : v ≤ n) : HT.sIx n d (some v) = v.toNat := by
  show (if v < 0 then (v + (n : Int)).toNat else min v.toNat n) = v.toNat
  rw [if_neg (by omega)]
  omega
theorem itD_nat {α : Type} [Inhabited α] {xs : List α} {k : Int} (n : Nat) (e : k = (n : Int)) {a : α} (h : xs[n]? = some a) : itD xs k = a := by
  subst e
  have hl := get_len h
  unfold itD atI ixN
  rw [if_pos (by omega), if_pos (by omega)]
  show (xs[n]?).getD default = a
  rw [h]
  rfl
theorem rng_at' {lo : Int} {n i : Nat} (h : i < n) : (rng lo n)[i]? = some (lo + (i : Int)) := rng_get h
theorem cut_rng {α : Type} [Inhabited α] {xs : List α} {a n : Int} (h0 : 0 ≤ a) (hn : 0 ≤ n) (h1 : a + n ≤ xs.length) : cutL xs (some a) (some (a + n)) = (rng 0 n.toNat).map (fun j => itD xs (a + j)) := by
  unfold cutL
  rw [sIx_in h0 (by omega), sIx_in (by omega) h1]
  apply List.ext_getElem?
  intro i
  by_cases hi : i < n.toNat
  · rw [List.getElem?_take_of_lt (by omega), List.getElem?_drop, List.getElem?_map, rng_get hi]
    have hl : a.toNat + i < xs.length := by omega
    rw [List.getElem?_eq_getElem hl]
    show some _ = some (itD xs (a + (0 + (i : Int))))
    rw [itD_nat (a.toNat + i) (by omega) (List.getElem?_eq_getElem hl)]
  · rw [List.getElem?_eq_none (by rw [List.length_take, List.length_drop]; omega), List.getElem?_eq_none (by rw [List.length_map, rng_len]; omega)]
theorem cut_len {α : Type} {xs : List α} {a b : Int} (h0 : 0 ≤ a) (hn : a ≤ b) (h1 : b ≤ xs.length) : ((cutL xs (some a) (some b)).length : Int) = b - a := by
  unfold cutL
  rw [sIx_in h0 (by omega), sIx_in (by omega) h1, List.length_take, List.length_drop]
  omega
theorem rep1 {α : Type} (a : α) (n : Int) : repL [a] n = List.replicate n.toNat a := by
  unfold repL
  induction n.toNat with
  | zero => rfl
  | succ k ih => rw [List.replicate_succ, List.flatten_cons, ih, List.replicate_succ]; rfl
theorem rep1_len {α : Type} (a : α) {n : Int} (h : 0 ≤ n) : ((repL [a] n).length : Int) = n := by
  rw [rep1, List.length_replicate]
  omega
theorem rep1_at {α : Type} [Inhabited α] (a : α) {n : Int} (h : 0 < n) : itD (repL [a] n) 0 = a := by
  rw [rep1]
  obtain ⟨k, hk⟩ : ∃ k, n.toNat = k + 1 := ⟨n.toNat - 1, by omega⟩
  rw [hk, List.replicate_succ]
  exact itD_nat 0 rfl rfl
theorem rep1_mem {α : Type} {a b : α} {n : Int} (h : b ∈ repL [a] n) : b = a := by
  rw [rep1] at h
  exact List.eq_of_mem_replicate h
theorem itD_mem {α : Type} [Inhabited α] {xs : List α} {k : Int} (h0 : 0 ≤ k) (h1 : k < xs.length) : itD xs k ∈ xs := by
  have hl : k.toNat < xs.length := by omega
  rw [itD_nat k.toNat (by omega) (List.getElem?_eq_getElem hl)]
  exact List.getElem_mem hl
namespace Pu
theorem len_rep1 {α : Type} (a : α) (k : Int) : (repL [a] k).length = k.toNat := by
  unfold repL
  simp
theorem mem_rep1 {α : Type} {a x : α} {k : Int} (h : x ∈ repL [a] k) : x = a := by
  unfold repL at h
  simp at h
  exact h.2
theorem itD_nat {α : Type} [Inhabited α] {e : List α} {k : Nat} {x : α} (h : e[k]? = some x) : itD e (k : Int) = x := by
  unfold itD atI ixN
  have hk := (List.getElem?_eq_some_iff.mp h).1
  rw [if_pos (by omega), if_pos (by omega)]
  simp [h]
theorem itD_mem {α : Type} [Inhabited α] {e : List α} {k : Int} (h : -(e.length : Int) ≤ k ∧ k < e.length) : itD e k ∈ e := by
  obtain ⟨j, hj, hl⟩ := ixN_some h
  unfold itD atI
  rw [hj]
  show (e[j]?).getD default ∈ e
  rw [List.getElem?_eq_getElem hl]
  exact List.getElem_mem hl
abbrev EncS := St_Encoder
def adaptE (p d : Int) : Int := if d = 0 then p + (4096 - p) / 32 else p - p / 32
theorem adaptE_in {p d : Int} (h : 31 ≤ p ∧ p ≤ 4065) : 31 ≤ adaptE p d ∧ adaptE p d ≤ 4065 := by
  unfold adaptE
  split <;> omega
def num (xs : List Int) : Int := xs.foldl (fun a x => a * 256 + x) 0
theorem num_snoc (xs : List Int) (x : Int) : num (xs ++ [x]) = num xs * 256 + x := by
  unfold num
  rw [List.foldl_append] <;> rfl
def incR : List Int → List Int
  | [] => []
  | x :: r => if x = 255 then 0 :: incR r else (x + 1) :: r
def incE (xs : List Int) : List Int := (incR xs.reverse).reverse
theorem incR_rep (x : Int) (r : List Int) (hx : x ≠ 255) : ∀ j : Nat, incR (List.replicate j 255 ++ x :: r) = List.replicate j 0 ++ (x + 1) :: r
  | 0 => by simp [incR, hx]
  | j + 1 => by
    rw [List.replicate_succ, List.cons_append, incR, if_pos rfl, incR_rep x r hx j, List.replicate_succ, List.cons_append]
theorem incE_mid {A : List Int} {x : Int} {j : Nat} (hx : x ≠ 255) : incE (A ++ [x] ++ List.replicate j 255) = A ++ [x + 1] ++ List.replicate j 0 := by
  unfold incE
  rw [show (A ++ [x] ++ List.replicate j (255 : Int)).reverse = List.replicate j 255 ++ x :: A.reverse by simp, incR_rep x _ hx]
  simp
theorem mid_in {F A : List Int} {x pl : Int} {j : Nat} (h : F = A ++ [x] ++ List.replicate j 0) (hp : pl = (A.length : Int)) : -(F.length : Int) ≤ pl ∧ pl < F.length := by
  subst h hp
  simp only [List.length_append, List.length_cons, List.length_nil, List.length_replicate]
  omega
theorem get_mid {α : Type} {A R : List α} {x : α} : (A ++ [x] ++ R)[A.length]? = some x := by simp
theorem mid_at {F A : List Int} {x pl : Int} {j : Nat} (h : F = A ++ [x] ++ List.replicate j 0) (hp : pl = (A.length : Int)) : itD F pl = x := by
  subst h hp
  exact itD_nat get_mid
theorem ixN_nat' {n j : Nat} (hj : j < n) : ixN n (j : Int) = some j := by
  unfold ixN
  rw [if_pos (by omega), if_pos (by omega)]
  simp
theorem setL_mid {A R : List Int} {x y : Int} : setL (A ++ [x] ++ R) (A.length : Int) y = A ++ [y] ++ R := by
  unfold setL
  rw [ixN_nat' (by simp)]
  simp
theorem all255 {F : List Int} {j : Nat} (h : ∃ y ∈ F, y ≠ 255) (e : F = List.replicate j 255) : False := by
  obtain ⟨y, hy, hn⟩ := h
  rw [e] at hy
  exact hn (List.eq_of_mem_replicate hy)
theorem carry_start {F : List Int} (h : ∃ y ∈ F, y ≠ 255) : ∃ (A : List Int) (x : Int) (j : Nat), F = A ++ [x] ++ List.replicate j 255 ∧ F = A ++ [x] ++ List.replicate j 0 ∧ ((F.length : Int) - 1) = (A.length : Int) := by
  have hn : F ≠ [] := by
    obtain ⟨y, hy, _⟩ := h
    intro z
    rw [z] at hy
    cases hy
  refine ⟨F.dropLast, F.getLast hn, 0, ?_, ?_, ?_⟩
  · rw [List.dropLast_concat_getLast]
    simp
  · rw [List.dropLast_concat_getLast]
    simp
  · have := List.length_pos_iff.mpr hn
    rw [List.length_dropLast]
    omega
theorem carry_A {F A : List Int} {x : Int} {j : Nat} (h : ∃ y ∈ F, y ≠ 255) (e : F = A ++ [x] ++ List.replicate j 255) (hx : x = 255) : A ≠ [] := by
  intro z
  subst z hx
  refine all255 (j := j + 1) h ?_
  rw [e, List.replicate_succ] <;> rfl
theorem carry_turn {F F' A : List Int} {x pl : Int} {j : Nat} (h : ∃ y ∈ F, y ≠ 255) (e : F = A ++ [x] ++ List.replicate j 255) (e' : F' = A ++ [x] ++ List.replicate j 0) (hp : pl = (A.length : Int)) (hx : x = 255) :
    ∃ (B : List Int) (y : Int) (k : Nat), F = B ++ [y] ++ List.replicate k 255 ∧ setL F' pl 0 = B ++ [y] ++ List.replicate k 0 ∧ pl - 1 = (B.length : Int) := by
  have hA := carry_A h e hx
  refine ⟨A.dropLast, A.getLast hA, j + 1, ?_, ?_, ?_⟩
  · rw [e, hx, List.dropLast_concat_getLast hA, List.replicate_succ]
    simp
  · rw [e', hp, setL_mid, List.dropLast_concat_getLast hA, List.replicate_succ]
    simp
  · have := List.length_pos_iff.mpr hA
    rw [hp, List.length_dropLast]
    omega
theorem carry_less {F A : List Int} {x pl : Int} {j : Nat} (h : ∃ y ∈ F, y ≠ 255) (e : F = A ++ [x] ++ List.replicate j 255) (hp : pl = (A.length : Int)) (hx : x = 255) : (pl - 1).toNat < pl.toNat := by
  have := List.length_pos_iff.mpr (carry_A h e hx)
  omega
theorem carry_end {F F' A : List Int} {x pl : Int} {j : Nat} (e : F = A ++ [x] ++ List.replicate j 255) (e' : F' = A ++ [x] ++ List.replicate j 0) (hp : pl = (A.length : Int)) (hx : x ≠ 255) : setL F' pl (itD F' pl + 1) = incE F := by
  rw [mid_at e' hp, e', hp, setL_mid, e, incE_mid hx]

def encInit : EncS := ⟨repL [2048] 256, [], 0, 4294967296 - 1⟩
def encPre (e : EncS) (p d : Int) : EncS :=
  if d = 0 then ⟨e.probs, e.front, e.low, e.span / 4096 * p⟩
  else if 4294967296 ≤ e.low + e.span / 4096 * p then ⟨e.probs, incE e.front, e.low + e.span / 4096 * p - 4294967296, e.span - e.span / 4096 * p⟩
  else ⟨e.probs, e.front, e.low + e.span / 4096 * p, e.span - e.span / 4096 * p⟩
def encNorm1 (e : EncS) : EncS := ⟨e.probs, e.front ++ [e.low / 16777216], e.low * 256 % 4294967296, e.span * 256⟩
def encNorm (e : EncS) : EncS := if e.span < 16777216 then encNorm1 e else e
def encNarrow (e : EncS) (p d : Int) : EncS := encNorm (encPre e p d)
def encCode (e : EncS) (c d : Int) : EncS := ⟨setL (encNarrow e (itD e.probs c) d).probs c (adaptE (itD e.probs c) d), (encNarrow e (itD e.probs c) d).front, (encNarrow e (itD e.probs c) d).low, (encNarrow e (itD e.probs c) d).span⟩
structure EncMid (e : EncS) : Prop where
  oct : ∀ x ∈ e.front, 0 ≤ x ∧ x ≤ 255
  low : 0 ≤ e.low ∧ e.low < 4294967296
  span0 : 0 < e.span
  span : 65536 ≤ e.span ∧ e.span < 4294967296
  fit : num e.front * 4294967296 + e.low + e.span ≤ 256 ^ e.front.length * 4294967296
structure EncG (e : EncS) : Prop where
  len : e.probs.length = 256
  prob : ∀ p ∈ e.probs, 31 ≤ p ∧ p ≤ 4065
  mid : EncMid e
  big : 16777216 ≤ e.span
theorem EncG.chance {e : EncS} (h : EncG e) {c : Int} (h0 : 0 ≤ c) (h1 : c < 256) : 31 ≤ itD e.probs c ∧ itD e.probs c ≤ 4065 := h.prob _ (itD_mem (by rw [h.len]; omega))
theorem part_in {s p : Int} (hs : 16777216 ≤ s ∧ s < 4294967296) (hp : 31 ≤ p ∧ p ≤ 4065) : 65536 ≤ s / 4096 * p ∧ 65536 ≤ s - s / 4096 * p := by
  have h1 : 4096 ≤ s / 4096 := by omega
  have h2 : s / 4096 * 4096 ≤ s := by omega
  have a : s / 4096 * 31 ≤ s / 4096 * p := Int.mul_le_mul_of_nonneg_left hp.1 (by omega)
  have b : s / 4096 * p ≤ s / 4096 * 4065 := Int.mul_le_mul_of_nonneg_left hp.2 (by omega)
  omega
theorem snocInd {α : Type} {motive : List α → Prop} (nil : motive []) (snoc : ∀ xs x, motive xs → motive (xs ++ [x])) (xs : List α) : motive xs := by
  have : ∀ l : List α, motive l.reverse := by
    intro l
    induction l with
    | nil => exact nil
    | cons x r ih =>
      rw [List.reverse_cons]
      exact snoc _ _ ih
  have h := this xs.reverse
  rwa [List.reverse_reverse] at h
theorem num_nn : ∀ {xs : List Int}, (∀ x ∈ xs, 0 ≤ x ∧ x ≤ 255) → 0 ≤ num xs := by
  intro xs
  induction xs using snocInd with
  | nil => intro _; decide
  | snoc xs x ih =>
    intro h
    rw [num_snoc]
    have h1 := ih fun y hy => h y (List.mem_append_left _ hy)
    have h2 := h x (List.mem_append_right _ List.mem_cons_self)
    omega
theorem inc_len (xs : List Int) : (incE xs).length = xs.length := by
  have : ∀ l : List Int, (incR l).length = l.length := by
    intro l
    induction l with
    | nil => rfl
    | cons x r ih =>
      unfold incR
      split
      · rw [List.length_cons, List.length_cons, ih]
      · rfl
  unfold incE
  rw [List.length_reverse, this, List.length_reverse]
theorem split255 : ∀ {xs : List Int}, (∃ y ∈ xs, y ≠ 255) → ∃ (A : List Int) (x : Int) (j : Nat), xs = A ++ [x] ++ List.replicate j 255 ∧ x ≠ 255 := by
  intro xs
  induction xs using snocInd with
  | nil => rintro ⟨y, hy, _⟩; cases hy
  | snoc xs x ih =>
    intro h
    by_cases hx : x = 255
    · subst hx
      obtain ⟨y, hy, hn⟩ := h
      have : ∃ y ∈ xs, y ≠ 255 := by
        rcases List.mem_append.mp hy with z | z
        · exact ⟨y, z, hn⟩
        · simp at z
          exact absurd z hn
      obtain ⟨A, x, j, e, hx⟩ := ih this
      refine ⟨A, x, j + 1, ?_, hx⟩
      rw [e, List.replicate_succ', List.append_assoc]
    · exact ⟨xs, x, 0, by simp, hx⟩
theorem num_rep (A : List Int) (x : Int) : ∀ j : Nat, num (A ++ [x + 1] ++ List.replicate j 0) = num (A ++ [x] ++ List.replicate j 255) + 1
  | 0 => by simp [num_snoc]; omega
  | j + 1 => by
    rw [List.replicate_succ', List.replicate_succ', ← List.append_assoc, ← List.append_assoc, num_snoc, num_snoc, num_rep A x j]
    omega
theorem inc_num {xs : List Int} (h : ∃ y ∈ xs, y ≠ 255) : num (incE xs) = num xs + 1 := by
  obtain ⟨A, x, j, e, hx⟩ := split255 h
  rw [e, incE_mid hx, num_rep]
theorem inc_oct {xs : List Int} (h : ∃ y ∈ xs, y ≠ 255) (ho : ∀ x ∈ xs, 0 ≤ x ∧ x ≤ 255) : ∀ x ∈ incE xs, 0 ≤ x ∧ x ≤ 255 := by
  obtain ⟨A, x, j, e, hx⟩ := split255 h
  subst e
  rw [incE_mid hx]
  intro y hy
  have hxo := ho x (by simp)
  simp at hy
  rcases hy with z | z | z
  · exact ho y (by simp [z])
  · omega
  · omega
theorem num_all255 : ∀ {xs : List Int}, (∀ y ∈ xs, y = 255) → num xs = 256 ^ xs.length - 1 := by
  intro xs
  induction xs using snocInd with
  | nil => intro _; decide
  | snoc xs x ih =>
    intro h
    rw [num_snoc, ih fun y hy => h y (List.mem_append_left _ hy), h x (List.mem_append_right _ List.mem_cons_self), List.length_append, List.length_cons, List.length_nil, Int.pow_succ]
    omega
theorem carry_pre {e : EncS} (h : EncG e) {p : Int} (hp : 31 ≤ p ∧ p ≤ 4065) (c : 4294967296 ≤ e.low + e.span / 4096 * p) : ∃ y ∈ e.front, y ≠ 255 := by
  by_cases z : ∃ y ∈ e.front, y ≠ 255
  · exact z
  · have a : ∀ y ∈ e.front, y = 255 := fun y hy => by
      by_cases q : y = 255
      · exact q
      · exact absurd ⟨y, hy, q⟩ z
    have n := num_all255 a
    have f := h.mid.fit
    have q := part_in ⟨h.big, h.mid.span.2⟩ hp
    rw [n] at f
    have : (256 ^ e.front.length - 1 : Int) * 4294967296 = 256 ^ e.front.length * 4294967296 - 4294967296 := by rw [Int.sub_mul]; omega
    omega
theorem encPre_ok {e : EncS} (h : EncG e) {p : Int} (hp : 31 ≤ p ∧ p ≤ 4065) (d : Int) : EncMid (encPre e p d) := by
  have q := part_in ⟨h.big, h.mid.span.2⟩ hp
  have f := h.mid.fit
  have l := h.mid.low
  have s := h.mid.span
  unfold encPre
  split
  · exact ⟨h.mid.oct, l, by show 0 < e.span / 4096 * p; omega, by show 65536 ≤ e.span / 4096 * p ∧ e.span / 4096 * p < 4294967296; omega, by show num e.front * 4294967296 + e.low + e.span / 4096 * p ≤ 256 ^ e.front.length * 4294967296; omega⟩
  · split
    · rename_i c
      have cp := carry_pre h hp c
      refine ⟨inc_oct cp h.mid.oct, ?_, ?_, ?_, ?_⟩
      · show 0 ≤ e.low + e.span / 4096 * p - 4294967296 ∧ e.low + e.span / 4096 * p - 4294967296 < 4294967296
        omega
      · show 0 < e.span - e.span / 4096 * p
        omega
      · show 65536 ≤ e.span - e.span / 4096 * p ∧ e.span - e.span / 4096 * p < 4294967296
        omega
      · show num (incE e.front) * 4294967296 + (e.low + e.span / 4096 * p - 4294967296) + (e.span - e.span / 4096 * p) ≤ 256 ^ (incE e.front).length * 4294967296
        rw [inc_num cp, inc_len]
        omega
    · refine ⟨h.mid.oct, ?_, ?_, ?_, ?_⟩
      · show 0 ≤ e.low + e.span / 4096 * p ∧ e.low + e.span / 4096 * p < 4294967296
        omega
      · show 0 < e.span - e.span / 4096 * p
        omega
      · show 65536 ≤ e.span - e.span / 4096 * p ∧ e.span - e.span / 4096 * p < 4294967296
        omega
      · show num e.front * 4294967296 + (e.low + e.span / 4096 * p) + (e.span - e.span / 4096 * p) ≤ 256 ^ e.front.length * 4294967296
        omega
theorem norm_span {e : EncS} (h : EncMid e) : 16777216 ≤ (encNorm1 e).span := by
  have := h.span
  show 16777216 ≤ e.span * 256
  omega
theorem shl32 {i j : Int} (h : 0 ≤ i ∧ i < 4294967296) (hj : 0 ≤ j ∧ j ≤ 64) : CShl i j := by
  obtain ⟨k, rfl⟩ := Int.eq_ofNat_of_zero_le hj.1
  exact shl_ok (n := 64) (by omega) (by omega)
theorem encNorm_eq (e : EncS) : (⟨e.probs, e.front ++ [e.low / 16777216], PySem.Builtin.bitAnd (e.low * 256) (4294967296 - 1), e.span * 256⟩ : EncS) = encNorm1 e := by
  unfold encNorm1
  rw [show (4294967296 - 1 : Int) = 4294967295 by decide, bitAnd_m32] <;> rfl
theorem norm_ok {e : EncS} (h : EncMid e) : EncMid (encNorm e) ∧ 16777216 ≤ (encNorm e).span := by
  unfold encNorm
  split
  · rename_i c
    have l := h.low
    have s := h.span
    have f := h.fit
    refine ⟨⟨?_, ?_, ?_, ?_, ?_⟩, norm_span h⟩
    · intro x hx
      rcases List.mem_append.mp hx with z | z
      · exact h.oct x z
      · simp at z
        omega
    · show 0 ≤ e.low * 256 % 4294967296 ∧ e.low * 256 % 4294967296 < 4294967296
      omega
    · show 0 < e.span * 256
      omega
    · show 65536 ≤ e.span * 256 ∧ e.span * 256 < 4294967296
      omega
    · show num (e.front ++ [e.low / 16777216]) * 4294967296 + e.low * 256 % 4294967296 + e.span * 256 ≤ 256 ^ (e.front ++ [e.low / 16777216]).length * 4294967296
      rw [num_snoc, List.length_append, List.length_cons, List.length_nil, Int.pow_succ]
      have e1 : (num e.front * 256 + e.low / 16777216) * 4294967296 + e.low * 256 % 4294967296 = (num e.front * 4294967296 + e.low) * 256 := by omega
      have e2 : (256 : Int) ^ e.front.length * 256 * 4294967296 = 256 ^ e.front.length * 4294967296 * 256 := by rw [Int.mul_right_comm]
      rw [e1, e2]
      omega
  · exact ⟨h, by omega⟩
theorem probs_pre (e : EncS) (p d : Int) : (encPre e p d).probs = e.probs := by
  unfold encPre
  split
  · rfl
  · split <;> rfl
theorem len_pre (e : EncS) (p d : Int) : (encPre e p d).front.length = e.front.length := by
  unfold encPre
  split
  · rfl
  · split
    · exact inc_len _
    · rfl
theorem len_narrow (e : EncS) (p d : Int) : (encNarrow e p d).front.length ≤ e.front.length + 1 := by
  have := len_pre e p d
  unfold encNarrow encNorm
  split
  · show ((encPre e p d).front ++ [(encPre e p d).low / 16777216]).length ≤ e.front.length + 1
    rw [List.length_append, List.length_cons, List.length_nil]
    omega
  · omega
theorem probs_narrow (e : EncS) (p d : Int) : (encNarrow e p d).probs = e.probs := by
  unfold encNarrow encNorm
  split
  · exact probs_pre e p d
  · exact probs_pre e p d
theorem narrow_ok {e : EncS} (h : EncG e) {p : Int} (hp : 31 ≤ p ∧ p ≤ 4065) (d : Int) : EncG (encNarrow e p d) := by
  obtain ⟨m, b⟩ := norm_ok (encPre_ok h hp d)
  exact ⟨by rw [probs_narrow]; exact h.len, by rw [probs_narrow]; exact h.prob, m, b⟩
theorem even_ok {e : EncS} (h : EncG e) (d : Int) : EncG (encNarrow e 2048 d) := narrow_ok h (by decide) d
theorem setL_len {α : Type} (xs : List α) (k : Int) (y : α) : (setL xs k y).length = xs.length := by
  unfold setL
  rw [List.length_set]
theorem setL_mem {α : Type} {xs : List α} {k : Int} {x y : α} (h : x ∈ setL xs k y) : x ∈ xs ∨ x = y := by
  unfold setL at h
  exact List.mem_or_eq_of_mem_set h
theorem code_ok {e : EncS} (h : EncG e) {c d : Int} (h0 : 0 ≤ c) (h1 : c < 256) : EncG (encCode e c d) := by
  have hc := h.chance h0 h1
  have n := narrow_ok h hc d
  refine ⟨?_, ?_, ⟨n.mid.oct, n.mid.low, n.mid.span0, n.mid.span, n.mid.fit⟩, n.big⟩
  · show (setL _ _ _).length = 256
    rw [setL_len]
    exact n.len
  · intro p hp
    rcases setL_mem hp with z | z
    · exact n.prob p z
    · rw [z]
      exact adaptE_in hc
theorem init_ok : EncG encInit := by
  refine ⟨by decide, fun p hp => ?_, ⟨fun x hx => (by cases hx), by decide, by decide, by decide, by decide⟩, by decide⟩
  rw [mem_rep1 hp]
  decide
/-! the octets -/
def stripZ (xs : List Int) : List Int := (xs.reverse.dropWhile (fun x => decide (x = 0))).reverse
def digits4 (n : Int) : List Int := ([24, 16, 8, 0] : List Int).map (fun k => PySem.Builtin.bitAnd (n / 2 ^ Int.toNat k) 255)
def encOctets (e : EncS) : List Int := stripZ (e.front ++ digits4 e.low)
theorem shifts_nn {k : Int} (h : k ∈ ([24, 16, 8, 0] : List Int)) : 0 ≤ k := by
  simp at h
  omega
theorem last_in {xs : List Int} (h : xs ≠ []) : -(xs.length : Int) ≤ -1 ∧ -1 < (xs.length : Int) := by
  have := List.length_pos_iff.mpr h
  omega
theorem itD_last {xs : List Int} (h : xs ≠ []) : itD xs (-1) = xs.getLast h := by
  unfold itD atI ixN
  have := List.length_pos_iff.mpr h
  rw [if_neg (by omega), if_pos (by omega)]
  have e : (-1 + (xs.length : Int)).toNat = xs.length - 1 := by omega
  show (xs[(-1 + (xs.length : Int)).toNat]?).getD default = _
  rw [e, ← List.getLast?_eq_getElem?, List.getLast?_eq_some_getLast h] <;> rfl
theorem strip_pop {xs : List Int} (h : xs ≠ []) (hz : itD xs (-1) = 0) : stripZ xs.dropLast = stripZ xs := by
  rw [itD_last h] at hz
  unfold stripZ
  have e : xs.reverse = 0 :: xs.dropLast.reverse := by
    conv => lhs; rw [← List.dropLast_concat_getLast h, List.reverse_append, hz]
    rfl
  rw [e, List.dropWhile_cons, if_pos (by decide)]
theorem drop_less {xs : List Int} (h : xs ≠ []) : xs.dropLast.length < xs.length := by
  have := List.length_pos_iff.mpr h
  rw [List.length_dropLast]
  omega
theorem strip_nil : stripZ [] = [] := rfl
theorem strip_last {xs : List Int} (h : xs ≠ []) (hz : ¬ itD xs (-1) = 0) : stripZ xs = xs := by
  rw [itD_last h] at hz
  unfold stripZ
  have e : xs.reverse = xs.getLast h :: xs.dropLast.reverse := by
    conv => lhs; rw [← List.dropLast_concat_getLast h, List.reverse_append]
    rfl
  rw [e, List.dropWhile_cons, if_neg (by simpa using hz), ← e, List.reverse_reverse]
theorem strip_done {xs : List Int} (h : xs = [] ∨ ¬ itD xs (-1) = 0) : stripZ xs = xs := by
  by_cases n : xs = []
  · rw [n] <;> rfl
  · rcases h with z | z
    · exact absurd z n
    · exact strip_last n z
abbrev DecS := St_Decoder
structure DecO (d : DecS) : Prop where
  place : 0 ≤ d.place
  oct : ∀ x ∈ d.octs, 0 ≤ x ∧ x ≤ 255
def decOct (d : DecS) : Int := if d.place < (d.octs.length : Int) then itD d.octs d.place else 0
def decShift (d : DecS) : DecS := ⟨d.probs, d.octs, if d.place < (d.octs.length : Int) then d.place + 1 else d.place, d.span, d.value * 256 + decOct d⟩
def decPre (d : DecS) (p : Int) : DecS :=
  if d.value < d.span / 4096 * p then ⟨d.probs, d.octs, d.place, d.span / 4096 * p, d.value⟩ else ⟨d.probs, d.octs, d.place, d.span - d.span / 4096 * p, d.value - d.span / 4096 * p⟩
def decBit (d : DecS) (p : Int) : Int := if d.value < d.span / 4096 * p then 0 else 1
def decNorm1 (d : DecS) : DecS := ⟨(decShift d).probs, (decShift d).octs, (decShift d).place, (decShift d).span * 256, (decShift d).value⟩
def decNorm (d : DecS) : DecS := if d.span < 16777216 then decNorm1 d else d
def decDecide (d : DecS) (p : Int) : DecS := decNorm (decPre d p)
def decRead (d : DecS) (c : Int) : DecS := ⟨setL (decDecide d (itD d.probs c)).probs c (adaptE (itD d.probs c) (decBit d (itD d.probs c))), (decDecide d (itD d.probs c)).octs, (decDecide d (itD d.probs c)).place, (decDecide d (itD d.probs c)).span, (decDecide d (itD d.probs c)).value⟩
def decBlank (o : List Int) : DecS := ⟨repL [2048] 256, o, 0, 4294967296 - 1, 0⟩
def decShifts : Nat → DecS → DecS
  | 0, d => d
  | n + 1, d => decShift (decShifts n d)
def decInit (o : List Int) : DecS := ⟨(decShifts 4 (decBlank o)).probs, (decShifts 4 (decBlank o)).octs, (decShifts 4 (decBlank o)).place, (decShifts 4 (decBlank o)).span, if 4294967296 - 2 < (decShifts 4 (decBlank o)).value then 4294967296 - 2 else (decShifts 4 (decBlank o)).value⟩
structure DecG (d : DecS) : Prop where
  o : DecO d
  len : d.probs.length = 256
  prob : ∀ p ∈ d.probs, 31 ≤ p ∧ p ≤ 4065
  span : 16777216 ≤ d.span ∧ d.span < 4294967296
  value : 0 ≤ d.value ∧ d.value < d.span
structure DecMid (d : DecS) : Prop where
  o : DecO d
  len : d.probs.length = 256
  prob : ∀ p ∈ d.probs, 31 ≤ p ∧ p ≤ 4065
  span : 65536 ≤ d.span ∧ d.span < 4294967296
  value : 0 ≤ d.value ∧ d.value < d.span
theorem DecG.chance {d : DecS} (h : DecG d) {c : Int} (h0 : 0 ≤ c) (h1 : c < 256) : 31 ≤ itD d.probs c ∧ itD d.probs c ≤ 4065 := h.prob _ (itD_mem (by rw [h.len]; omega))
theorem ite01 {p : Prop} [Decidable p] (h : (if p then (0 : Int) else 1) = 0) : p := by
  by_cases c : p
  · exact c
  · rw [if_neg c] at h
    exact absurd h (by decide)
theorem ite10 {p : Prop} [Decidable p] (h : ¬ (if p then (0 : Int) else 1) = 0) : ¬ p := by
  intro c
  rw [if_pos c] at h
  exact h rfl
theorem low_or {v o : Int} (h : 0 ≤ v) (h0 : 0 ≤ o) (h1 : o ≤ 255) : PySem.Builtin.bitOr (v * 256) o = v * 256 + o := by
  obtain ⟨a, rfl⟩ := Int.eq_ofNat_of_zero_le h
  obtain ⟨b, rfl⟩ := Int.eq_ofNat_of_zero_le h0
  have z : (a * 256) &&& b = 0 := by
    apply Nat.eq_of_testBit_eq
    intro i
    rw [Nat.testBit_and, Nat.zero_testBit, show a * 256 = a * 2 ^ 8 from rfl, Nat.testBit_mul_two_pow]
    by_cases hi : 8 ≤ i
    · have e : b.testBit i = false := Nat.testBit_lt_two_pow (Nat.lt_of_lt_of_le (by omega : b < 2 ^ 8) (Nat.pow_le_pow_right (by decide) hi))
      rw [e, Bool.and_false]
    · simp [hi]
  rw [PyProof.Rows.bitOr_and, PyProof.Rows.bitAnd_pp (by omega) (by omega)]
  rw [show ((a : Int) * 256).toNat = a * 256 from by omega, show ((b : Int)).toNat = b from rfl, z]
  exact Int.sub_zero _
theorem oct_in {d : DecS} (h : DecO d) : 0 ≤ decOct d ∧ decOct d ≤ 255 := by
  unfold decOct
  split
  · exact h.oct _ (itD_mem (by have := h.place; omega))
  · decide
theorem shift_in {d : DecS} (c : d.place < (d.octs.length : Int)) (h : DecO d) (hv : 0 ≤ d.value) : decShift d = ⟨d.probs, d.octs, d.place + 1, d.span, PySem.Builtin.bitOr (d.value * 256) (itD d.octs d.place)⟩ := by
  have ho := oct_in h
  unfold decShift decOct at *
  rw [if_pos c] at *
  rw [low_or hv ho.1 ho.2]
  simp [c]
theorem shift_out {d : DecS} (c : ¬ d.place < (d.octs.length : Int)) (hv : 0 ≤ d.value) : decShift d = ⟨d.probs, d.octs, d.place, d.span, PySem.Builtin.bitOr (d.value * 256) 0⟩ := by
  unfold decShift decOct
  rw [if_neg c, if_neg c]
  rw [low_or hv (by decide) (by decide)]
theorem decPre_ok {d : DecS} (h : DecG d) {p : Int} (hp : 31 ≤ p ∧ p ≤ 4065) : DecMid (decPre d p) := by
  have hi := part_in h.span hp
  have hv := h.value
  have hs := h.span
  unfold decPre
  split
  · exact ⟨⟨h.o.place, h.o.oct⟩, h.len, h.prob, ⟨hi.1, by show d.span / 4096 * p < 4294967296; omega⟩, ⟨hv.1, by show d.value < d.span / 4096 * p; omega⟩⟩
  · exact ⟨⟨h.o.place, h.o.oct⟩, h.len, h.prob, ⟨hi.2, by show d.span - d.span / 4096 * p < 4294967296; omega⟩, ⟨by show 0 ≤ d.value - d.span / 4096 * p; omega, by show d.value - d.span / 4096 * p < d.span - d.span / 4096 * p; omega⟩⟩
theorem shift_o {d : DecS} (h : DecO d) : DecO (decShift d) := by
  refine ⟨?_, h.oct⟩
  have := h.place
  show 0 ≤ (if d.place < (d.octs.length : Int) then d.place + 1 else d.place)
  split <;> omega
theorem decNorm_ok {d : DecS} (h : DecMid d) : DecG (decNorm d) := by
  have hv := h.value
  have hs := h.span
  have ho := oct_in h.o
  unfold decNorm
  split
  · exact ⟨⟨(shift_o h.o).place, (shift_o h.o).oct⟩, h.len, h.prob, ⟨by show 16777216 ≤ d.span * 256; omega, by show d.span * 256 < 4294967296; omega⟩, ⟨by show 0 ≤ d.value * 256 + decOct d; omega, by show d.value * 256 + decOct d < d.span * 256; omega⟩⟩
  · exact ⟨h.o, h.len, h.prob, ⟨by omega, hs.2⟩, hv⟩
theorem decide_ok {d : DecS} (h : DecG d) {p : Int} (hp : 31 ≤ p ∧ p ≤ 4065) : DecG (decDecide d p) := decNorm_ok (decPre_ok h hp)
theorem probs_decide (d : DecS) (p : Int) : (decDecide d p).probs = d.probs := by
  unfold decDecide decNorm decPre
  split <;> split <;> rfl
theorem bit_in (d : DecS) (p : Int) : 0 ≤ decBit d p ∧ decBit d p ≤ 1 := by
  unfold decBit
  split <;> decide
theorem read_ok {d : DecS} (h : DecG d) {c : Int} (h0 : 0 ≤ c) (h1 : c < 256) : DecG (decRead d c) := by
  have hp := h.chance h0 h1
  have hd := decide_ok h hp
  refine ⟨⟨hd.o.place, hd.o.oct⟩, ?_, fun p hm => ?_, hd.span, hd.value⟩
  · show (setL _ c _).length = 256
    rw [setL_len]
    exact hd.len
  · rcases setL_mem hm with z | z
    · exact hd.prob p z
    · rw [z]
      exact adaptE_in hp
theorem blank_ok {o : List Int} (h : ∀ x ∈ o, 0 ≤ x ∧ x ≤ 255) : DecO (decBlank o) := ⟨Int.le_refl 0, h⟩
theorem shifts_ok {d : DecS} (h : DecO d) (hv : d.value = 0) : ∀ n : Nat, DecO (decShifts n d) ∧ 0 ≤ (decShifts n d).value ∧ (decShifts n d).value < 256 ^ n
  | 0 => ⟨h, by show 0 ≤ d.value; omega, by show d.value < 1; omega⟩
  | n + 1 => by
    have ih := shifts_ok h hv n
    have ho := oct_in ih.1
    refine ⟨shift_o ih.1, ?_, ?_⟩
    · show 0 ≤ (decShifts n d).value * 256 + decOct (decShifts n d)
      omega
    · show (decShifts n d).value * 256 + decOct (decShifts n d) < 256 ^ (n + 1)
      rw [Int.pow_succ]
      omega
theorem shifts_probs (d : DecS) : ∀ n : Nat, (decShifts n d).probs = d.probs
  | 0 => rfl
  | n + 1 => shifts_probs d n
theorem shifts_span (d : DecS) : ∀ n : Nat, (decShifts n d).span = d.span
  | 0 => rfl
  | n + 1 => shifts_span d n
theorem shifts_octs (d : DecS) : ∀ n : Nat, (decShifts n d).octs = d.octs
  | 0 => rfl
  | n + 1 => shifts_octs d n
theorem pow_turn {i : Nat} (hi : i < 4) {v : Int} (h : v < 256 ^ i) : v < 4294967296 := by
  have : (256 : Int) ^ i ≤ 256 ^ 3 := by
    have := Nat.pow_le_pow_right (n := 256) (by decide) (show i ≤ 3 by omega)
    exact_mod_cast this
  omega
theorem decInit_ok {o : List Int} (h : ∀ x ∈ o, 0 ≤ x ∧ x ≤ 255) : DecG (decInit o) := by
  have hs := shifts_ok (blank_ok h) rfl 4
  refine ⟨⟨hs.1.place, hs.1.oct⟩, ?_, ?_, ?_, ?_⟩
  · show (decShifts 4 (decBlank o)).probs.length = 256
    rw [shifts_probs]
    exact init_ok.len
  · show ∀ p ∈ (decShifts 4 (decBlank o)).probs, _
    rw [shifts_probs]
    exact init_ok.prob
  · show 16777216 ≤ (decShifts 4 (decBlank o)).span ∧ (decShifts 4 (decBlank o)).span < 4294967296
    rw [shifts_span]
    show (16777216 : Int) ≤ 4294967296 - 1 ∧ (4294967296 - 1 : Int) < 4294967296
    decide
  · show 0 ≤ (if 4294967296 - 2 < (decShifts 4 (decBlank o)).value then 4294967296 - 2 else (decShifts 4 (decBlank o)).value) ∧ (if 4294967296 - 2 < (decShifts 4 (decBlank o)).value then 4294967296 - 2 else (decShifts 4 (decBlank o)).value) < (decShifts 4 (decBlank o)).span
    rw [shifts_span]
    show _ ∧ _ < (4294967296 - 1 : Int)
    have := hs.2
    split <;> omega
def ItemsOk (items : List (Int × Int)) : Prop := ∀ it ∈ items, (-1 ≤ it.1 ∧ it.1 ≤ 255) ∧ 0 ≤ it.2 ∧ it.2 ≤ 1
def encItem (e : EncS) (it : Int × Int) : EncS := if 0 ≤ it.1 then encCode e it.1 it.2 else encNarrow e 2048 it.2
def encItems (e : EncS) (items : List (Int × Int)) : EncS := items.foldl encItem e
theorem items_turn {e : EncS} {items : List (Int × Int)} {i : Nat} {it : Int × Int} {e' : EncS} (hi : items[i]? = some it) (h : encItem (encItems e (items.take i)) it = e') : e' = encItems e (items.take (i + 1)) := by
  unfold encItems at h ⊢
  rw [take_succ_get hi, List.foldl_append, ← h] <;> rfl
theorem len_code (e : EncS) (c d : Int) : (encCode e c d).front.length ≤ e.front.length + 1 := len_narrow e _ d
theorem item_ok {e : EncS} {it : Int × Int} (h : EncG e) (hi : (-1 ≤ it.1 ∧ it.1 ≤ 255) ∧ 0 ≤ it.2 ∧ it.2 ≤ 1) : EncG (encItem e it) := by
  unfold encItem
  split
  · exact code_ok h (by omega) (by omega)
  · exact even_ok h _
theorem item_len (e : EncS) (it : Int × Int) : (encItem e it).front.length ≤ e.front.length + 1 := by
  unfold encItem
  split
  · exact len_code _ _ _
  · exact len_narrow _ _ _
theorem items_ok : ∀ {items : List (Int × Int)} {e : EncS}, EncG e → ItemsOk items → EncG (encItems e items)
  | [], _, h, _ => h
  | it :: r, e, h, hi => items_ok (items := r) (item_ok h (hi it List.mem_cons_self)) fun x hx => hi x (List.mem_cons_of_mem _ hx)
theorem items_len : ∀ (items : List (Int × Int)) (e : EncS), (encItems e items).front.length ≤ e.front.length + items.length
  | [], e => Nat.le_refl _
  | it :: r, e => by
    have h1 := item_len e it
    have h2 := items_len r (encItem e it)
    have h3 : encItems e (it :: r) = encItems (encItem e it) r := rfl
    rw [h3, List.length_cons]
    omega
theorem items_app (e : EncS) (xs ys : List (Int × Int)) : encItems e (xs ++ ys) = encItems (encItems e xs) ys := by
  unfold encItems
  rw [List.foldl_append]
structure CodeN (e : EncS) (low span count : Int) : Prop where
  low : low = num e.front * 4294967296 + e.low
  span : span = e.span
  count : count = (e.front.length : Int)
structure CodeR (e : EncS) (chances : List Int) (low span count : Int) : Prop where
  toN : CodeN e low span count
  chances : chances = e.probs ++ [2048]
theorem codeR_init : CodeR encInit (repL [2048] 257) 0 (4294967296 - 1) 0 := ⟨⟨rfl, rfl, rfl⟩, by decide⟩
theorem itD_app {e : List Int} {a c : Int} (h0 : 0 ≤ c) (h1 : c < e.length) : itD (e ++ [a]) c = itD e c := by
  obtain ⟨k, rfl⟩ := Int.eq_ofNat_of_zero_le h0
  have hk : k < e.length := by omega
  rw [itD_nat (List.getElem?_eq_getElem hk), itD_nat (x := e[k]) (by rw [List.getElem?_append_left hk, List.getElem?_eq_getElem hk])]
theorem itD_end {e : List Int} {a : Int} : itD (e ++ [a]) (-1) = a := by
  rw [itD_last (by simp), List.getLast_append] <;> simp
theorem setL_app {e : List Int} {a c y : Int} (h0 : 0 ≤ c) (h1 : c < e.length) : setL (e ++ [a]) c y = setL e c y ++ [a] := by
  obtain ⟨k, rfl⟩ := Int.eq_ofNat_of_zero_le h0
  have hk : k < e.length := by omega
  unfold setL
  rw [ixN_nat' hk, ixN_nat' (by rw [List.length_append]; omega)]
  exact List.set_append_left _ _ hk
theorem codeR_chance {e : EncS} {chances : List Int} {low span count c : Int} (hg : EncG e) (hr : CodeR e chances low span count) (hc : -1 ≤ c ∧ c ≤ 255) :
    (-(chances.length : Int) ≤ c ∧ c < chances.length) ∧ 31 ≤ itD chances c ∧ itD chances c ≤ 4065 := by
  have hl := hg.len
  refine ⟨by rw [hr.chances, List.length_append, hl]; simp; omega, ?_⟩
  rw [hr.chances]
  by_cases h : 0 ≤ c
  · rw [itD_app h (by omega)]
    exact hg.chance h (by omega)
  · rw [show c = -1 from by omega, itD_end]
    decide
theorem codeN_pre {e : EncS} {p d low span count low' span' : Int} (hg : EncG e) (hp : 31 ≤ p ∧ p ≤ 4065) (h : CodeN e low span count) (hl : low' = if d = 0 then low else low + span / 4096 * p)
    (hs : span' = if d = 0 then span / 4096 * p else span - span / 4096 * p) : CodeN (encPre e p d) low' span' count := by
  have h1 := h.low
  have h2 := h.span
  have h3 := h.count
  unfold encPre
  split
  · rw [if_pos ‹_›] at hl hs
    exact ⟨by rw [hl, h1], by rw [hs, h2], h3⟩
  · rw [if_neg ‹_›] at hl hs
    split
    · have hy := carry_pre hg hp ‹_›
      have hn := inc_num hy
      rw [h2] at hl hs
      exact ⟨by show low' = num (incE e.front) * 4294967296 + (e.low + e.span / 4096 * p - 4294967296); rw [hl, hn, h1, Int.add_mul]; omega, hs, by show count = ((incE e.front).length : Int); rw [inc_len]; exact h3⟩
    · rw [h2] at hl hs
      exact ⟨by show low' = num e.front * 4294967296 + (e.low + e.span / 4096 * p); rw [hl, h1]; omega, hs, h3⟩
theorem codeN_norm {e : EncS} {low span count : Int} (h : CodeN e low span count) : CodeN (encNorm1 e) (low * 256) (span * 256) (count + 1) := by
  have h1 := h.low
  have h2 := h.span
  have h3 := h.count
  refine ⟨?_, by rw [h2]; rfl, by show count + 1 = (((e.front ++ [e.low / 16777216]).length : Nat) : Int); rw [List.length_append]; simp; omega⟩
  show low * 256 = num (e.front ++ [e.low / 16777216]) * 4294967296 + e.low * 256 % 4294967296
  rw [num_snoc]
  omega
theorem codeN_turn {em : EncS} {low span count cn0 low' span' count' : Int} {i : Nat} (hm : EncMid em) (h : CodeN (if i = 0 then em else encNorm em) low span count) (h0 : cn0 ≤ count) (h1 : count ≤ cn0 + 1) (h2 : i = 0 → count = cn0)
    (hs : (span < 16777216 ∧ low' = low * 256 ∧ span' = span * 256 ∧ count' = count + 1) ∨ (¬ span < 16777216 ∧ low' = low ∧ span' = span ∧ count' = count)) :
    CodeN (if i + 1 = 0 then em else encNorm em) low' span' count' ∧ cn0 ≤ count' ∧ count' ≤ cn0 + 1 ∧ (i + 1 = 0 → count' = cn0) := by
  rw [if_neg (by omega)]
  have hb := (norm_ok hm).2
  by_cases hi : i = 0
  · rw [if_pos hi] at h
    have hc := h2 hi
    have hsp := h.span
    rcases hs with ⟨a, rfl, rfl, rfl⟩ | ⟨a, rfl, rfl, rfl⟩
    · have e1 : encNorm em = encNorm1 em := if_pos (by omega)
      rw [e1]
      exact ⟨codeN_norm h, by omega, by omega, by omega⟩
    · have e1 : encNorm em = em := if_neg (by omega)
      rw [e1]
      exact ⟨h, by omega, by omega, by omega⟩
  · rw [if_neg hi] at h
    have hsp := h.span
    rcases hs with ⟨a, rfl, rfl, rfl⟩ | ⟨a, rfl, rfl, rfl⟩
    · omega
    · exact ⟨h, by omega, by omega, by omega⟩
def codeChances (chances : List Int) (c d : Int) : List Int := if 0 ≤ c then setL chances c (adaptE (itD chances c) d) else chances
theorem codeR_turn {items : List (Int × Int)} {i : Nat} {item : Int × Int} {chances chances' : List Int} {low span count low' span' count' : Int} {em : EncS} (hi : items[i]? = some item) (hg : EncG (encItems encInit (items.take i)))
    (hr : CodeR (encItems encInit (items.take i)) chances low span count) (hit : (-1 ≤ item.1 ∧ item.1 ≤ 255) ∧ 0 ≤ item.2 ∧ item.2 ≤ 1)
    (hme : em = encPre (encItems encInit (items.take i)) (itD chances item.1) item.2) (hc : codeChances chances item.1 item.2 = chances') (hn : CodeN (encNorm em) low' span' count') :
    CodeR (encItems encInit (items.take (i + 1))) chances' low' span' count' := by
  have hl := hg.len
  rw [← items_turn hi rfl]
  generalize encItems encInit (items.take i) = e at *
  rw [hr.chances] at hc hme
  unfold encItem
  unfold codeChances at hc
  by_cases h : 0 ≤ item.1
  · rw [if_pos h] at hc ⊢
    rw [itD_app h (by omega)] at hc hme
    rw [setL_app h (by omega)] at hc
    rw [hme] at hn
    refine ⟨⟨hn.low, hn.span, hn.count⟩, ?_⟩
    rw [← hc]
    show _ = setL (encNarrow e (itD e.probs item.1) item.2).probs item.1 _ ++ [2048]
    rw [probs_narrow]
  · rw [if_neg h] at hc ⊢
    rw [show item.1 = -1 from by omega, itD_end] at hme
    rw [hme] at hn
    refine ⟨hn, ?_⟩
    rw [← hc, probs_narrow]
def digs (n : Int) (k : Nat) : List Int := (List.range k).map fun j => n / 2 ^ (8 * (k - 1 - j)) % 256
theorem digs_snoc (n x : Int) (k : Nat) (hx : 0 ≤ x ∧ x ≤ 255) : digs (n * 256 + x) (k + 1) = digs n k ++ [x] := by
  unfold digs
  rw [List.range_succ, List.map_append]
  congr 1
  · apply List.map_congr_left
    intro j hj
    have hj := List.mem_range.mp hj
    show (n * 256 + x) / 2 ^ (8 * (k + 1 - 1 - j)) % 256 = n / 2 ^ (8 * (k - 1 - j)) % 256
    rw [show 8 * (k + 1 - 1 - j) = 8 + 8 * (k - 1 - j) from by omega, Int.pow_add, ← Int.ediv_ediv_of_nonneg (by decide)]
    rw [show (n * 256 + x) / 2 ^ 8 = n from by omega]
  · show [(n * 256 + x) / 2 ^ (8 * (k + 1 - 1 - k)) % 256] = [x]
    rw [show 8 * (k + 1 - 1 - k) = 0 from by omega]
    congr 1
    simp
    omega
theorem digs_num : ∀ {xs : List Int}, (∀ x ∈ xs, 0 ≤ x ∧ x ≤ 255) → digs (num xs) xs.length = xs := by
  intro xs
  refine snocInd (motive := fun xs => (∀ x ∈ xs, 0 ≤ x ∧ x ≤ 255) → digs (num xs) xs.length = xs) (fun _ => rfl) (fun ys y ih h => ?_) xs
  rw [num_snoc, List.length_append]
  show digs _ (ys.length + 1) = _
  rw [digs_snoc _ _ _ (h y (by simp)), ih fun x hx => h x (by simp [hx])]
theorem digits4_eq {n : Int} : digits4 n = [n / 16777216 % 256, n / 65536 % 256, n / 256 % 256, n % 256] := by
  unfold digits4
  simp only [List.map_cons, List.map_nil, bitAnd_m8]
  simp
theorem digits4_len (n : Int) : (digits4 n).length = 4 := rfl
theorem code_digits {e : EncS} (h : EncMid e) : digs (num e.front * 4294967296 + e.low) (e.front.length + 4) = e.front ++ digits4 e.low := by
  have ho : ∀ x ∈ e.front ++ digits4 e.low, 0 ≤ x ∧ x ≤ 255 := by
    intro x hx
    rcases List.mem_append.mp hx with z | z
    · exact h.oct x z
    · rw [digits4_eq] at z
      simp only [List.mem_cons, List.not_mem_nil, or_false] at z
      omega
  have hl := h.low
  have hd := digs_num ho
  rw [List.length_append, digits4_len] at hd
  rw [← hd]
  congr 1
  rw [digits4_eq, show e.front ++ [e.low / 16777216 % 256, e.low / 65536 % 256, e.low / 256 % 256, e.low % 256] = e.front ++ [e.low / 16777216 % 256] ++ [e.low / 65536 % 256] ++ [e.low / 256 % 256] ++ [e.low % 256] from by simp]
  rw [num_snoc, num_snoc, num_snoc, num_snoc]
  omega
theorem ne_len {xs : List Int} (h : 0 < (xs.length : Int)) : xs ≠ [] := by
  intro z
  rw [z] at h
  simp at h
theorem nil_len {xs : List Int} (h : ¬ 0 < (xs.length : Int)) : xs = [] := by
  cases xs with
  | nil => rfl
  | cons a r => exact absurd (by rw [List.length_cons]; omega) h
theorem code_oct {e : EncS} {low span count : Int} (hm : EncMid e) (hn : CodeN e low span count) :
    (List.range (count + 4).toNat).map (fun (j : Nat) => PySem.Builtin.bitAnd (low / 2 ^ Int.toNat (8 * (count + 3 - (0 + (j : Int))))) 255) = e.front ++ digits4 e.low := by
  rw [← code_digits hm, hn.low, hn.count]
  unfold digs
  rw [show ((e.front.length : Int) + 4).toNat = e.front.length + 4 from by omega]
  apply List.map_congr_left
  intro j hj
  have hj := List.mem_range.mp hj
  rw [bitAnd_m8, show Int.toNat (8 * ((e.front.length : Int) + 3 - (0 + (j : Int)))) = 8 * (e.front.length + 4 - 1 - j) from by omega]
theorem strip_len (xs : List Int) : (stripZ xs).length ≤ xs.length := by
  unfold stripZ
  rw [List.length_reverse]
  have h := (List.dropWhile_sublist (fun x => decide (x = 0)) (l := xs.reverse)).length_le
  rw [List.length_reverse] at h
  exact h
theorem oct_turn {octets o E : List Int} {i : Nat} {count : Int} (hs : stripZ octets = E) (hl : octets = E ∨ (octets.length : Int) + i ≤ count + 4)
    (h : (octets ≠ [] ∧ itD octets (-1) = 0 ∧ o = octets.dropLast) ∨ ((¬ itD octets (-1) = 0 ∨ octets = []) ∧ o = octets)) : stripZ o = E ∧ (o = E ∨ (o.length : Int) + ((i + 1 : Nat) : Int) ≤ count + 4) := by
  rcases h with ⟨h1, h2, rfl⟩ | ⟨h1, rfl⟩
  · have e1 := strip_pop h1 h2
    have e2 := drop_less h1
    have e3 := strip_len octets.dropLast
    refine ⟨e1.trans hs, .inr ?_⟩
    rcases hl with z | z
    · rw [e1, hs, ← z] at e3
      omega
    · omega
  · have e1 := strip_done (xs := o) (by rcases h1 with z | z; exact .inr z; exact .inl z)
    exact ⟨hs, .inl (e1.symm.trans hs)⟩
theorem oct_end {octets E : List Int} {count : Int} (hs : stripZ octets = E) (hl : octets = E ∨ (octets.length : Int) + ((count + 4).toNat : Int) ≤ count + 4) (hc : 0 ≤ count) : octets = E := by
  rcases hl with z | z
  · exact z
  · have e : octets = [] := nil_len (by omega)
    rw [← hs, e]
    rfl
theorem chances_cut {e : EncS} {chances : List Int} {low span count : Int} (hg : EncG e) (hr : CodeR e chances low span count) : cutL chances none (some 256) = e.probs := by
  rw [hr.chances]
  have hl := hg.len
  unfold cutL
  rw [HT.sIx_none, show (256 : Int) = ((256 : Nat) : Int) from rfl, HT.sIx_nat, List.length_append, hl]
  show List.take 256 (List.drop 0 (e.probs ++ [2048])) = e.probs
  rw [List.drop_zero, List.take_append_of_le_length (by omega), List.take_of_length_le (by omega)]
def decItem (d : DecS) (it : Int × Int) : DecS := if 0 ≤ it.1 then decRead d it.1 else decDecide d 2048
def decItemBit (d : DecS) (it : Int × Int) : Int := if 0 ≤ it.1 then decBit d (itD d.probs it.1) else decBit d 2048
def accO (o : List Int) : Nat → Int
  | 0 => 0
  | k + 1 => accO o k * 256 + (o[k]?).getD 0
def bigL (e : EncS) : Int := num e.front * 4294967296 + e.low
def vAt (E e : EncS) : Int := bigL E / 256 ^ (E.front.length - e.front.length)
structure Within (E e : EncS) : Prop where
  n : e.front.length ≤ E.front.length
  lo : bigL e ≤ vAt E e
  hi : vAt E e < bigL e + e.span
theorem codeN_self (e : EncS) : CodeN e (bigL e) e.span (e.front.length : Int) := ⟨rfl, rfl, rfl⟩
theorem within_self {E : EncS} (h : 0 < E.span) : Within E E := by
  have e : vAt E E = bigL E := by
    unfold vAt
    rw [Nat.sub_self]
    exact Int.ediv_one _
  exact ⟨Nat.le_refl _, by rw [e]; exact Int.le_refl _, by rw [e]; omega⟩
theorem within_norm1 {E e : EncS} (h : Within E (encNorm1 e)) : Within E e := by
  have c := codeN_norm (codeN_self e)
  have hn : (encNorm1 e).front.length = e.front.length + 1 := by
    have := c.count
    omega
  have h1 := h.n
  have h2 := h.lo
  have h3 := h.hi
  rw [show bigL (encNorm1 e) = bigL e * 256 from c.low.symm] at h2 h3
  rw [show (encNorm1 e).span = e.span * 256 from rfl] at h3
  have hv : vAt E e = vAt E (encNorm1 e) / 256 := by
    unfold vAt
    rw [hn, show E.front.length - e.front.length = (E.front.length - (e.front.length + 1)) + 1 from by omega, Int.pow_succ, Int.ediv_ediv_of_nonneg]
    have : (0 : Nat) < 256 ^ (E.front.length - (e.front.length + 1)) := Nat.pow_pos (by decide)
    exact_mod_cast Nat.le_of_lt this
  exact ⟨by omega, by rw [hv]; omega, by rw [hv]; omega⟩
theorem within_norm {E e : EncS} (h : Within E (encNorm e)) : Within E e := by
  unfold encNorm at h
  split at h
  · exact within_norm1 h
  · exact h
theorem within_pre {E e : EncS} {p d : Int} (hg : EncG e) (hp : 31 ≤ p ∧ p ≤ 4065) (h : Within E (encPre e p d)) : Within E e ∧ (d = 0 → vAt E e < bigL e + e.span / 4096 * p) ∧ (d ≠ 0 → bigL e + e.span / 4096 * p ≤ vAt E e) := by
  have hsp := hg.mid.span
  have hb := hg.big
  have hi := part_in ⟨hb, hsp.2⟩ hp
  have c := codeN_pre (d := d) hg hp (codeN_self e) rfl rfl
  have hn : (encPre e p d).front.length = e.front.length := len_pre e p d
  have h1 := h.n
  have h2 := h.lo
  have h3 := h.hi
  have hv : vAt E (encPre e p d) = vAt E e := by
    unfold vAt
    rw [hn]
  rw [hv, show bigL (encPre e p d) = _ from c.low.symm] at h2 h3
  rw [← c.span] at h3
  rw [hn] at h1
  by_cases hd : d = 0
  · rw [if_pos hd] at h2 h3
    rw [if_pos hd] at h3
    exact ⟨⟨h1, h2, by omega⟩, fun _ => h3, fun z => absurd hd z⟩
  · rw [if_neg hd] at h2 h3
    rw [if_neg hd] at h3
    exact ⟨⟨h1, by omega, by omega⟩, fun z => absurd z hd, fun _ => h2⟩
theorem within_congr {E e e' : EncS} (hf : e'.front = e.front) (hl : e'.low = e.low) (hs : e'.span = e.span) (h : Within E e') : Within E e := by
  have h1 := h.n
  have h2 := h.lo
  have h3 := h.hi
  unfold bigL vAt at *
  rw [hf] at h1
  rw [hf, hl] at h2
  rw [hf, hl, hs] at h3
  exact ⟨h1, h2, h3⟩
def chanceOf (e : EncS) (it : Int × Int) : Int := if 0 ≤ it.1 then itD e.probs it.1 else 2048
theorem chance_in {e : EncS} {it : Int × Int} (h : EncG e) (hc : it.1 ≤ 255) : 31 ≤ chanceOf e it ∧ chanceOf e it ≤ 4065 := by
  unfold chanceOf
  split
  · exact h.chance ‹_› (by omega)
  · decide
theorem within_item0 {E e : EncS} {it : Int × Int} (h : Within E (encItem e it)) : Within E (encNorm (encPre e (chanceOf e it) it.2)) := by
  unfold encItem at h
  unfold chanceOf
  split at h
  · rw [if_pos ‹_›]
    exact within_congr (e' := encCode e it.1 it.2) rfl rfl rfl h
  · rw [if_neg ‹_›]
    exact h
theorem within_item {E e : EncS} {it : Int × Int} (hg : EncG e) (hc : it.1 ≤ 255) (h : Within E (encItem e it)) :
    Within E e ∧ (it.2 = 0 → vAt E e < bigL e + e.span / 4096 * chanceOf e it) ∧ (it.2 ≠ 0 → bigL e + e.span / 4096 * chanceOf e it ≤ vAt E e) :=
  within_pre hg (chance_in hg hc) (within_norm (within_item0 h))
theorem within_items : ∀ {items : List (Int × Int)} {E e : EncS}, EncG e → ItemsOk items → Within E (encItems e items) → Within E e
  | [], _, _, _, _, h => h
  | it :: r, E, e, hg, hi, h => by
    have h0 := hi it List.mem_cons_self
    exact (within_item hg h0.1.2 (within_items (items := r) (item_ok hg h0) (fun x hx => hi x (List.mem_cons_of_mem _ hx)) h)).1
theorem acc_div {o : List Int} (h : ∀ x ∈ o, 0 ≤ x ∧ x ≤ 255) (k : Nat) : ∀ m : Nat, accO o (k + m) / 256 ^ m = accO o k
  | 0 => Int.ediv_one _
  | m + 1 => by
    have ho : 0 ≤ (o[k + m]?).getD 0 ∧ (o[k + m]?).getD 0 ≤ 255 := by
      cases hx : o[k + m]? with
      | none => decide
      | some x => exact h x (List.mem_of_getElem? hx)
    rw [Int.pow_succ, Int.mul_comm, ← Int.ediv_ediv_of_nonneg (by decide)]
    rw [show accO o (k + (m + 1)) = accO o (k + m) * 256 + (o[k + m]?).getD 0 from rfl, show (accO o (k + m) * 256 + (o[k + m]?).getD 0) / 256 = accO o (k + m) from by omega]
    exact acc_div h k m
theorem acc_app (ys zs : List Int) : ∀ k : Nat, k ≤ ys.length → accO (ys ++ zs) k = accO ys k
  | 0, _ => rfl
  | k + 1, h => by
    show accO (ys ++ zs) k * 256 + ((ys ++ zs)[k]?).getD 0 = accO ys k * 256 + (ys[k]?).getD 0
    rw [acc_app ys zs k (by omega), List.getElem?_append_left (by omega)]
theorem acc_num (xs : List Int) : accO xs xs.length = num xs := by
  refine snocInd (motive := fun xs => accO xs xs.length = num xs) rfl (fun ys y ih => ?_) xs
  rw [List.length_append, num_snoc]
  show accO (ys ++ [y]) ys.length * 256 + ((ys ++ [y])[ys.length]?).getD 0 = _
  rw [acc_app ys [y] _ (Nat.le_refl _), ih, List.getElem?_append_right (Nat.le_refl _), Nat.sub_self]
  rfl
theorem acc_congr {xs ys : List Int} (h : ∀ j : Nat, (xs[j]?).getD 0 = (ys[j]?).getD 0) : ∀ k : Nat, accO xs k = accO ys k
  | 0 => rfl
  | k + 1 => by
    show accO xs k * 256 + _ = accO ys k * 256 + _
    rw [acc_congr h k, h k]
theorem get_zeros (ys : List Int) (m j : Nat) : ((ys ++ List.replicate m 0)[j]?).getD 0 = (ys[j]?).getD 0 := by
  by_cases h : j < ys.length
  · rw [List.getElem?_append_left h]
  · rw [List.getElem?_append_right (by omega), List.getElem?_eq_none (l := ys) (by omega)]
    by_cases hm : j - ys.length < m
    · rw [List.getElem?_eq_getElem (by rw [List.length_replicate]; exact hm), List.getElem_replicate]
      rfl
    · rw [List.getElem?_eq_none (by rw [List.length_replicate]; omega)]
theorem dw_split : ∀ ys : List Int, ∃ m : Nat, ys = List.replicate m 0 ++ ys.dropWhile (fun x => decide (x = 0))
  | [] => ⟨0, rfl⟩
  | y :: r => by
    rw [List.dropWhile_cons]
    split
    · obtain ⟨m, e⟩ := dw_split r
      refine ⟨m + 1, ?_⟩
      have hy : decide (y = 0) = true := ‹_›
      rw [List.replicate_succ, List.cons_append, ← e, of_decide_eq_true hy]
    · exact ⟨0, rfl⟩
theorem strip_split (xs : List Int) : ∃ m : Nat, xs = stripZ xs ++ List.replicate m 0 := by
  obtain ⟨m, e⟩ := dw_split xs.reverse
  refine ⟨m, ?_⟩
  have e2 := congrArg List.reverse e
  rw [List.reverse_reverse, List.reverse_append, List.reverse_replicate] at e2
  exact e2
theorem acc_code {E : EncS} (hm : EncMid E) (m : Nat) : accO (encOctets E ++ List.replicate m 0) (E.front.length + 4) = bigL E := by
  obtain ⟨q, e⟩ := strip_split (E.front ++ digits4 E.low)
  have a1 : accO (encOctets E ++ List.replicate m 0) (E.front.length + 4) = accO (E.front ++ digits4 E.low) (E.front.length + 4) := by
    apply acc_congr
    intro j
    rw [get_zeros, e, get_zeros]
    rfl
  have a2 := acc_num (E.front ++ digits4 E.low)
  rw [List.length_append, digits4_len] at a2
  have hl := hm.low
  rw [a1, a2, digits4_eq, show E.front ++ [E.low / 16777216 % 256, E.low / 65536 % 256, E.low / 256 % 256, E.low % 256] = E.front ++ [E.low / 16777216 % 256] ++ [E.low / 65536 % 256] ++ [E.low / 256 % 256] ++ [E.low % 256] from by simp]
  rw [num_snoc, num_snoc, num_snoc, num_snoc]
  unfold bigL
  omega
theorem strip_mem {xs : List Int} {x : Int} (h : x ∈ stripZ xs) : x ∈ xs := by
  obtain ⟨m, e⟩ := strip_split xs
  rw [e]
  exact List.mem_append_left _ h
theorem code_oct_in {E : EncS} (h : EncMid E) : ∀ x ∈ encOctets E, 0 ≤ x ∧ x ≤ 255 := by
  intro x hx
  rcases List.mem_append.mp (strip_mem hx) with z | z
  · exact h.oct x z
  · rw [digits4_eq] at z
    have hl := h.low
    simp only [List.mem_cons, List.not_mem_nil, or_false] at z
    omega
structure Rel (o : List Int) (e : EncS) (d : DecS) : Prop where
  g : DecG d
  octs : d.octs = o
  probs : d.probs = e.probs
  span : d.span = e.span
  place : d.place = if (o.length : Int) < (e.front.length : Int) + 4 then (o.length : Int) else (e.front.length : Int) + 4
  value : d.value = accO o (e.front.length + 4) - bigL e
theorem dec_oct {o : List Int} {d : DecS} {n : Nat} (ho : d.octs = o) (hp : d.place = if (o.length : Int) < (n : Int) then (o.length : Int) else (n : Int)) : decOct d = (o[n]?).getD 0 := by
  unfold decOct
  rw [ho, hp]
  by_cases h : n < o.length
  · rw [if_neg (show ¬ (o.length : Int) < (n : Int) from by omega), if_pos (by omega), itD_nat (List.getElem?_eq_getElem h), List.getElem?_eq_getElem h]
    rfl
  · rw [if_neg (by split <;> omega), List.getElem?_eq_none (by omega)]
    rfl
theorem place_turn {n : Nat} {l pl : Int} (h : pl = if l < (n : Int) then l else (n : Int)) (h0 : 0 ≤ l) : (if pl < l then pl + 1 else pl) = if l < ((n + 1 : Nat) : Int) then l else ((n + 1 : Nat) : Int) := by
  rw [h]
  split <;> split <;> split <;> omega
theorem shifts_val (o : List Int) : ∀ n : Nat, (decShifts n (decBlank o)).value = accO o n ∧ (decShifts n (decBlank o)).place = if (o.length : Int) < (n : Int) then (o.length : Int) else (n : Int)
  | 0 => ⟨rfl, by rw [if_neg (by omega)]; rfl⟩
  | n + 1 => by
    have ih := shifts_val o n
    have ho := shifts_octs (decBlank o) n
    have hd := dec_oct (o := o) ho ih.2
    refine ⟨?_, ?_⟩
    · show (decShifts n (decBlank o)).value * 256 + decOct (decShifts n (decBlank o)) = accO o n * 256 + _
      rw [ih.1, hd]
    · show (if (decShifts n (decBlank o)).place < ((decShifts n (decBlank o)).octs.length : Int) then (decShifts n (decBlank o)).place + 1 else (decShifts n (decBlank o)).place) = _
      rw [ho]
      exact place_turn ih.2 (by show (0 : Int) ≤ (o.length : Int); omega)
theorem acc_at {E e : EncS} {o : List Int} (ho : ∀ x ∈ o, 0 ≤ x ∧ x ≤ 255) (hc : accO o (E.front.length + 4) = bigL E) (h : e.front.length ≤ E.front.length) : accO o (e.front.length + 4) = vAt E e := by
  have a := acc_div ho (e.front.length + 4) (E.front.length - e.front.length)
  rw [show e.front.length + 4 + (E.front.length - e.front.length) = E.front.length + 4 from by omega, hc] at a
  exact a.symm
theorem rel_init {E : EncS} {o : List Int} (ho : ∀ x ∈ o, 0 ≤ x ∧ x ≤ 255) (hc : accO o (E.front.length + 4) = bigL E) (h : Within E encInit) : Rel o encInit (decInit o) := by
  have s := shifts_val o 4
  have a := acc_at ho hc h.n
  have hv : accO o 4 = vAt E encInit := a
  have hi : vAt E encInit < 0 + (4294967296 - 1) := h.hi
  refine ⟨decInit_ok ho, shifts_octs _ 4, shifts_probs _ 4, shifts_span _ 4, s.2, ?_⟩
  show (if 4294967296 - 2 < (decShifts 4 (decBlank o)).value then 4294967296 - 2 else (decShifts 4 (decBlank o)).value) = accO o 4 - 0
  rw [s.1, if_neg (by omega)]
  omega
theorem rel_norm {o : List Int} {e : EncS} {d : DecS} (hg : DecG (decNorm d)) (octs : d.octs = o) (probs : d.probs = e.probs) (span : d.span = e.span)
    (place : d.place = if (o.length : Int) < (e.front.length : Int) + 4 then (o.length : Int) else (e.front.length : Int) + 4) (value : d.value = accO o (e.front.length + 4) - bigL e) : Rel o (encNorm e) (decNorm d) := by
  unfold decNorm at hg ⊢
  unfold encNorm
  rw [span] at hg ⊢
  by_cases h : e.span < 16777216
  · rw [if_pos h] at hg
    rw [if_pos h, if_pos h]
    have c := codeN_norm (codeN_self e)
    have hn : (encNorm1 e).front.length = e.front.length + 1 := by
      have := c.count
      omega
    have hb : bigL (encNorm1 e) = bigL e * 256 := c.low.symm
    have hd := dec_oct (n := e.front.length + 4) octs (by rw [place] <;> rfl)
    refine ⟨hg, octs, probs, ?_, ?_, ?_⟩
    · show d.span * 256 = e.span * 256
      rw [span]
    · show (if d.place < (d.octs.length : Int) then d.place + 1 else d.place) = _
      rw [hn, octs]
      exact place_turn (n := e.front.length + 4) place (by omega)
    · show d.value * 256 + decOct d = accO o ((encNorm1 e).front.length + 4) - bigL (encNorm1 e)
      rw [hn, hb, hd, value, show e.front.length + 1 + 4 = e.front.length + 4 + 1 from by omega]
      show _ = accO o (e.front.length + 4) * 256 + _ - _
      omega
  · rw [if_neg h] at hg
    rw [if_neg h, if_neg h]
    exact ⟨hg, octs, probs, span, place, value⟩
theorem rel_step {E e : EncS} {o : List Int} {d : DecS} {p b : Int} (ho : ∀ x ∈ o, 0 ≤ x ∧ x ≤ 255) (hc : accO o (E.front.length + 4) = bigL E) (hr : Rel o e d) (hg : EncG e) (hp : 31 ≤ p ∧ p ≤ 4065) (hb : 0 ≤ b ∧ b ≤ 1) (hw : Within E e)
    (h0 : b = 0 → vAt E e < bigL e + e.span / 4096 * p) (h1 : b ≠ 0 → bigL e + e.span / 4096 * p ≤ vAt E e) : decBit d p = b ∧ Rel o (encNarrow e p b) (decDecide d p) := by
  have hv := hr.value
  rw [acc_at ho hc hw.n] at hv
  have hs := hr.span
  have c := codeN_pre (d := b) hg hp (codeN_self e) rfl rfl
  have hn : (encPre e p b).front.length = e.front.length := len_pre e p b
  have hl : bigL (encPre e p b) = _ := c.low.symm
  have hsp := c.span.symm
  have hgd := decNorm_ok (decPre_ok hr.g hp)
  by_cases hb0 : b = 0
  · have hlt : d.value < d.span / 4096 * p := by
      rw [hs, hv]
      have := h0 hb0
      omega
    rw [if_pos hb0] at hl hsp
    refine ⟨by unfold decBit; rw [if_pos hlt, hb0], ?_⟩
    unfold encNarrow decDecide
    have e1 : decPre d p = ⟨d.probs, d.octs, d.place, d.span / 4096 * p, d.value⟩ := by
      unfold decPre
      rw [if_pos hlt]
    rw [e1] at hgd ⊢
    refine rel_norm hgd hr.octs ?_ ?_ ?_ ?_
    · show d.probs = _
      rw [probs_pre]
      exact hr.probs
    · show d.span / 4096 * p = _
      rw [hsp, hs]
    · show d.place = _
      rw [hn]
      exact hr.place
    · show d.value = _
      rw [hn, hl]
      exact hr.value
  · have hlt : ¬ d.value < d.span / 4096 * p := by
      rw [hs, hv]
      have := h1 hb0
      omega
    rw [if_neg hb0] at hl hsp
    refine ⟨by unfold decBit; rw [if_neg hlt]; omega, ?_⟩
    unfold encNarrow decDecide
    have e1 : decPre d p = ⟨d.probs, d.octs, d.place, d.span - d.span / 4096 * p, d.value - d.span / 4096 * p⟩ := by
      unfold decPre
      rw [if_neg hlt]
    rw [e1] at hgd ⊢
    refine rel_norm hgd hr.octs ?_ ?_ ?_ ?_
    · show d.probs = _
      rw [probs_pre]
      exact hr.probs
    · show d.span - d.span / 4096 * p = _
      rw [hsp, hs]
    · show d.place = _
      rw [hn]
      exact hr.place
    · show d.value - d.span / 4096 * p = _
      rw [hn, hl, hr.value, hs]
      omega
theorem rel_item {E e : EncS} {o : List Int} {d : DecS} {it : Int × Int} (ho : ∀ x ∈ o, 0 ≤ x ∧ x ≤ 255) (hc : accO o (E.front.length + 4) = bigL E) (hr : Rel o e d) (hg : EncG e) (hi : (-1 ≤ it.1 ∧ it.1 ≤ 255) ∧ 0 ≤ it.2 ∧ it.2 ≤ 1)
    (h : Within E (encItem e it)) : decItemBit d it = it.2 ∧ Rel o (encItem e it) (decItem d it) := by
  have w := within_item hg hi.1.2 h
  have r := rel_step ho hc hr hg (chance_in hg hi.1.2) hi.2 w.1 w.2.1 w.2.2
  unfold decItemBit decItem encItem
  unfold chanceOf at r
  by_cases z : 0 ≤ it.1
  · rw [if_pos z] at r
    rw [if_pos z, if_pos z, if_pos z, hr.probs]
    refine ⟨r.1, ?_⟩
    have q := r.2
    have hg2 := read_ok hr.g z (by omega : it.1 < 256)
    have hp := hr.probs
    refine ⟨hg2, ?_, ?_, ?_, ?_, ?_⟩
    · show (decDecide d (itD d.probs it.1)).octs = o
      rw [hp]
      exact q.octs
    · show setL (decDecide d (itD d.probs it.1)).probs it.1 (adaptE (itD d.probs it.1) (decBit d (itD d.probs it.1))) = setL (encNarrow e (itD e.probs it.1) it.2).probs it.1 (adaptE (itD e.probs it.1) it.2)
      rw [hp, r.1, q.probs]
    · show (decDecide d (itD d.probs it.1)).span = (encNarrow e (itD e.probs it.1) it.2).span
      rw [hp]
      exact q.span
    · show (decDecide d (itD d.probs it.1)).place = if (o.length : Int) < ((encNarrow e (itD e.probs it.1) it.2).front.length : Int) + 4 then (o.length : Int) else ((encNarrow e (itD e.probs it.1) it.2).front.length : Int) + 4
      rw [hp]
      exact q.place
    · show (decDecide d (itD d.probs it.1)).value = accO o ((encNarrow e (itD e.probs it.1) it.2).front.length + 4) - bigL (encNarrow e (itD e.probs it.1) it.2)
      rw [hp]
      exact q.value
  · rw [if_neg z] at r
    rw [if_neg z, if_neg z, if_neg z]
    exact r
theorem items_split (e : EncS) (items : List (Int × Int)) (i : Nat) : encItems e items = encItems (encItems e (items.take i)) (items.drop i) := by
  rw [← items_app, List.take_append_drop]
theorem rel_turn {o : List Int} {items : List (Int × Int)} {i : Nat} {it : Int × Int} {d : DecS} (hi : items[i]? = some it) (hok : ItemsOk items) (ho : ∀ x ∈ o, 0 ≤ x ∧ x ≤ 255)
    (hc : accO o ((encItems encInit items).front.length + 4) = bigL (encItems encInit items)) (hr : Rel o (encItems encInit (items.take i)) d) :
    decItemBit d it = it.2 ∧ Rel o (encItems encInit (items.take (i + 1))) (decItem d it) := by
  have hg : EncG (encItems encInit (items.take i)) := items_ok init_ok (fun x hx => hok x (List.mem_of_mem_take hx))
  have hE : EncG (encItems encInit items) := items_ok init_ok hok
  have hit := hok _ (List.mem_of_getElem? hi)
  have e1 := items_turn (e := encInit) hi rfl
  have hw : Within (encItems encInit items) (encItem (encItems encInit (items.take i)) it) := by
    have hw := within_self hE.mid.span0
    have hs := items_split encInit items (i + 1)
    rw [← e1] at hs
    exact within_items (item_ok hg hit) (fun x hx => hok x (List.mem_of_mem_drop hx)) (by rw [← hs]; exact hw)
  rw [← e1]
  exact rel_item ho hc hr hg hit hw
theorem rel_start {o : List Int} {items : List (Int × Int)} (hok : ItemsOk items) (ho : ∀ x ∈ o, 0 ≤ x ∧ x ≤ 255) (hc : accO o ((encItems encInit items).front.length + 4) = bigL (encItems encInit items)) : Rel o encInit (decInit o) :=
  rel_init ho hc (within_items init_ok hok (within_self (items_ok init_ok hok).mid.span0))
end Pu
open Pu
theorem gd {α : Type} {xs : List α} {k n : Int} (e : (xs.length : Int) = n) (h0 : 0 ≤ k) (h1 : k < n) : -(xs.length : Int) ≤ k ∧ k < (xs.length : Int) := by omega
theorem big {x : Int} (h0 : 0 ≤ x) (h1 : x < 2 ^ 64) : -(2 ^ 4096) < x ∧ x < 2 ^ 4096 := by
  have h : (0 : Int) < 2 ^ 4032 := Int.pow_pos (by decide)
  have e : (2 : Int) ^ 4096 = 2 ^ 4032 * 2 ^ 64 := Int.pow_add 2 4032 64
  have l : (1 : Int) * 2 ^ 64 ≤ 2 ^ 4032 * 2 ^ 64 := Int.mul_le_mul_of_nonneg_right h (by decide)
  rw [← e] at l
  generalize (2 : Int) ^ 4096 = z at l ⊢
  omega
theorem e8 : (2 : Int) ^ Int.toNat 8 = 256 := by decide
theorem while_bk {σ ρ : Type} {n : Nat} {s s' : σ} {f : σ → Rx (Lp σ ρ)} (h : f s = .ok (.bk s')) : whileR (n + 1) s f = .ok (.go s') := by
  show (f s).bind _ = _
  rw [h]
  rfl
theorem while_go {σ ρ : Type} {n : Nat} {s s' : σ} {f : σ → Rx (Lp σ ρ)} (h : f s = .ok (.go s')) : whileR (n + 1) s f = whileR n s' f := by
  show (f s).bind _ = _
  rw [h]
  rfl
/-! the encoder -/
theorem carry_eq {e : EncS} (h : ∃ y ∈ e.front, y ≠ 255) (hl : e.front.length ≤ 900000) : F_Encoder__carry e = .ok ⟨e.probs, incE e.front, e.low, e.span⟩ := by
  refine Gv.get ?_
  unfold F_Encoder__carry
  refine Gv.bnd fun pl hpl => Gv.bind (Gv.whileR (P := fun s => s.1 = ⟨e.probs, s.1.front, e.low, e.span⟩ ∧ ∃ (A : List Int) (x : Int) (j : Nat), e.front = A ++ [x] ++ List.replicate j 255 ∧ s.1.front = A ++ [x] ++ List.replicate j 0 ∧ s.2 = (A.length : Int))
    (R := fun s => s.1 = ⟨e.probs, s.1.front, e.low, e.span⟩ ∧ ∃ (A : List Int) (x : Int) (j : Nat), e.front = A ++ [x] ++ List.replicate j 255 ∧ s.1.front = A ++ [x] ++ List.replicate j 0 ∧ s.2 = (A.length : Int) ∧ x ≠ 255) (fun s => s.2.toNat) (fun s p => ?_) ?_ ?_) ?_
  · obtain ⟨es, A, x, j, h1, h2, h3⟩ := p
    have hin := mid_in h2 h3
    have hat := mid_at h2 h3
    unfold F_Encoder__carry_b1
    refine Gv.grd hin ?_
    rw [hat]
    refine Gv.ite (fun c => Gv.grd hin (Gv.bnd fun y hy => Gv.bnd fun q hq => .ok (.inl ⟨_, rfl, ⟨by rw [es], ?_⟩, ?_⟩))) fun c => .ok (.inr ⟨_, rfl, es, A, x, j, h1, h2, h3, c⟩)
    · obtain ⟨B, z, k, b1, b2, b3⟩ := carry_turn h h1 h2 h3 c
      exact ⟨B, z, k, b1, by show y = _; rw [hy]; exact b2, by show q = _; rw [hq]; exact b3⟩
    · show q.toNat < s.2.toNat
      rw [hq]
      exact carry_less h h1 h3 c
  · obtain ⟨A, x, j, h1, h2, h3⟩ := carry_start h
    exact ⟨rfl, A, x, j, h1, h2, by show pl = _; rw [hpl]; exact h3⟩
  · show pl.toNat < 1000000
    omega
  · rintro l ⟨s, rfl, es, A, x, j, h1, h2, h3, hx⟩
    show Gv (F_Encoder__carry_r1 s.1 s.2) _
    have hin := mid_in h2 h3
    have hlen : s.1.front.length = e.front.length := by
      rw [h1, h2]
      simp
    unfold F_Encoder__carry_r1
    refine Gv.grd ⟨by omega, by omega, hin.2⟩ (Gv.grd hin (Gv.bnd fun y hy => .ok ?_))
    rw [hy, carry_end h1 h2 h3 hx, es]
theorem norm_eq {e : EncS} (h : EncMid e) (hl : e.front.length ≤ 900000) : F_Encoder__narrow_k1 e = .ok (encNorm e) := by
  have hs := h.span
  have hw := h.low
  unfold F_Encoder__narrow_k1 encNorm
  by_cases c : e.span < 16777216
  · rw [if_pos c, show (1000000 : Nat) = 999999 + 1 from rfl, while_go (s' := encNorm1 e)]
    · rw [show (999999 : Nat) = 999998 + 1 from rfl, while_bk (s' := encNorm1 e)]
      · rfl
      · unfold F_Encoder__narrow_b2
        rw [if_neg (by have := norm_span h; omega)]
    · unfold F_Encoder__narrow_b2
      rw [if_pos c, grd_pos (by omega), bnd_eq, grd_pos ⟨by decide, by decide, big hw.1 (by omega)⟩, bnd_eq, grd_pos ⟨by decide, by decide, big (by omega) (by omega)⟩, bnd_eq, e8, ← encNorm_eq]
  · rw [if_neg c, show (1000000 : Nat) = 999999 + 1 from rfl, while_bk (s' := e)]
    · rfl
    · unfold F_Encoder__narrow_b2
      rw [if_neg c]
theorem narrow_eq {e : EncS} (g : EncG e) {p d : Int} (hp : 31 ≤ p ∧ p ≤ 4065) (hl : e.front.length ≤ 900000) : F_Encoder__narrow e p d = .ok (encNarrow e p d) := by
  have hm := encPre_ok g hp d
  have hlp := len_pre e p d
  have hn := norm_eq hm (by omega)
  unfold F_Encoder__narrow encNarrow
  rw [grd_pos (.inr ⟨by omega, by omega⟩), bnd_eq, ← hn]
  have hc := carry_pre g hp
  unfold encPre
  by_cases c : d = 0
  · rw [if_pos c, if_pos c, bind_ok]
  · rw [if_neg c, if_neg c, bnd_eq, bnd_eq]
    by_cases q : 4294967296 ≤ e.low + e.span / 4096 * p
    · rw [if_pos q, if_pos q, bnd_eq, carry_eq (e := ⟨e.probs, e.front, e.low + e.span / 4096 * p - 4294967296, e.span - e.span / 4096 * p⟩) (hc q) hl, noEr_ok, bind_ok, bind_ok]
    · rw [if_neg q, if_neg q, bind_ok]
theorem adapted_eq (c b : Int) : F__adapted c b = .ok (adaptE c b) := by
  unfold F__adapted adaptE
  split <;> rfl
theorem ctx_ok {c : Int} (h0 : 0 ≤ c) (h1 : c < 256) : F__check_context c = .ok () := by
  unfold F__check_context
  rw [if_pos h0, if_pos h1]
theorem ctx_er {c : Int} (h : c < 0 ∨ 256 ≤ c) : F__check_context c = .er 1 := by
  unfold F__check_context
  split
  · rw [if_neg (by omega)]
  · rfl
theorem dec_ok {d : Int} (h0 : 0 ≤ d) (h1 : d ≤ 1) : F__check_decision d = .ok () := by
  unfold F__check_decision
  rw [if_pos h0, if_pos h1]
theorem dec_er {d : Int} (h : d < 0 ∨ 1 < d) : F__check_decision d = .er 1 := by
  unfold F__check_decision
  split
  · rw [if_neg (by omega)]
  · rfl
theorem code_eq {e : EncS} (g : EncG e) {c d : Int} (h0 : 0 ≤ c) (h1 : c < 256) (d0 : 0 ≤ d) (d1 : d ≤ 1) (hl : e.front.length ≤ 900000) : F_Encoder_code e c d = .ok (encCode e c d) := by
  have l := g.len
  have gi := gd (show (e.probs.length : Int) = 256 by omega) h0 h1
  unfold F_Encoder_code
  rw [ctx_ok h0 h1, bind_ok, dec_ok d0 d1, bind_ok, grd_pos gi, bnd_eq, narrow_eq g (g.chance h0 h1) hl, bind_ok, adapted_eq, noEr_ok, bind_ok, grd_pos (by rw [probs_narrow]; exact gi), bnd_eq]
  rfl
theorem even_eq {e : EncS} (g : EncG e) {d : Int} (d0 : 0 ≤ d) (d1 : d ≤ 1) (hl : e.front.length ≤ 900000) : F_Encoder_code_even e d = .ok (encNarrow e 2048 d) := by
  unfold F_Encoder_code_even
  rw [dec_ok d0 d1, bind_ok, narrow_eq g (by decide) hl, bind_ok]
theorem item_eq {e : EncS} (g : EncG e) {it : Int × Int} (hi : (-1 ≤ it.1 ∧ it.1 ≤ 255) ∧ 0 ≤ it.2 ∧ it.2 ≤ 1) (hl : e.front.length ≤ 900000) : F__law_code_items_b1 e it = .ok (encItem e it) := by
  unfold F__law_code_items_b1 encItem
  by_cases c : 0 ≤ it.1
  · rw [if_pos c, if_pos c, code_eq g c (by omega) hi.2.1 hi.2.2 hl, noEr_ok, bind_ok]
  · rw [if_neg c, if_neg c, even_eq g hi.2.1 hi.2.2 hl, noEr_ok, bind_ok]
theorem items_eq : ∀ {items : List (Int × Int)} {e : EncS}, EncG e → ItemsOk items → e.front.length + items.length ≤ 900000 → F__law_code_items e items = .ok (encItems e items) := by
  intro items
  induction items with
  | nil => intro e _ _ _; rfl
  | cons it r ih =>
    intro e g ok hl
    rw [List.length_cons] at hl
    have hi := ok it List.mem_cons_self
    have h1 := item_eq g hi (by omega)
    have h2 := ih (e := encItem e it) (item_ok g hi) (fun x hx => ok x (List.mem_cons_of_mem _ hx)) (by have := item_len e it; omega)
    unfold F__law_code_items at h2 ⊢
    show ((F__law_code_items_b1 e it).bind _).bind _ = _
    rw [h1, bind_ok]
    exact h2
theorem octets_eq {e : EncS} (hl : e.front.length ≤ 900000) : F_Encoder_octets e = .ok (encOctets e) := by
  refine Gv.get ?_
  unfold F_Encoder_octets
  refine Gv.bind_eq (mapA_pure0 (g := fun k => PySem.Builtin.bitAnd (e.low / 2 ^ Int.toNat k) 255) (fun k hk => ?_) (by decide)) (Gv.grd (by show e.front.length + 4 ≤ 1000000; omega) (Gv.bind (Gv.whileR (P := fun s => stripZ s = encOctets e) (R := fun s => s = encOctets e) (fun s => s.length) (fun s p => ?_) rfl ?_) ?_))
  · unfold F_Encoder_octets_c1
    rw [grd_pos (shifts_nn hk)]
    rfl
  · unfold F_Encoder_octets_b2
    refine Gv.ite (fun c => .ok (.inr ⟨_, rfl, ?_⟩)) fun c => Gv.grd (last_in c) (Gv.ite (fun z => Gv.grd c (Gv.bnd fun y hy => .ok (.inl ⟨_, rfl, ?_, ?_⟩))) fun z => .ok (.inr ⟨_, rfl, ?_⟩))
    · rw [← p, strip_done (.inl c)]
    · rw [hy, strip_pop c z]
      exact p
    · rw [hy]
      exact drop_less c
    · rw [← p, strip_done (.inr z)]
  · show (e.front ++ _).length < 1000000
    rw [List.length_append]
    show e.front.length + 4 < 1000000
    omega
  · rintro l ⟨s, rfl, h⟩
    exact .ok h
/-! the decoder -/
theorem shift_eq {d : DecS} (h : DecO d) (hv : 0 ≤ d.value) (hv2 : d.value < 2 ^ 64) : F_Decoder__shift d = .ok (decShift d) := by
  have ho := oct_in h
  have hp := h.place
  have k : ∀ (q : St_Decoder) (o : Int), q.value = d.value → 0 ≤ o → o ≤ 255 → F_Decoder__shift_k1 q o = .ok ⟨q.probs, q.octs, q.place, q.span, d.value * 256 + o⟩ := fun q o e h0 h1 => by
    unfold F_Decoder__shift_k1
    rw [e, grd_pos ⟨by decide, by decide, big hv hv2⟩, bnd_eq, e8, low_or hv h0 h1]
  unfold F_Decoder__shift decShift
  unfold decOct at ho ⊢
  by_cases c : d.place < (d.octs.length : Int)
  · rw [if_pos c] at ho
    rw [if_pos c, if_pos c, if_pos c, grd_pos ⟨by omega, c⟩, bnd_eq, bnd_eq, bind_ok]
    exact k ⟨d.probs, d.octs, d.place + 1, d.span, d.value⟩ (itD d.octs d.place) rfl ho.1 ho.2
  · rw [if_neg c] at ho
    rw [if_neg c, if_neg c, if_neg c, bind_ok]
    exact k d 0 rfl ho.1 ho.2
theorem dnorm_eq {d : DecS} (h : DecMid d) (b : Int) : F_Decoder__decide_k1 b d = .ok (b, decNorm d) := by
  have hs := h.span
  have hv := h.value
  unfold F_Decoder__decide_k1 decNorm
  by_cases c : d.span < 16777216
  · rw [if_pos c, show (1000000 : Nat) = 999999 + 1 from rfl, while_go (s' := decNorm1 d)]
    · rw [show (999999 : Nat) = 999998 + 1 from rfl, while_bk (s' := decNorm1 d)]
      · rfl
      · unfold F_Decoder__decide_b2
        rw [if_neg (show ¬ (decNorm1 d).span < 16777216 by show ¬ d.span * 256 < 16777216; omega)]
    · unfold F_Decoder__decide_b2
      rw [if_pos c, shift_eq h.o hv.1 (by omega), noEr_ok, bind_ok, grd_pos ⟨by decide, by decide, big (show 0 ≤ d.span by omega) (show d.span < 2 ^ 64 by omega)⟩, bnd_eq, e8]
      rfl
  · rw [if_neg c, show (1000000 : Nat) = 999999 + 1 from rfl, while_bk (s' := d)]
    · rfl
    · unfold F_Decoder__decide_b2
      rw [if_neg c]
theorem decide_eq {d : DecS} (g : DecG d) {p : Int} (hp : 31 ≤ p ∧ p ≤ 4065) : F_Decoder__decide d p = .ok (decBit d p, decDecide d p) := by
  have hn := dnorm_eq (decPre_ok g hp)
  unfold F_Decoder__decide decDecide
  rw [grd_pos (.inr ⟨by omega, by omega⟩), bnd_eq, bnd_eq]
  unfold decBit
  unfold decPre at hn ⊢
  by_cases c : d.value < d.span / 4096 * p
  · rw [if_pos c] at hn ⊢
    rw [if_pos c, if_pos rfl, bind_ok]
    exact hn 0
  · rw [if_neg c] at hn ⊢
    rw [if_neg c, if_neg (by decide), bnd_eq, bnd_eq, bind_ok]
    exact hn 1
theorem read_eq {d : DecS} (g : DecG d) {c : Int} (h0 : 0 ≤ c) (h1 : c < 256) : F_Decoder_read d c = .ok (decBit d (itD d.probs c), decRead d c) := by
  have l := g.len
  have gi := gd (show (d.probs.length : Int) = 256 by omega) h0 h1
  unfold F_Decoder_read
  rw [ctx_ok h0 h1, bind_ok, grd_pos gi, bnd_eq, decide_eq g (g.chance h0 h1), bind_ok, adapted_eq, noEr_ok, bind_ok, grd_pos (by rw [probs_decide]; exact gi), bnd_eq]
  rfl
theorem reven_eq {d : DecS} (g : DecG d) : F_Decoder_read_even d = .ok (decBit d 2048, decDecide d 2048) := by
  unfold F_Decoder_read_even
  rw [decide_eq g (by decide), bind_ok]
theorem dinit_eq {o : List Int} (h : ∀ x ∈ o, 0 ≤ x ∧ x ≤ 255) : F_Decoder___init__ o = .ok (decInit o) := by
  have st : ∀ (i : Nat) (x : Int), i < 4 → F_Decoder___init___b1 (decShifts i (decBlank o)) x = .ok (decShifts (i + 1) (decBlank o)) := fun i x hi => by
    have hs := shifts_ok (blank_ok h) rfl i
    have := pow_turn hi hs.2.2
    unfold F_Decoder___init___b1
    rw [shift_eq hs.1 hs.2.1 (by omega), noEr_ok, bind_ok]
    rfl
  unfold F_Decoder___init__
  rw [grd_pos ⟨by decide, by decide, by decide +kernel⟩, bnd_eq, show rng 0 (Int.toNat 4) = [0, 1, 2, 3] from by decide]
  have e : forS [0, 1, 2, 3] (decBlank o) (fun s x => F_Decoder___init___b1 s x) = .ok (decShifts 4 (decBlank o)) := by
    show (F_Decoder___init___b1 (decShifts 0 (decBlank o)) 0).bind _ = _
    rw [st 0 0 (by decide), bind_ok]
    show (F_Decoder___init___b1 (decShifts 1 (decBlank o)) 1).bind _ = _
    rw [st 1 1 (by decide), bind_ok]
    show (F_Decoder___init___b1 (decShifts 2 (decBlank o)) 2).bind _ = _
    rw [st 2 2 (by decide), bind_ok]
    show (F_Decoder___init___b1 (decShifts 3 (decBlank o)) 3).bind _ = _
    rw [st 3 3 (by decide), bind_ok]
    rfl
  show (forS [0, 1, 2, 3] (decBlank o) (fun s x => F_Decoder___init___b1 s x)).bind _ = _
  rw [e, bind_ok]
  rfl
/-! refusals -/
theorem bad_ctx {e : EncS} {c d : Int} (hl : e.front.length ≤ 900000) (hc : c < 0 ∨ 256 ≤ c) (d0 : 0 ≤ d) (d1 : d ≤ 1) : F__law_bad_code e c d = .ok (true, e) := by
  have e1 : F_Encoder_code e c d = .er 1 := by
    unfold F_Encoder_code
    rw [ctx_er hc]
    rfl
  have e2 : F_Encoder_probability e c = .er 1 := by
    unfold F_Encoder_probability
    rw [ctx_er hc]
    rfl
  unfold F__law_bad_code
  rw [octets_eq hl, bind_ok, e1, tryR_er (by simp)]
  show F__law_bad_code_k1 c d (encOctets e) e 1 = _
  unfold F__law_bad_code_k1
  rw [if_pos d0, if_pos d1, e2, tryR_er (by simp)]
  show F__law_bad_code_k2 (encOctets e) e 2 = _
  unfold F__law_bad_code_k2
  rw [if_pos (by decide), octets_eq hl, noEr_ok, bind_ok, decide_eq_true rfl]
theorem bad_dec {e : EncS} {c d : Int} (hl : e.front.length ≤ 900000) (c0 : 0 ≤ c) (c1 : c < 256) (hd : d < 0 ∨ 1 < d) : F__law_bad_code e c d = .ok (true, e) := by
  have e1 : F_Encoder_code e c d = .er 1 := by
    unfold F_Encoder_code
    rw [ctx_ok c0 c1, bind_ok, dec_er hd]
    rfl
  have e2 : F_Encoder_code_even e d = .er 1 := by
    unfold F_Encoder_code_even
    rw [dec_er hd]
    rfl
  have k : F__law_bad_code_k1 c d (encOctets e) e 1 = .ok (true, e) := by
    have k2 : F__law_bad_code_k2 (encOctets e) e 2 = .ok (true, e) := by
      unfold F__law_bad_code_k2
      rw [if_pos (by decide), octets_eq hl, noEr_ok, bind_ok, decide_eq_true rfl]
    unfold F__law_bad_code_k1
    by_cases q : 0 ≤ d
    · rw [if_pos q, if_neg (by omega), e2, tryR_er (by simp)]
      exact k2
    · rw [if_neg q, e2, tryR_er (by simp)]
      exact k2
  unfold F__law_bad_code
  rw [octets_eq hl, bind_ok, e1, tryR_er (by simp)]
  exact k
theorem bad_read {d : DecS} {c : Int} (hc : c < 0 ∨ 256 ≤ c) : F__law_bad_read d c = .ok (true, d) := by
  have e1 : F_Decoder_read d c = .er 1 := by
    unfold F_Decoder_read
    rw [ctx_er hc]
    rfl
  have e2 : F_Decoder_probability d c = .er 1 := by
    unfold F_Decoder_probability
    rw [ctx_er hc]
    rfl
  unfold F__law_bad_read
  rw [e1, tryR_er (by simp)]
  show F__law_bad_read_k1 c d 1 = _
  unfold F__law_bad_read_k1
  rw [e2, tryR_er (by simp)]
  rfl
/-! the law -/
theorem acc_code0 {E : EncS} (hm : EncMid E) : accO (encOctets E) (E.front.length + 4) = bigL E := by
  have h := acc_code hm 0
  rw [List.replicate_zero, List.append_nil] at h
  exact h
theorem b4_ok {O : List Int} {items : List (Int × Int)} {i : Nat} {it : Int × Int} {d : DecS} {c : Int} (hc : c < 0 ∨ 256 ≤ c) (hi : items[i]? = some it) (hok : ItemsOk items) (ho : ∀ x ∈ O, 0 ≤ x ∧ x ≤ 255)
    (ha : accO O ((encItems encInit items).front.length + 4) = bigL (encItems encInit items)) (hr : Pu.Rel O (encItems encInit (items.take i)) d) : F_law_b4 c d it = .ok (.go (decItem d it)) := by
  obtain ⟨h1, _⟩ := rel_turn hi hok ho ha hr
  have b := hok it (List.mem_of_getElem? hi)
  unfold F_law_b4
  rw [bad_read hc, bind_ok, if_pos rfl]
  unfold decItemBit at h1
  unfold decItem
  by_cases q : 0 ≤ it.1
  · rw [if_pos q] at h1
    rw [if_pos q, if_pos q, read_eq hr.g q (by omega), bind_ok, if_pos h1, if_neg (by omega)]
  · rw [if_neg q] at h1
    rw [if_neg q, if_neg q, if_pos (by omega), reven_eq hr.g, bind_ok, if_pos h1]
theorem items_take (items : List (Int × Int)) : items.take items.length = items := List.take_length
theorem k2_ok {xs v : List Int} {c dn : Int} (hx : xs.length ≤ 63) (hv : Inb v [2, 1000, 256, 2, 1000, 2]) (hc : c < 0 ∨ 256 ≤ c) (hd : dn < 0 ∨ 1 < dn) (hit : Gv (F__law_items (cutL xs (some 1) none) 40) (fun r => ItemsOk r ∧ r.length ≤ 3000)) : F_law_k2 xs v c dn = .ok true := by
  obtain ⟨a0, r0, rfl, _, _, hv⟩ := hv.cons
  obtain ⟨a1, r1, rfl, _, _, hv⟩ := hv.cons
  obtain ⟨a2, r2, rfl, b2, c2, hv⟩ := hv.cons
  obtain ⟨a3, r3, rfl, _, _, hv⟩ := hv.cons
  obtain ⟨a4, r4, rfl, _, _, hv⟩ := hv.cons
  obtain ⟨a5, r5, rfl, b5, c5, hv⟩ := hv.cons
  obtain rfl := hv.nil
  refine Gv.get ?_
  unfold F_law_k2
  refine Gv.bind hit fun items hi => ?_
  have hinit : F_Encoder___init__ = .ok encInit := by
    unfold F_Encoder___init__
    rw [grd_pos ⟨by decide, by decide, by decide +kernel⟩, bnd_eq]
    rfl
  have d6 : ∀ k : Int, 0 ≤ k → k < 6 → -(([a0, a1, a2, a3, a4, a5] : List Int).length : Int) ≤ k ∧ k < ([a0, a1, a2, a3, a4, a5] : List Int).length := fun k h0 h1 => gd (n := 6) rfl h0 h1
  have fl : ∀ its : List (Int × Int), its.length ≤ 3000 → (encItems encInit its).front.length ≤ 900000 := fun its h => by
    have := items_len its encInit
    have e0 : encInit.front.length = 0 := rfl
    omega
  refine Gv.bind_eq hinit (Gv.bind_eq hinit (Gv.bind (Gv.forR (P := fun i e => e = encItems encInit (items.take i)) rfl fun i it e h p => ?_) ?_))
  · have b := hi.1 it (List.mem_of_getElem? h)
    have g : EncG e := by
      rw [p]
      exact items_ok init_ok (fun x hx => hi.1 x (List.mem_of_mem_take hx))
    have l : e.front.length ≤ 900000 := by
      rw [p]
      exact fl _ (by rw [List.length_take]; omega)
    have l2 : e.front.length + 1 ≤ 900000 := by
      have := items_len (items.take i) encInit
      have e0 : encInit.front.length = 0 := rfl
      rw [← p, e0, List.length_take] at this
      omega
    unfold F_law_b3
    rw [itD_lit (k := 5) (a := a5) 5 rfl rfl, itD_lit (k := 2) (a := a2) 2 rfl rfl]
    refine Gv.grd (d6 5 (by decide) (by decide)) (Gv.bind_eq (bad_ctx l hc b5 (by omega)) (Gv.pos rfl (Gv.grd (d6 2 (by decide) (by decide)) (Gv.bind_eq (bad_dec l b2 c2 hd) (Gv.pos rfl (Gv.bind_eq (items_eq (items := [it]) g (fun x hx => by rw [List.mem_singleton.mp hx]; exact b) l2) (.ok ⟨_, rfl, ?_⟩)))))))
    rw [p]
    exact items_turn h rfl
  · rintro l ⟨e, rfl, p⟩
    rw [items_take] at p
    subst p
    have g := items_ok init_ok hi.1
    have l := fl items hi.2
    have ho := code_oct_in g.mid
    have ha := acc_code0 g.mid
    have gl := g.len
    show Gv (F_law_r3 [a0, a1, a2, a3, a4, a5] c items encInit (encItems encInit items)) _
    unfold F_law_r3
    rw [itD_lit (k := 2) (a := a2) 2 rfl rfl]
    have pe : F_Encoder_probability (encItems encInit items) a2 = .ok (itD (encItems encInit items).probs a2) := by
      unfold F_Encoder_probability
      rw [ctx_ok b2 c2, bind_ok, grd_pos (gd (show ((encItems encInit items).probs.length : Int) = 256 by omega) b2 c2)]
    refine Gv.bind_eq (items_eq init_ok hi.1 (by show 0 + _ ≤ _; omega)) (Gv.bind_eq (octets_eq l) (Gv.bind_eq (octets_eq l) (Gv.pos rfl (Gv.grd (d6 2 (by decide) (by decide)) (Gv.bind_eq pe (Gv.grd (d6 2 (by decide) (by decide)) (Gv.bind_eq pe (Gv.pos rfl (Gv.bind_eq (dinit_eq ho) ?_)))))))))
    refine Gv.bind (Gv.forR (P := fun i d => Pu.Rel (encOctets (encItems encInit items)) (encItems encInit (items.take i)) d) (rel_start hi.1 ho ha) fun i it d h p => ?_) ?_
    · exact .of_eq (b4_ok hc h hi.1 ho ha p) ⟨_, rfl, (rel_turn h hi.1 ho ha p).2⟩
    · rintro l ⟨d, rfl, p⟩
      rw [items_take] at p
      show Gv (F_law_r4 [a0, a1, a2, a3, a4, a5] (encItems encInit items) d) _
      unfold F_law_r4
      rw [itD_lit (k := 2) (a := a2) 2 rfl rfl]
      have pd : F_Decoder_probability d a2 = .ok (itD (encItems encInit items).probs a2) := by
        unfold F_Decoder_probability
        rw [p.probs, ctx_ok b2 c2, bind_ok, grd_pos (gd (show ((encItems encInit items).probs.length : Int) = 256 by omega) b2 c2)]
      exact Gv.grd (d6 2 (by decide) (by decide)) (Gv.bind_eq pd (Gv.grd (d6 2 (by decide) (by decide)) (Gv.bind_eq pe (.ok (decide_eq_true rfl)))))
theorem inb_all {n : Int} : ∀ (v ls : List Int), Inb v ls → (∀ l ∈ ls, l = n) → ∀ x ∈ v, 0 ≤ x ∧ x < n := by
  intro v
  induction v with
  | nil => intro ls _ _ x hx; cases hx
  | cons a r ih =>
    intro ls hv he x hx
    cases ls with
    | nil => exact hv.elim
    | cons l ls =>
      have e := he l List.mem_cons_self
      rcases List.mem_cons.mp hx with rfl | hx
      · have h1 := hv.1
        have h2 := hv.2.1
        omega
      · exact ih ls hv.2.2 (fun l hl => he l (List.mem_cons_of_mem _ hl)) x hx
theorem its_app {a b : List (Int × Int)} (ha : ItemsOk a) (hb : ItemsOk b) : ItemsOk (a ++ b) := fun x hx => (List.mem_append.mp hx).elim (ha x) (hb x)
theorem items_b1 {items : List (Int × Int)} {cell : Int} {i : Nat} (hi : ItemsOk items) (hl : items.length ≤ 40 * i) (hi2 : i ≤ 1000) : Gv (F__law_items_b1 items cell) (fun r => ItemsOk r ∧ r.length ≤ 40 * (i + 1)) := by
  unfold F__law_items_b1
  refine Gv.bind (draws_gv _ _ (by decide +kernel) (by decide +kernel)) fun v hv => ?_
  obtain ⟨a0, r0, rfl, b0, c0, hv⟩ := hv.cons
  obtain ⟨a1, r1, rfl, b1, c1, hv⟩ := hv.cons
  obtain ⟨a2, r2, rfl, b2, c2, hv⟩ := hv.cons
  obtain ⟨a3, r3, rfl, b3, c3, hv⟩ := hv.cons
  obtain ⟨a4, r4, rfl, b4, c4, hv⟩ := hv.cons
  obtain rfl := hv.nil
  have d5 : ∀ k : Int, 0 ≤ k → k < 5 → -(([a0, a1, a2, a3, a4] : List Int).length : Int) ≤ k ∧ k < ([a0, a1, a2, a3, a4] : List Int).length := fun k h0 h1 => gd (n := 5) rfl h0 h1
  rw [itD_lit (k := 0) (a := a0) 0 rfl rfl, itD_lit (k := 1) (a := a1) 1 rfl rfl, itD_lit (k := 2) (a := a2) 2 rfl rfl, itD_lit (k := 3) (a := a3) 3 rfl rfl, itD_lit (k := 4) (a := a4) 4 rfl rfl]
  refine Gv.grd (d5 2 (by decide) (by decide)) (Gv.grd (d5 2 (by decide) (by decide)) (Gv.grd (d5 2 (by decide) (by decide)) (Gv.grd (d5 1 (by decide) (by decide)) (Gv.grd (gd (n := 8) rfl b1 c1) (Gv.bnd fun ctx hctx => ?_)))))
  have hc : -1 ≤ ctx ∧ ctx ≤ 255 := by
    have : a1 = 0 ∨ a1 = 1 ∨ a1 = 2 ∨ a1 = 3 ∨ a1 = 4 ∨ a1 = 5 ∨ a1 = 6 ∨ a1 = 7 := by omega
    rcases this with e | e | e | e | e | e | e | e
    · rw [hctx, itD_lit (a := 0) 0 e rfl]; decide
    · rw [hctx, itD_lit (a := 255) 1 e rfl]; decide
    · rw [hctx, itD_lit (a := 1) 2 e rfl]; decide
    · rw [hctx, itD_lit (a := 128) 3 e rfl]; decide
    · rw [hctx, itD_lit (a := a2) 4 e rfl]; omega
    · rw [hctx, itD_lit (a := a2) 5 e rfl]; omega
    · rw [hctx, itD_lit (a := a2) 6 e rfl]; omega
    · rw [hctx, itD_lit (a := -1) 7 e rfl]; decide
  clear hctx
  have rl : ((repL [(ctx, a3)] a4).length : Int) = a4 := rep1_len _ b4
  refine Gv.grd (d5 0 (by decide) (by decide)) (Gv.ite (fun _ => Gv.grd (d5 3 (by decide) (by decide)) (Gv.grd (d5 4 (by decide) (by decide)) (Gv.grd ⟨by omega, by omega, by show 1 * a4.toNat ≤ 1000000; omega⟩ (Gv.grd (by omega) (.ok ⟨its_app hi fun x hx => ?_, by rw [List.length_append]; omega⟩))))) fun _ => ?_)
  · rw [rep1_mem hx]
    exact ⟨hc, b3, by omega⟩
  · refine Gv.grd (d5 4 (by decide) (by decide)) (Gv.grd ⟨by omega, by omega, by show 1 * a4.toNat ≤ 1000000; omega⟩ (Gv.bind (draws_gv _ _ (fun l hl2 => ?_) ?_) fun w hw => ?_))
    · rw [rep1_mem hl2]
      decide
    · have := rep1_len (2 : Int) b4
      omega
    have wl : (w.length : Int) = a4 := by
      rw [hw.len]
      exact rep1_len _ b4
    have wb := inb_all w _ hw (n := 2) fun l hl => rep1_mem hl
    refine Gv.grd ⟨by omega, by omega⟩ (Gv.bind_eq (mapA_pure0 (g := fun k => ((ctx + 1) * (if decide (0 < k % 3) = true then 1 else 0) - 1, itD w k)) (fun k hk => ?_) (by rw [rng_len]; omega)) (Gv.grd ?_ (.ok ⟨its_app hi fun x hx => ?_, ?_⟩)))
    · have b := rng_mem hk
      unfold F__law_items_c2
      rw [grd_pos (.inl ⟨by omega, by omega⟩), grd_pos (gd wl (by omega) (by omega))]
      rfl
    · rw [List.length_map, rng_len]
      omega
    · obtain ⟨k, hk, rfl⟩ := List.mem_map.mp hx
      have b := rng_mem hk
      have wk := wb _ (itD_mem (k := k) (xs := w) (by omega) (by omega))
      refine ⟨?_, wk.1, by have := wk.2; show itD w k ≤ 1; omega⟩
      dsimp only
      split <;> omega
    · rw [List.length_append, List.length_map, rng_len]
      omega
theorem items_gv {xs : List Int} {m : Int} (hx : xs.length ≤ 63) : Gv (F__law_items xs m) (fun r => ItemsOk r ∧ r.length ≤ 2520) := by
  unfold F__law_items
  refine Gv.bind (Gv.forS (P := fun i r => ItemsOk r ∧ r.length ≤ 40 * i) ⟨(fun x hx => by cases hx), Nat.le_refl 0⟩ fun i x s h p => items_b1 p.1 p.2 (by have := get_len h; omega)) fun r p => .ok ⟨fun x hx => ?_, ?_⟩
  · unfold cutL at hx
    exact p.1 x (List.mem_of_mem_drop (List.mem_of_mem_take hx))
  · have := cutL_len r none (some m)
    have := p.2
    omega
theorem law_true (xs : List Int) (h : xs.length ≤ 63) : F_law xs = .ok true := by
  refine Gv.get ?_
  unfold F_law
  refine Gv.bind (cell_gv xs 0 (by decide)) fun cell _ => Gv.bind (draws_gv _ _ (by decide +kernel) (by decide +kernel)) fun v hv => ?_
  have hv0 := hv
  obtain ⟨a0, r0, rfl, b0, c0, hv⟩ := hv.cons
  obtain ⟨a1, r1, rfl, b1, c1, hv⟩ := hv.cons
  obtain ⟨a2, r2, rfl, b2, c2, hv⟩ := hv.cons
  obtain ⟨a3, r3, rfl, b3, c3, hv⟩ := hv.cons
  obtain ⟨a4, r4, rfl, b4, c4, hv⟩ := hv.cons
  obtain ⟨a5, r5, rfl, b5, c5, hv⟩ := hv.cons
  obtain rfl := hv.nil
  have d6 : ∀ k : Int, 0 ≤ k → k < 6 → -(([a0, a1, a2, a3, a4, a5] : List Int).length : Int) ≤ k ∧ k < ([a0, a1, a2, a3, a4, a5] : List Int).length := fun k h0 h1 => gd (n := 6) rfl h0 h1
  rw [itD_lit (k := 0) (a := a0) 0 rfl rfl, itD_lit (k := 1) (a := a1) 1 rfl rfl]
  refine Gv.grd (d6 1 (by decide) (by decide)) (Gv.bnd fun ctx hctx => Gv.bind (P := fun c => c < 0 ∨ 256 ≤ c) (Gv.grd (d6 0 (by decide) (by decide)) (Gv.ite (fun _ => Gv.grd (d6 1 (by decide) (by decide)) (Gv.bnd fun _ _ => .ok (by omega))) fun _ => .ok (by omega))) fun c hc => ?_)
  unfold F_law_k1
  rw [itD_lit (k := 4) (a := a4) 4 rfl rfl, itD_lit (k := 3) (a := a3) 3 rfl rfl]
  refine Gv.grd (d6 4 (by decide) (by decide)) (Gv.bnd fun dn hdn => Gv.bind (P := fun d => d < 0 ∨ 1 < d) (Gv.grd (d6 3 (by decide) (by decide)) (Gv.ite (fun _ => Gv.grd (d6 4 (by decide) (by decide)) (Gv.bnd fun _ _ => .ok (by omega))) fun _ => .ok (by omega))) fun d hd => ?_)
  exact .of_eq (k2_ok h hv0 hc hd (Gv.imp (items_gv (by have := cutL_len xs (some 1) none; omega)) fun r q => ⟨q.1, by omega⟩)) rfl

end Vx
namespace Vx
open PySem PySem.Spec PyProof.Rows L2
def topS (i : Nat) : Stmt := PySem.Challenge.pw_thaumatrope_k15_coder_refuses.main.body.getD i (.Pass ⟨0, 0, 0, 0⟩)
abbrev s__law_draws : Stmt := topS 19
abbrev s__law_items : Stmt := topS 20
abbrev s_Encoder___init__ : Stmt := inClass (topS 12) 0
abbrev s__check_context : Stmt := topS 14
abbrev s__check_decision : Stmt := topS 15
abbrev s__adapted : Stmt := topS 16
abbrev s_Encoder__carry : Stmt := inClass (topS 12) 6
abbrev s_Encoder__narrow : Stmt := inClass (topS 12) 5
abbrev s_Encoder_code : Stmt := inClass (topS 12) 1
abbrev s_Encoder_code_even : Stmt := inClass (topS 12) 2
abbrev s__law_code_items : Stmt := topS 21
abbrev s_Decoder__shift : Stmt := inClass (topS 13) 5
abbrev s_Decoder___init__ : Stmt := inClass (topS 13) 0
abbrev s__law_cell : Stmt := topS 18
abbrev s_Encoder_octets : Stmt := inClass (topS 12) 3
abbrev s_Decoder__decide : Stmt := inClass (topS 13) 4
abbrev s_Decoder_read : Stmt := inClass (topS 13) 1
abbrev s_Encoder_probability : Stmt := inClass (topS 12) 4
abbrev s_Decoder_probability : Stmt := inClass (topS 13) 3
abbrev s__law_bad_read : Stmt := topS 23
abbrev s__law_bad_code : Stmt := topS 22
abbrev s_Decoder_read_even : Stmt := inClass (topS 13) 2
abbrev s_law : Stmt := topS 24
structure Ads where
  c_Encoder : Addr
  c_Decoder : Addr
  x_CodecError : Addr
  x_OutOfRange : Addr
  x_BadOctets : Addr
  z0 : Addr
def excA (AD : Ads) : Nat → Addr
  | 0 => AD.x_CodecError
  | 1 => AD.x_OutOfRange
  | 2 => AD.x_BadOctets
  | _ => AD.z0
structure Txt (K : PySem.W.Frag) (mg : Str → Option Value) (AD : Ads) : Prop where
  b_abs : mg "abs" = none
  b_int : mg "int" = none
  b_range : mg "range" = none
  b_len : mg "len" = none
  g_EVEN : ∃ u, mg "EVEN" = some u ∧ RelV (V.int 2048) u
  g_CONTEXTS : ∃ u, mg "CONTEXTS" = some u ∧ RelV (V.int 256) u
  g_WORD : ∃ u, mg "WORD" = some u ∧ RelV (V.int 4294967296) u
  g_SCALE : ∃ u, mg "SCALE" = some u ∧ RelV (V.int 4096) u
  g_RATE : ∃ u, mg "RATE" = some u ∧ RelV (V.int 5) u
  g_SCALE_BITS : ∃ u, mg "SCALE_BITS" = some u ∧ RelV (V.int 12) u
  g_LEAST_SPAN : ∃ u, mg "LEAST_SPAN" = some u ∧ RelV (V.int 16777216) u
  b_list : mg "list" = none
  b_min : mg "min" = none
  b_isinstance : mg "isinstance" = none
  cl_Encoder : Cls K AD.c_Encoder
  n_Encoder__probabilities : NoAttr K AD.c_Encoder "_probabilities"
  n_Encoder__front : NoAttr K AD.c_Encoder "_front"
  n_Encoder__low : NoAttr K AD.c_Encoder "_low"
  n_Encoder__span : NoAttr K AD.c_Encoder "_span"
  cl_Decoder : Cls K AD.c_Decoder
  n_Decoder__probabilities : NoAttr K AD.c_Decoder "_probabilities"
  n_Decoder__octets : NoAttr K AD.c_Decoder "_octets"
  n_Decoder__place : NoAttr K AD.c_Decoder "_place"
  n_Decoder__span : NoAttr K AD.c_Decoder "_span"
  n_Decoder__value : NoAttr K AD.c_Decoder "_value"
  xg_OutOfRange : mg "OutOfRange" = some (.ref AD.x_OutOfRange)
  xx_OutOfRange : PySem.W.excIn K AD.x_OutOfRange [.type "ValueError", .type "Exception", .type "BaseException", .type "object"] "ValueError.__new__" = true
  xk_OutOfRange : PySem.W.keepIn K (.ref AD.x_OutOfRange) = true
  xb_OutOfRange : PySem.W.subIn K (.ref AD.x_OutOfRange) (.type "BaseException") = some true
  xt_OutOfRange : PySem.W.typeIn K (.ref AD.x_OutOfRange) = some (.type "type")
  xg_CodecError : mg "CodecError" = some (.ref AD.x_CodecError)
  xx_CodecError : PySem.W.excIn K AD.x_CodecError [.type "ValueError", .type "Exception", .type "BaseException", .type "object"] "ValueError.__new__" = true
  xk_CodecError : PySem.W.keepIn K (.ref AD.x_CodecError) = true
  xb_CodecError : PySem.W.subIn K (.ref AD.x_CodecError) (.type "BaseException") = some true
  xt_CodecError : PySem.W.typeIn K (.ref AD.x_CodecError) = some (.type "type")
  xg_BadOctets : mg "BadOctets" = some (.ref AD.x_BadOctets)
  xx_BadOctets : PySem.W.excIn K AD.x_BadOctets [.type "ValueError", .type "Exception", .type "BaseException", .type "object"] "ValueError.__new__" = true
  xk_BadOctets : PySem.W.keepIn K (.ref AD.x_BadOctets) = true
  xb_BadOctets : PySem.W.subIn K (.ref AD.x_BadOctets) (.type "BaseException") = some true
  xt_BadOctets : PySem.W.typeIn K (.ref AD.x_BadOctets) = some (.type "type")
  xm_OutOfRange_OutOfRange : PySem.W.exmOne K (.ref AD.x_OutOfRange) (.ref AD.x_OutOfRange) = some true
  xo_OutOfRange_CodecError : PySem.W.kitOne K (.ref AD.x_OutOfRange) (.ref AD.x_CodecError) = some true
  xn_OutOfRange_BadOctets : PySem.W.kitOne K (.ref AD.x_OutOfRange) (.ref AD.x_BadOctets) = some false
  xc_OutOfRange : ExcC K AD.x_OutOfRange
abbrev pat__law_draws_0 : Pat := (2, [], fun vs _ => vs)
abbrev pats__law_draws : List Pat := [pat__law_draws_0]
abbrev pat__law_items_0 : Pat := (2, [], fun vs _ => vs)
abbrev pats__law_items : List Pat := [pat__law_items_0]
abbrev pat_Encoder___init___0 : Pat := (1, [], fun vs _ => vs)
abbrev pats_Encoder___init__ : List Pat := [pat_Encoder___init___0]
abbrev pat__check_context_0 : Pat := (1, [], fun vs _ => vs)
abbrev pats__check_context : List Pat := [pat__check_context_0]
abbrev pat__check_decision_0 : Pat := (1, [], fun vs _ => vs)
abbrev pats__check_decision : List Pat := [pat__check_decision_0]
abbrev pat__adapted_0 : Pat := (2, [], fun vs _ => vs)
abbrev pats__adapted : List Pat := [pat__adapted_0]
abbrev pat_Encoder__carry_0 : Pat := (1, [], fun vs _ => vs)
abbrev pats_Encoder__carry : List Pat := [pat_Encoder__carry_0]
abbrev pat_Encoder__narrow_0 : Pat := (3, [], fun vs _ => vs)
abbrev pats_Encoder__narrow : List Pat := [pat_Encoder__narrow_0]
abbrev pat_Encoder_code_0 : Pat := (3, [], fun vs _ => vs)
abbrev pats_Encoder_code : List Pat := [pat_Encoder_code_0]
abbrev pat_Encoder_code_even_0 : Pat := (2, [], fun vs _ => vs)
abbrev pats_Encoder_code_even : List Pat := [pat_Encoder_code_even_0]
abbrev pat__law_code_items_0 : Pat := (2, [], fun vs _ => vs)
abbrev pats__law_code_items : List Pat := [pat__law_code_items_0]
abbrev pat_Decoder__shift_0 : Pat := (1, [], fun vs _ => vs)
abbrev pats_Decoder__shift : List Pat := [pat_Decoder__shift_0]
abbrev pat_Decoder___init___0 : Pat := (2, [], fun vs _ => vs)
abbrev pats_Decoder___init__ : List Pat := [pat_Decoder___init___0]
abbrev pat__law_cell_0 : Pat := (2, [], fun vs _ => vs)
abbrev pats__law_cell : List Pat := [pat__law_cell_0]
abbrev pat_Encoder_octets_0 : Pat := (1, [], fun vs _ => vs)
abbrev pats_Encoder_octets : List Pat := [pat_Encoder_octets_0]
abbrev pat_Decoder__decide_0 : Pat := (2, [], fun vs _ => vs)
abbrev pats_Decoder__decide : List Pat := [pat_Decoder__decide_0]
abbrev pat_Decoder_read_0 : Pat := (2, [], fun vs _ => vs)
abbrev pats_Decoder_read : List Pat := [pat_Decoder_read_0]
abbrev pat_Encoder_probability_0 : Pat := (2, [], fun vs _ => vs)
abbrev pats_Encoder_probability : List Pat := [pat_Encoder_probability_0]
abbrev pat_Decoder_probability_0 : Pat := (2, [], fun vs _ => vs)
abbrev pats_Decoder_probability : List Pat := [pat_Decoder_probability_0]
abbrev pat__law_bad_read_0 : Pat := (2, [], fun vs _ => vs)
abbrev pats__law_bad_read : List Pat := [pat__law_bad_read_0]
abbrev pat__law_bad_code_0 : Pat := (3, [], fun vs _ => vs)
abbrev pats__law_bad_code : List Pat := [pat__law_bad_code_0]
abbrev pat_Decoder_read_even_0 : Pat := (1, [], fun vs _ => vs)
abbrev pats_Decoder_read_even : List Pat := [pat_Decoder_read_even_0]
abbrev pats_law : List Pat := []
def sp__law_draws (K : PySem.W.Frag) (AD : Ads) : Sp := fun vs H Q E => ∃ (G : Hp) (cell' : Int) (a_limits : Addr) (limits' : List Int), vs = [.int cell', .ref a_limits] ∧ Same G H ∧ (hideL [] H) a_limits = some (.lst ((limits' : List Int).map V.int)) ∧ cW (F__law_draws cell' limits') (fun v => ∀ p H', H p = none → Same H H' → H' p = some (.lst (v.map V.int)) → Q (.ref p) H') (fun e => ∀ H', Same H H' → E (.ref (excA AD e)) none H')
def sp__law_items (K : PySem.W.Frag) (AD : Ads) : Sp := fun vs H Q E => ∃ (G : Hp) (a_script : Addr) (script' : List Int) (most' : Int), vs = [.ref a_script, .int most'] ∧ Same G H ∧ SqL K H a_script ((script' : List Int).map V.int) ∧ cW (F__law_items script' most') (fun v => ∀ u H' G', Same H H' → Same G G' → Same G' H' → (∀ b, H b ≠ none → G b = none → G' b = none) → Rp G' u ((encL (encT2 PyData.int PyData.int)) v) → Q u H') (fun e => ∀ H', Same H H' → E (.ref (excA AD e)) none H')
def sp_Encoder___init__ (K : PySem.W.Frag) (AD : Ads) : Sp := fun vs H Q E => ∃ (G : Hp) (p_self dx_self : Addr), vs = [.ref p_self] ∧ Same G H ∧ (∀ a ∈ [p_self], G a = none) ∧ H p_self = some (.ins AD.c_Encoder dx_self []) ∧ cW (F_Encoder___init__ ) (fun v => ∀ (H' : Hp) (l_probs l_front : Addr), SameX p_self H H' → H l_probs = none → H l_front = none → l_probs ≠ l_front → H' p_self = some (.ins AD.c_Encoder dx_self [("_probabilities", V.ref l_probs), ("_front", V.ref l_front), ("_low", V.int v.low), ("_span", V.int v.span)]) → H' l_probs = some (.lst (v.probs.map V.int)) → H' l_front = some (.lst (v.front.map V.int)) → Q .non H') (fun e => ∀ H', Same H H' → E (.ref (excA AD e)) none H')
def sp__check_context (K : PySem.W.Frag) (AD : Ads) : Sp := fun vs H Q E => ∃ (G : Hp) (context' : Int), vs = [.int context'] ∧ Same G H ∧ cW (F__check_context context') (fun v => Q .non H) (fun e => E (.ref (excA AD e)) none H)
def sp__check_decision (K : PySem.W.Frag) (AD : Ads) : Sp := fun vs H Q E => ∃ (G : Hp) (decision' : Int), vs = [.int decision'] ∧ Same G H ∧ cW (F__check_decision decision') (fun v => Q .non H) (fun e => E (.ref (excA AD e)) none H)
def sp__adapted (K : PySem.W.Frag) (AD : Ads) : Sp := fun vs H Q E => ∃ (G : Hp) (chance' : Int) (decision' : Int), vs = [.int chance', .int decision'] ∧ Same G H ∧ cW (F__adapted chance' decision') (fun v => Q (.int v) H) (fun e => E (.ref (excA AD e)) none H)
def sp_Encoder__carry (K : PySem.W.Frag) (AD : Ads) : Sp := fun vs H Q E => ∃ (G : Hp) (p_self l_self_probs l_self_front dx_self : Addr) (self' : St_Encoder), vs = [.ref p_self] ∧ Same G H ∧ (∀ a ∈ [p_self, l_self_probs, l_self_front], G a = none) ∧ H p_self = some (.ins AD.c_Encoder dx_self [("_probabilities", V.ref l_self_probs), ("_front", V.ref l_self_front), ("_low", V.int self'.low), ("_span", V.int self'.span)]) ∧ H l_self_probs = some (.lst ((self'.probs : (List Int)).map V.int)) ∧ H l_self_front = some (.lst ((self'.front : (List Int)).map V.int)) ∧ l_self_probs ≠ l_self_front ∧ cW (F_Encoder__carry self') (fun v => ∀ (H' : Hp), SameXs [p_self, l_self_probs, l_self_front] H H' → H' p_self = some (.ins AD.c_Encoder dx_self [("_probabilities", V.ref l_self_probs), ("_front", V.ref l_self_front), ("_low", V.int v.low), ("_span", V.int v.span)]) → H' l_self_probs = some (.lst ((v.probs : (List Int)).map V.int)) → H' l_self_front = some (.lst ((v.front : (List Int)).map V.int)) → Q .non H') (fun e => ∀ H', Same H H' → E (.ref (excA AD e)) none H')
def sp_Encoder__narrow (K : PySem.W.Frag) (AD : Ads) : Sp := fun vs H Q E => ∃ (G : Hp) (p_self l_self_probs l_self_front dx_self : Addr) (self' : St_Encoder) (chance' : Int) (decision' : Int), vs = [.ref p_self, .int chance', .int decision'] ∧ Same G H ∧ (∀ a ∈ [p_self, l_self_probs, l_self_front], G a = none) ∧ H p_self = some (.ins AD.c_Encoder dx_self [("_probabilities", V.ref l_self_probs), ("_front", V.ref l_self_front), ("_low", V.int self'.low), ("_span", V.int self'.span)]) ∧ H l_self_probs = some (.lst ((self'.probs : (List Int)).map V.int)) ∧ H l_self_front = some (.lst ((self'.front : (List Int)).map V.int)) ∧ l_self_probs ≠ l_self_front ∧ cW (F_Encoder__narrow self' chance' decision') (fun v => ∀ (H' : Hp), SameXs [p_self, l_self_probs, l_self_front] H H' → H' p_self = some (.ins AD.c_Encoder dx_self [("_probabilities", V.ref l_self_probs), ("_front", V.ref l_self_front), ("_low", V.int v.low), ("_span", V.int v.span)]) → H' l_self_probs = some (.lst ((v.probs : (List Int)).map V.int)) → H' l_self_front = some (.lst ((v.front : (List Int)).map V.int)) → Q .non H') (fun e => ∀ H', Same H H' → E (.ref (excA AD e)) none H')
def sp_Encoder_code (K : PySem.W.Frag) (AD : Ads) : Sp := fun vs H Q E => ∃ (G : Hp) (p_self l_self_probs l_self_front dx_self : Addr) (self' : St_Encoder) (context' : Int) (decision' : Int), vs = [.ref p_self, .int context', .int decision'] ∧ Same G H ∧ (∀ a ∈ [p_self, l_self_probs, l_self_front], G a = none) ∧ H p_self = some (.ins AD.c_Encoder dx_self [("_probabilities", V.ref l_self_probs), ("_front", V.ref l_self_front), ("_low", V.int self'.low), ("_span", V.int self'.span)]) ∧ H l_self_probs = some (.lst ((self'.probs : (List Int)).map V.int)) ∧ H l_self_front = some (.lst ((self'.front : (List Int)).map V.int)) ∧ l_self_probs ≠ l_self_front ∧ cW (F_Encoder_code self' context' decision') (fun v => ∀ (H' : Hp), SameXs [p_self, l_self_probs, l_self_front] H H' → H' p_self = some (.ins AD.c_Encoder dx_self [("_probabilities", V.ref l_self_probs), ("_front", V.ref l_self_front), ("_low", V.int v.low), ("_span", V.int v.span)]) → H' l_self_probs = some (.lst ((v.probs : (List Int)).map V.int)) → H' l_self_front = some (.lst ((v.front : (List Int)).map V.int)) → Q .non H') (fun e => ∀ H', Same H H' → E (.ref (excA AD e)) none H')
def sp_Encoder_code_even (K : PySem.W.Frag) (AD : Ads) : Sp := fun vs H Q E => ∃ (G : Hp) (p_self l_self_probs l_self_front dx_self : Addr) (self' : St_Encoder) (decision' : Int), vs = [.ref p_self, .int decision'] ∧ Same G H ∧ (∀ a ∈ [p_self, l_self_probs, l_self_front], G a = none) ∧ H p_self = some (.ins AD.c_Encoder dx_self [("_probabilities", V.ref l_self_probs), ("_front", V.ref l_self_front), ("_low", V.int self'.low), ("_span", V.int self'.span)]) ∧ H l_self_probs = some (.lst ((self'.probs : (List Int)).map V.int)) ∧ H l_self_front = some (.lst ((self'.front : (List Int)).map V.int)) ∧ l_self_probs ≠ l_self_front ∧ cW (F_Encoder_code_even self' decision') (fun v => ∀ (H' : Hp), SameXs [p_self, l_self_probs, l_self_front] H H' → H' p_self = some (.ins AD.c_Encoder dx_self [("_probabilities", V.ref l_self_probs), ("_front", V.ref l_self_front), ("_low", V.int v.low), ("_span", V.int v.span)]) → H' l_self_probs = some (.lst ((v.probs : (List Int)).map V.int)) → H' l_self_front = some (.lst ((v.front : (List Int)).map V.int)) → Q .non H') (fun e => ∀ H', Same H H' → E (.ref (excA AD e)) none H')
def sp__law_code_items (K : PySem.W.Frag) (AD : Ads) : Sp := fun vs H Q E => ∃ (G : Hp) (p_encoder l_encoder_probs l_encoder_front dx_encoder : Addr) (encoder' : St_Encoder) (v_items : V) (items' : (List (Int × Int))), vs = [.ref p_encoder, v_items] ∧ Same G H ∧ (∀ a ∈ [p_encoder, l_encoder_probs, l_encoder_front], G a = none) ∧ H p_encoder = some (.ins AD.c_Encoder dx_encoder [("_probabilities", V.ref l_encoder_probs), ("_front", V.ref l_encoder_front), ("_low", V.int encoder'.low), ("_span", V.int encoder'.span)]) ∧ H l_encoder_probs = some (.lst ((encoder'.probs : (List Int)).map V.int)) ∧ H l_encoder_front = some (.lst ((encoder'.front : (List Int)).map V.int)) ∧ l_encoder_probs ≠ l_encoder_front ∧ Rp (hideL [p_encoder, l_encoder_probs, l_encoder_front] H) v_items ((encL (encT2 PyData.int PyData.int)) items') ∧ cW (F__law_code_items encoder' items') (fun v => ∀ (H' : Hp), SameXs [p_encoder, l_encoder_probs, l_encoder_front] H H' → H' p_encoder = some (.ins AD.c_Encoder dx_encoder [("_probabilities", V.ref l_encoder_probs), ("_front", V.ref l_encoder_front), ("_low", V.int v.low), ("_span", V.int v.span)]) → H' l_encoder_probs = some (.lst ((v.probs : (List Int)).map V.int)) → H' l_encoder_front = some (.lst ((v.front : (List Int)).map V.int)) → Q .non H') (fun e => ∀ H', Same H H' → E (.ref (excA AD e)) none H')
def sp_Decoder__shift (K : PySem.W.Frag) (AD : Ads) : Sp := fun vs H Q E => ∃ (G : Hp) (p_self l_self_probs l_self_octs dx_self : Addr) (self' : St_Decoder), vs = [.ref p_self] ∧ Same G H ∧ (∀ a ∈ [p_self, l_self_probs, l_self_octs], G a = none) ∧ H p_self = some (.ins AD.c_Decoder dx_self [("_probabilities", V.ref l_self_probs), ("_octets", V.ref l_self_octs), ("_place", V.int self'.place), ("_span", V.int self'.span), ("_value", V.int self'.value)]) ∧ H l_self_probs = some (.lst ((self'.probs : (List Int)).map V.int)) ∧ H l_self_octs = some (.lst ((self'.octs : (List Int)).map V.int)) ∧ l_self_probs ≠ l_self_octs ∧ cW (F_Decoder__shift self') (fun v => ∀ (H' : Hp), SameXs [p_self, l_self_probs, l_self_octs] H H' → H' p_self = some (.ins AD.c_Decoder dx_self [("_probabilities", V.ref l_self_probs), ("_octets", V.ref l_self_octs), ("_place", V.int v.place), ("_span", V.int v.span), ("_value", V.int v.value)]) → H' l_self_probs = some (.lst ((v.probs : (List Int)).map V.int)) → H' l_self_octs = some (.lst ((v.octs : (List Int)).map V.int)) → Q .non H') (fun e => ∀ H', Same H H' → E (.ref (excA AD e)) none H')
def sp_Decoder___init__ (K : PySem.W.Frag) (AD : Ads) : Sp := fun vs H Q E => ∃ (G : Hp) (p_self dx_self : Addr) (a_octets : Addr) (octets' : List Int), vs = [.ref p_self, .ref a_octets] ∧ Same G H ∧ (∀ a ∈ [p_self], G a = none) ∧ H p_self = some (.ins AD.c_Decoder dx_self []) ∧ (hideL [p_self] H) a_octets = some (.lst ((octets' : List Int).map V.int)) ∧ cW (F_Decoder___init__ octets') (fun v => ∀ (H' : Hp) (l_probs l_octs : Addr), SameX p_self H H' → H l_probs = none → H l_octs = none → l_probs ≠ l_octs → H' p_self = some (.ins AD.c_Decoder dx_self [("_probabilities", V.ref l_probs), ("_octets", V.ref l_octs), ("_place", V.int v.place), ("_span", V.int v.span), ("_value", V.int v.value)]) → H' l_probs = some (.lst (v.probs.map V.int)) → H' l_octs = some (.lst (v.octs.map V.int)) → Q .non H') (fun e => ∀ H', Same H H' → E (.ref (excA AD e)) none H')
def sp__law_cell (K : PySem.W.Frag) (AD : Ads) : Sp := fun vs H Q E => ∃ (G : Hp) (a_script : Addr) (script' : List Int) (k' : Int), vs = [.ref a_script, .int k'] ∧ Same G H ∧ SqL K H a_script ((script' : List Int).map V.int) ∧ cW (F__law_cell script' k') (fun v => Q (.int v) H) (fun e => E (.ref (excA AD e)) none H)
def sp_Encoder_octets (K : PySem.W.Frag) (AD : Ads) : Sp := fun vs H Q E => ∃ (G : Hp) (p_self l_self_probs l_self_front dx_self : Addr) (self' : St_Encoder), vs = [.ref p_self] ∧ Same G H ∧ (hideL [] H) p_self = some (.ins AD.c_Encoder dx_self [("_probabilities", V.ref l_self_probs), ("_front", V.ref l_self_front), ("_low", V.int self'.low), ("_span", V.int self'.span)]) ∧ (hideL [] H) l_self_probs = some (.lst ((self'.probs : (List Int)).map V.int)) ∧ (hideL [] H) l_self_front = some (.lst ((self'.front : (List Int)).map V.int)) ∧ cW (F_Encoder_octets self') (fun v => ∀ p H', H p = none → Same H H' → H' p = some (.lst (v.map V.int)) → Q (.ref p) H') (fun e => ∀ H', Same H H' → E (.ref (excA AD e)) none H')
def sp_Decoder__decide (K : PySem.W.Frag) (AD : Ads) : Sp := fun vs H Q E => ∃ (G : Hp) (p_self l_self_probs l_self_octs dx_self : Addr) (self' : St_Decoder) (chance' : Int), vs = [.ref p_self, .int chance'] ∧ Same G H ∧ (∀ a ∈ [p_self, l_self_probs, l_self_octs], G a = none) ∧ H p_self = some (.ins AD.c_Decoder dx_self [("_probabilities", V.ref l_self_probs), ("_octets", V.ref l_self_octs), ("_place", V.int self'.place), ("_span", V.int self'.span), ("_value", V.int self'.value)]) ∧ H l_self_probs = some (.lst ((self'.probs : (List Int)).map V.int)) ∧ H l_self_octs = some (.lst ((self'.octs : (List Int)).map V.int)) ∧ l_self_probs ≠ l_self_octs ∧ cW (F_Decoder__decide self' chance') (fun v => ∀ (H' : Hp), SameXs [p_self, l_self_probs, l_self_octs] H H' → H' p_self = some (.ins AD.c_Decoder dx_self [("_probabilities", V.ref l_self_probs), ("_octets", V.ref l_self_octs), ("_place", V.int v.2.place), ("_span", V.int v.2.span), ("_value", V.int v.2.value)]) → H' l_self_probs = some (.lst ((v.2.probs : (List Int)).map V.int)) → H' l_self_octs = some (.lst ((v.2.octs : (List Int)).map V.int)) → Q (.int v.1) H') (fun e => ∀ H', Same H H' → E (.ref (excA AD e)) none H')
def sp_Decoder_read (K : PySem.W.Frag) (AD : Ads) : Sp := fun vs H Q E => ∃ (G : Hp) (p_self l_self_probs l_self_octs dx_self : Addr) (self' : St_Decoder) (context' : Int), vs = [.ref p_self, .int context'] ∧ Same G H ∧ (∀ a ∈ [p_self, l_self_probs, l_self_octs], G a = none) ∧ H p_self = some (.ins AD.c_Decoder dx_self [("_probabilities", V.ref l_self_probs), ("_octets", V.ref l_self_octs), ("_place", V.int self'.place), ("_span", V.int self'.span), ("_value", V.int self'.value)]) ∧ H l_self_probs = some (.lst ((self'.probs : (List Int)).map V.int)) ∧ H l_self_octs = some (.lst ((self'.octs : (List Int)).map V.int)) ∧ l_self_probs ≠ l_self_octs ∧ cW (F_Decoder_read self' context') (fun v => ∀ (H' : Hp), SameXs [p_self, l_self_probs, l_self_octs] H H' → H' p_self = some (.ins AD.c_Decoder dx_self [("_probabilities", V.ref l_self_probs), ("_octets", V.ref l_self_octs), ("_place", V.int v.2.place), ("_span", V.int v.2.span), ("_value", V.int v.2.value)]) → H' l_self_probs = some (.lst ((v.2.probs : (List Int)).map V.int)) → H' l_self_octs = some (.lst ((v.2.octs : (List Int)).map V.int)) → Q (.int v.1) H') (fun e => ∀ H', Same H H' → E (.ref (excA AD e)) none H')
def sp_Encoder_probability (K : PySem.W.Frag) (AD : Ads) : Sp := fun vs H Q E => ∃ (G : Hp) (p_self l_self_probs l_self_front dx_self : Addr) (self' : St_Encoder) (context' : Int), vs = [.ref p_self, .int context'] ∧ Same G H ∧ (hideL [] H) p_self = some (.ins AD.c_Encoder dx_self [("_probabilities", V.ref l_self_probs), ("_front", V.ref l_self_front), ("_low", V.int self'.low), ("_span", V.int self'.span)]) ∧ (hideL [] H) l_self_probs = some (.lst ((self'.probs : (List Int)).map V.int)) ∧ (hideL [] H) l_self_front = some (.lst ((self'.front : (List Int)).map V.int)) ∧ cW (F_Encoder_probability self' context') (fun v => ∀ H', Same H H' → Q (.int v) H') (fun e => ∀ H', Same H H' → E (.ref (excA AD e)) none H')
def sp_Decoder_probability (K : PySem.W.Frag) (AD : Ads) : Sp := fun vs H Q E => ∃ (G : Hp) (p_self l_self_probs l_self_octs dx_self : Addr) (self' : St_Decoder) (context' : Int), vs = [.ref p_self, .int context'] ∧ Same G H ∧ (hideL [] H) p_self = some (.ins AD.c_Decoder dx_self [("_probabilities", V.ref l_self_probs), ("_octets", V.ref l_self_octs), ("_place", V.int self'.place), ("_span", V.int self'.span), ("_value", V.int self'.value)]) ∧ (hideL [] H) l_self_probs = some (.lst ((self'.probs : (List Int)).map V.int)) ∧ (hideL [] H) l_self_octs = some (.lst ((self'.octs : (List Int)).map V.int)) ∧ cW (F_Decoder_probability self' context') (fun v => ∀ H', Same H H' → Q (.int v) H') (fun e => ∀ H', Same H H' → E (.ref (excA AD e)) none H')
def sp__law_bad_read (K : PySem.W.Frag) (AD : Ads) : Sp := fun vs H Q E => ∃ (G : Hp) (p_decoder l_decoder_probs l_decoder_octs dx_decoder : Addr) (decoder' : St_Decoder) (context' : Int), vs = [.ref p_decoder, .int context'] ∧ Same G H ∧ (∀ a ∈ [p_decoder, l_decoder_probs, l_decoder_octs], G a = none) ∧ H p_decoder = some (.ins AD.c_Decoder dx_decoder [("_probabilities", V.ref l_decoder_probs), ("_octets", V.ref l_decoder_octs), ("_place", V.int decoder'.place), ("_span", V.int decoder'.span), ("_value", V.int decoder'.value)]) ∧ H l_decoder_probs = some (.lst ((decoder'.probs : (List Int)).map V.int)) ∧ H l_decoder_octs = some (.lst ((decoder'.octs : (List Int)).map V.int)) ∧ l_decoder_probs ≠ l_decoder_octs ∧ cW (F__law_bad_read decoder' context') (fun v => ∀ (H' : Hp), SameXs [p_decoder, l_decoder_probs, l_decoder_octs] H H' → H' p_decoder = some (.ins AD.c_Decoder dx_decoder [("_probabilities", V.ref l_decoder_probs), ("_octets", V.ref l_decoder_octs), ("_place", V.int v.2.place), ("_span", V.int v.2.span), ("_value", V.int v.2.value)]) → H' l_decoder_probs = some (.lst ((v.2.probs : (List Int)).map V.int)) → H' l_decoder_octs = some (.lst ((v.2.octs : (List Int)).map V.int)) → Q (.bl v.1) H') (fun e => ∀ H', Same H H' → E (.ref (excA AD e)) none H')
def sp__law_bad_code (K : PySem.W.Frag) (AD : Ads) : Sp := fun vs H Q E => ∃ (G : Hp) (p_encoder l_encoder_probs l_encoder_front dx_encoder : Addr) (encoder' : St_Encoder) (context' : Int) (decision' : Int), vs = [.ref p_encoder, .int context', .int decision'] ∧ Same G H ∧ (∀ a ∈ [p_encoder, l_encoder_probs, l_encoder_front], G a = none) ∧ H p_encoder = some (.ins AD.c_Encoder dx_encoder [("_probabilities", V.ref l_encoder_probs), ("_front", V.ref l_encoder_front), ("_low", V.int encoder'.low), ("_span", V.int encoder'.span)]) ∧ H l_encoder_probs = some (.lst ((encoder'.probs : (List Int)).map V.int)) ∧ H l_encoder_front = some (.lst ((encoder'.front : (List Int)).map V.int)) ∧ l_encoder_probs ≠ l_encoder_front ∧ cW (F__law_bad_code encoder' context' decision') (fun v => ∀ (H' : Hp), SameXs [p_encoder, l_encoder_probs, l_encoder_front] H H' → H' p_encoder = some (.ins AD.c_Encoder dx_encoder [("_probabilities", V.ref l_encoder_probs), ("_front", V.ref l_encoder_front), ("_low", V.int v.2.low), ("_span", V.int v.2.span)]) → H' l_encoder_probs = some (.lst ((v.2.probs : (List Int)).map V.int)) → H' l_encoder_front = some (.lst ((v.2.front : (List Int)).map V.int)) → Q (.bl v.1) H') (fun e => ∀ H', Same H H' → E (.ref (excA AD e)) none H')
def sp_Decoder_read_even (K : PySem.W.Frag) (AD : Ads) : Sp := fun vs H Q E => ∃ (G : Hp) (p_self l_self_probs l_self_octs dx_self : Addr) (self' : St_Decoder), vs = [.ref p_self] ∧ Same G H ∧ (∀ a ∈ [p_self, l_self_probs, l_self_octs], G a = none) ∧ H p_self = some (.ins AD.c_Decoder dx_self [("_probabilities", V.ref l_self_probs), ("_octets", V.ref l_self_octs), ("_place", V.int self'.place), ("_span", V.int self'.span), ("_value", V.int self'.value)]) ∧ H l_self_probs = some (.lst ((self'.probs : (List Int)).map V.int)) ∧ H l_self_octs = some (.lst ((self'.octs : (List Int)).map V.int)) ∧ l_self_probs ≠ l_self_octs ∧ cW (F_Decoder_read_even self') (fun v => ∀ (H' : Hp), SameXs [p_self, l_self_probs, l_self_octs] H H' → H' p_self = some (.ins AD.c_Decoder dx_self [("_probabilities", V.ref l_self_probs), ("_octets", V.ref l_self_octs), ("_place", V.int v.2.place), ("_span", V.int v.2.span), ("_value", V.int v.2.value)]) → H' l_self_probs = some (.lst ((v.2.probs : (List Int)).map V.int)) → H' l_self_octs = some (.lst ((v.2.octs : (List Int)).map V.int)) → Q (.int v.1) H') (fun e => ∀ H', Same H H' → E (.ref (excA AD e)) none H')
def sp_law (K : PySem.W.Frag) (AD : Ads) : Sp := fun vs H Q E => ∃ (a_script : Addr) (script : List Int), vs = [.ref a_script] ∧ SqL K H a_script (script.map V.int) ∧ cW (F_law script) (fun v => v = true) (fun _ => False) ∧ ∀ H', Q (.bl true) H'
section
variable {P : Program} {w : World} {K : PySem.W.Frag} {mg : Str → Option Value} {base : Heap} {AD : Ads}
abbrev N__law_draws : List Str := ["cell", "limits", "found", "rest", "state", "free", "limit"]
theorem sc__law_draws : FnScope N__law_draws ["cell", "limits"] (defScope s__law_draws) := ⟨rfl, rfl, rfl, by decide +kernel, rfl, by decide +kernel, by decide +kernel⟩
theorem ok__law_draws (D : DefX K mg "_law_draws" s__law_draws ["cell", "limits"] pats__law_draws) (T : Txt K mg AD)  : CalX P w K mg base 1 "_law_draws" (sp__law_draws K AD) pats__law_draws := by
  refine D.ok sc__law_draws (fun vs H Q E h => ?_) (fun f cdv A_ outer s H vs Q E hr h => ?_)
  · obtain ⟨G, cell', a_limits, limits', rfl, _⟩ := h
    rfl
  · obtain ⟨G, cell', a_limits, limits', rfl, sG, q_limits, hw⟩ := h
    refine ⟨_, (pss_cons (ps_set (i := 2) sc__law_draws.nd rfl (Or.inl rfl) (pe_lst pa_nil))
      (pss_cons (ps_set (i := 3) sc__law_draws.nd rfl (Or.inl rfl) (pe_callB call_abs (by rfl) T.b_abs (by decide +kernel) (pa_cons (pe_callTy call_int1 (by rfl) T.b_int (by decide +kernel) (pa_cons (pv 0) pa_nil)) pa_nil)))
      (pss_cons (ps_set (i := 4) sc__law_draws.nd rfl (Or.inl rfl) (pe_op op_mod (pe_callTy call_int1 (by rfl) T.b_int (by decide +kernel) (pa_cons (pv 3) pa_nil)) pe_int))
      (pss_cons (ps_set (i := 5) sc__law_draws.nd rfl (Or.inl rfl) (pe_or (pe_cmp (pc_lt (pv 0) pe_int)) (pe_one (pe_cmp (pc_ge (pv 0) (pe_op op_pow pe_int pe_int))))))
      (pss_cons (ps_for (passes_of rfl) rfl (pi_listK (K := K) (pv 1)) (pg_name (i := 6) sc__law_draws.nd rfl (Or.inl rfl)) (pss_one (ps_if (PW.pt (pw_and (pt_val (pv 5)) (pw_and1 (pt_cmp (pc_gt (pv 3) pe_int))))) (pss_cons (ps_expr (pe_bm PySem.F.plainAttrs_list PySem.F.slot_list_append PySem.F.type_list_append mt_append (pv 2) (pa_cons (pe_op op_mod (pe_callTy call_int1 (by rfl) T.b_int (by decide +kernel) (pa_cons (pv 3) pa_nil)) (pv 6)) pa_nil)))
      (pss_one (ps_set (i := 3) sc__law_draws.nd rfl (Or.inl rfl) (pe_op op_fdivW (pv 3) (pv 6))))) (pss_cons (ps_set (i := 4) sc__law_draws.nd rfl (Or.inl rfl) (pe_op op_mod (pe_callTy call_int1 (by rfl) T.b_int (by decide +kernel) (pa_cons (pe_op op_add (pe_op op_mul (pv 4) pe_int) pe_int) pa_nil)) pe_int))
      (pss_cons (ps_set (i := 4) sc__law_draws.nd rfl (Or.inl rfl) (pe_op op_mod (pe_callTy call_int1 (by rfl) T.b_int (by decide +kernel) (pa_cons (pe_op op_add (pe_op op_mul (pv 4) pe_int) pe_int) pa_nil)) pe_int))
      (pss_one (ps_expr (pe_bm PySem.F.plainAttrs_list PySem.F.slot_list_append PySem.F.type_list_append mt_append (pv 2) (pa_cons (pe_op op_mod (pe_callTy call_int1 (by rfl) T.b_int (by decide +kernel) (pa_cons (pe_op op_fdivW (pv 4) pe_int) pa_nil)) (pv 6)) pa_nil)))))))))
      (pss_one (ps_ret (pv 2)))))))), ?_⟩
    obtain ⟨KK, EE, hK0, hE, hw⟩ := cW_gen hw
    have S0 := Sep.startG sG
    unfold F__law_draws at hw
    refine ⟨(by show 0 ≤ sizeLine; decide), fun p1 n2 => ?_⟩
    generalize g3 : upd H p1 _ = H4
    obtain ⟨e5, h6⟩ := gen_new n2 g3
    have h7 : H4 p1 = some (.lst ((([] : (List Int)) : (List Int)).map V.int)) := h6
    have fr8 := S0.free n2
    have S9 := S0.new n2 e5 h7 fr8
    refine ⟨_, rfl, .inl ⟨_, rfl, ?_⟩⟩
    refine ⟨_, rfl, ?_⟩
    have hw := cW_bnd hw
    refine ⟨_, rfl, .inl ⟨_, rfl, ?_⟩⟩
    refine ⟨_, _, rfl, rfl, (show (0 : Int) < 2147483647 by decide), ?_⟩
    have hw := cW_bnd hw
    refine vv_or (ta := (tLt (tVar 0) (tC (V.int 0)))) (tb := (tGe (tVar 0) (tOp (rI CPow fun i j => V.int (i ^ j.toNat)) (tC (V.int 10)) (tC (V.int 18))))) (a := decide (cell' < 0)) (b := decide (((10 : Int) ^ Int.toNat 18) ≤ cell')) ?ha12 ?hb13 _ ?_
    case ha12 => exact (vv_cmp (val_var rfl) val_c (fun Q q => ⟨_, _, rfl, rfl, q⟩))
    case hb13 => exact (vv_cmp (val_var rfl) (val_op val_c val_c (fun Q q => ⟨_, _, rfl, rfl, ⟨by decide, by decide, by decide⟩, q⟩)) (fun Q q => ⟨_, _, rfl, rfl, q⟩))
    have hw := cW_bnd hw
    obtain ⟨K16, hK17, hw⟩ := cW_push hw
    refine ⟨_, rfl, _, rfl, ⟨_, (SqL.of (S9.bM _ _ q_limits))⟩, for_list (K := K) (a := a_limits) (xs := (limits' : List Int).map V.int) (fun i σ H' => ∃ (found_18 : (List Int)) (rest_19 : Int) (state_20 : Int) (u21 : Option V) (G' : Hp), σ = [some (V.int (cell')), some (V.ref a_limits), some (V.ref p1), some (V.int rest_19), some (V.int state_20), some (V.bl ((decide (cell' < 0) || decide (((10 : Int) ^ Int.toNat 18) ≤ cell')))), u21] ∧ Same G G' ∧ Sep [] H G G' H' [p1] ∧ H' p1 = some (.lst ((found_18 : (List Int)).map V.int)) ∧ cW (forS (List.drop i (limits')) (found_18, rest_19, state_20) (fun s x => F__law_draws_b1 ((decide (cell' < 0) || decide (((10 : Int) ^ Int.toNat 18) ≤ cell'))) (s.1) (s.2.1) (s.2.2) x)) K16 EE) ?_ ?_ ?_ ?_⟩
    · exact ⟨(([] : (List Int))), ((if cell' < 0 then -cell' else cell')), (((if cell' < 0 then -cell' else cell') % 2147483647)), _, _, rfl, (Same.refl _), S9, h7, hw⟩
    · intro i σ H22 _ hw
      obtain ⟨found_18, rest_19, state_20, u21, G25, rfl, eG26, S23, h24, hw⟩ := hw
      exact (SqL.of (S23.bM _ _ q_limits))
    · intro i x σ H27 hj hw
      obtain ⟨found_18, rest_19, state_20, u21, G30, rfl, eG31, S28, h29, hw⟩ := hw
      obtain ⟨x32, hx, rfl⟩ := map_get hj
      have hw := cW_forS hx hw
      have hw : cW (F__law_draws_b1 ((decide (cell' < 0) || decide (((10 : Int) ^ Int.toNat 18) ≤ cell'))) (found_18) (rest_19) (state_20) (x32)) _ EE := hw
      unfold F__law_draws_b1 at hw
      obtain ⟨K36, hK37, hw⟩ := cW_name hw
      refine ⟨_, rfl, _, rfl, ?_⟩
      refine iteB (fun c39 => ?_) (fun c39 => ?_)
      · have hw := cW_pos c39 hw
        refine ⟨_, rfl, _, _, rfl, rfl, _, rfl, ?_⟩
        refine iteD (fun c40 => ?_) (fun c40 => ?_)
        · have hw := cW_pos c40 hw
          refine ⟨_, rfl, (.inl ⟨rfl, _, SqL.of h29⟩), _, rfl, .inl ⟨_, rfl, ?_⟩⟩
          obtain ⟨g41, hw⟩ := cW_grd hw
          obtain ⟨g42, hw⟩ := cW_grd hw
          refine ⟨_, rfl, _, _, rfl, rfl, g41, _, _, _, rfl, rfl, h29, (app_lenM g42), ?_⟩
          generalize g43 : upd H27 p1 _ = H44
          obtain ⟨x45, h46⟩ := gen_mut g43
          have h47 : H44 p1 = some (.lst (((found_18) ++ [(rest_19 % x32)] : (List Int)).map V.int)) := snoc_map h46
          have S48 := S28.mut1 x45 (.head _) h47
          have hw := cW_bnd hw
          obtain ⟨g50, hw⟩ := cW_grd hw
          refine ⟨_, rfl, _, rfl, _, _, rfl, rfl, (divW_small g50.1 g50.2), ?_⟩
          have hw := cW_bnd hw
          have hw := cW_ok hw
          have hw := hK37 _ hw
          exact ⟨((found_18) ++ [(rest_19 % x32)]), ((rest_19 / x32)), (state_20), _, _, rfl, eG31, S48, h47, hw⟩
        · have hw := cW_neg c40 hw
          refine ⟨_, rfl, _, _, rfl, rfl, (.inr ⟨by decide, by decide⟩), _, _, rfl, rfl, .inl ⟨_, rfl, ?_⟩⟩
          refine ⟨_, _, rfl, rfl, (show (0 : Int) < 2147483647 by decide), ?_⟩
          have hw := cW_bnd hw
          refine ⟨_, rfl, _, _, rfl, rfl, (.inr ⟨by decide, by decide⟩), _, _, rfl, rfl, .inl ⟨_, rfl, ?_⟩⟩
          refine ⟨_, _, rfl, rfl, (show (0 : Int) < 2147483647 by decide), ?_⟩
          have hw := cW_bnd hw
          refine ⟨_, rfl, (.inl ⟨rfl, _, SqL.of h29⟩), _, rfl, _, _, rfl, rfl, (divW_lit (by decide) (by decide)), .inl ⟨_, rfl, ?_⟩⟩
          obtain ⟨g54, hw⟩ := cW_grd hw
          obtain ⟨g55, hw⟩ := cW_grd hw
          refine ⟨_, rfl, _, _, rfl, rfl, g54, _, _, _, rfl, rfl, h29, (app_lenM g55), ?_⟩
          generalize g56 : upd H27 p1 _ = H57
          obtain ⟨x58, h59⟩ := gen_mut g56
          have h60 : H57 p1 = some (.lst (((found_18) ++ [((((((((state_20 * 48271) + 11) % 2147483647) * 69621) + 7) % 2147483647) / 13) % x32)] : (List Int)).map V.int)) := snoc_map h59
          have S61 := S28.mut1 x58 (.head _) h60
          have hw := cW_bnd hw
          have hw := cW_ok hw
          have hw := hK37 _ hw
          exact ⟨((found_18) ++ [((((((((state_20 * 48271) + 11) % 2147483647) * 69621) + 7) % 2147483647) / 13) % x32)]), (rest_19), (((((((state_20 * 48271) + 11) % 2147483647) * 69621) + 7) % 2147483647)), _, _, rfl, eG31, S61, h60, hw⟩
      · have hw := cW_negB c39 hw
        refine iteF ?_
        refine ⟨_, rfl, _, _, rfl, rfl, (.inr ⟨by decide, by decide⟩), _, _, rfl, rfl, .inl ⟨_, rfl, ?_⟩⟩
        refine ⟨_, _, rfl, rfl, (show (0 : Int) < 2147483647 by decide), ?_⟩
        have hw := cW_bnd hw
        refine ⟨_, rfl, _, _, rfl, rfl, (.inr ⟨by decide, by decide⟩), _, _, rfl, rfl, .inl ⟨_, rfl, ?_⟩⟩
        refine ⟨_, _, rfl, rfl, (show (0 : Int) < 2147483647 by decide), ?_⟩
        have hw := cW_bnd hw
        refine ⟨_, rfl, (.inl ⟨rfl, _, SqL.of h29⟩), _, rfl, _, _, rfl, rfl, (divW_lit (by decide) (by decide)), .inl ⟨_, rfl, ?_⟩⟩
        obtain ⟨g65, hw⟩ := cW_grd hw
        obtain ⟨g66, hw⟩ := cW_grd hw
        refine ⟨_, rfl, _, _, rfl, rfl, g65, _, _, _, rfl, rfl, h29, (app_lenM g66), ?_⟩
        generalize g67 : upd H27 p1 _ = H68
        obtain ⟨x69, h70⟩ := gen_mut g67
        have h71 : H68 p1 = some (.lst (((found_18) ++ [((((((((state_20 * 48271) + 11) % 2147483647) * 69621) + 7) % 2147483647) / 13) % x32)] : (List Int)).map V.int)) := snoc_map h70
        have S72 := S28.mut1 x69 (.head _) h71
        have hw := cW_bnd hw
        have hw := cW_ok hw
        have hw := hK37 _ hw
        exact ⟨((found_18) ++ [((((((((state_20 * 48271) + 11) % 2147483647) * 69621) + 7) % 2147483647) / 13) % x32)]), (rest_19), (((((((state_20 * 48271) + 11) % 2147483647) * 69621) + 7) % 2147483647)), _, _, rfl, eG31, S72, h71, hw⟩
    · intro σ H74 hw
      obtain ⟨found_18, rest_19, state_20, u21, G77, rfl, eG78, S75, h76, hw⟩ := hw
      have hw := hK17 _ (cW_forS0 (by rw [List.length_map]) hw)
      have hw : cW (F__law_draws_r1  (found_18) (rest_19) (state_20)) _ EE := hw
      unfold F__law_draws_r1 at hw
      refine ⟨_, rfl, ?_⟩
      have hw := cW_ok hw
      exact hK0 _ hw _ _ fr8 S75.b0 h76

abbrev N__law_items : List Str := ["script", "most", "items", "cell", "draws", "context", "bits", "k"]
theorem sc__law_items : FnScope N__law_items ["script", "most"] (defScope s__law_items) := ⟨rfl, rfl, rfl, by decide +kernel, rfl, by decide +kernel, by decide +kernel⟩
theorem ok__law_items (D : DefX K mg "_law_items" s__law_items ["script", "most"] pats__law_items) (T : Txt K mg AD) (c__law_draws : CalX P w K mg base 1 "_law_draws" (sp__law_draws K AD) pats__law_draws) : CalX P w K mg base 2 "_law_items" (sp__law_items K AD) pats__law_items := by
  refine D.ok sc__law_items (fun vs H Q E h => ?_) (fun f cdv A_ outer s H vs Q E hr h => ?_)
  · obtain ⟨G, a_script, script', most', rfl, _⟩ := h
    rfl
  · obtain ⟨G, a_script, script', most', rfl, sG, q_script, hw⟩ := h
    refine ⟨_, (pss_cons (ps_set (i := 2) sc__law_items.nd rfl (Or.inl rfl) (pe_lst pa_nil))
      (pss_cons (ps_for (passes_of rfl) rfl (pi_listK (K := K) (pv 0)) (pg_name (i := 3) sc__law_items.nd rfl (Or.inl rfl)) (pss_cons (ps_set (i := 4) sc__law_items.nd rfl (Or.inl rfl) (vx_callX c__law_draws pat__law_draws_0 (.head _) hr (by decide) (takes_of rfl rfl rfl rfl) rfl (pa_cons (pv 3) (pa_cons (pe_lst (pa_cons pe_int (pa_cons pe_int (pa_cons pe_int (pa_cons pe_int (pa_cons pe_int pa_nil)))))) pa_nil)) pk_nil))
      (pss_cons (ps_set (i := 5) sc__law_items.nd rfl (Or.inr rfl) (pe_ix (ix_listK (K := K)) (pe_lst (pa_cons pe_int (pa_cons pe_int (pa_cons pe_int (pa_cons pe_int (pa_cons (pe_ix (ix_listK (K := K)) (pv 4) pe_int (fun _ _ => rfl)) (pa_cons (pe_ix (ix_listK (K := K)) (pv 4) pe_int (fun _ _ => rfl)) (pa_cons (pe_ix (ix_listK (K := K)) (pv 4) pe_int (fun _ _ => rfl)) (pa_cons (pe_un un_neg pe_int) pa_nil))))))))) (pe_ix (ix_listK (K := K)) (pv 4) pe_int (fun _ _ => rfl)) (fun _ _ => rfl)))
      (pss_one (ps_if (pt_cmp (pc_lt (pe_ix (ix_listK (K := K)) (pv 4) pe_int (fun _ _ => rfl)) pe_int)) (pss_one (ps_set (i := 2) sc__law_items.nd rfl (Or.inl rfl) (pe_op op_cat (pv 2) (pe_op op_rep (pe_lst (pa_cons (pe_tup (pa_cons (pv 5) (pa_cons (pe_ix (ix_listK (K := K)) (pv 4) pe_int (fun _ _ => rfl)) pa_nil))) pa_nil)) (pe_ix (ix_listK (K := K)) (pv 4) pe_int (fun _ _ => rfl)))))) (pss_cons (ps_set (i := 6) sc__law_items.nd rfl (Or.inr rfl) (vx_callX c__law_draws pat__law_draws_0 (.head _) hr (by decide) (takes_of rfl rfl rfl rfl) rfl (pa_cons (pe_op op_fdivW (pe_callTy call_int1 (by rfl) T.b_int (by decide +kernel) (pa_cons (pv 3) pa_nil)) pe_int) (pa_cons (pe_op op_rep (pe_lst (pa_cons pe_int pa_nil)) (pe_ix (ix_listK (K := K)) (pv 4) pe_int (fun _ _ => rfl))) pa_nil)) pk_nil))
      (pss_one (ps_set (i := 2) sc__law_items.nd rfl (Or.inl rfl) (pe_op op_cat (pv 2) (pe_lc (own := [("k", 7)]) (g := gName 7) (by rfl) sc__law_items.nd (pi_range1 rfl T.b_range (pa_cons (pe_callB (call_lenLiK (K := K)) (by rfl) T.b_len (by decide +kernel) (pa_cons (pv 6) pa_nil)) pa_nil)) (blkOk_by (own := [("k", 7)]) (N := N__law_items) (sc := defScope s__law_items) (by decide +kernel)) (fun _ _ _ _ _ => (pg_name (i := 7) sc__law_items.nd rfl (Or.inl rfl))) (fun _ _ _ _ _ => pts_nil) (fun _ _ _ _ _ => (pe_tup (pa_cons (pe_op op_sub (pe_op op_mul (pe_op op_add (pv 5) pe_int) (pe_callTy call_int1 (by rfl) T.b_int (by decide +kernel) (pa_cons (pe_cmp (pc_gt (pe_op op_mod (pe_callTy call_int1 (by rfl) T.b_int (by decide +kernel) (pa_cons (pv 7) pa_nil)) pe_int) pe_int)) pa_nil))) pe_int) (pa_cons (pe_ix (ix_listK (K := K)) (pv 6) (pv 7) (fun _ _ => rfl)) pa_nil))))))))))))))
      (pss_one (ps_ret (pe_slice (sl_listK (K := K)) (pv 2) po_none (po_some (pv 1))))))), ?_⟩
    obtain ⟨KK, EE, hK0, hE, hw⟩ := cW_gen hw
    have S0 := Sep.startG sG
    unfold F__law_items at hw
    refine ⟨(by show 0 ≤ sizeLine; decide), fun p82 n83 => ?_⟩
    generalize g84 : upd H p82 _ = H85
    obtain ⟨e86, h87⟩ := gen_new n83 g84
    have h88 : H85 p82 = some (.lst ([])) := h87
    have fr89 := S0.free n83
    have S90 := S0.new n83 e86 h88 fr89
    have d91 : RpAll G ([]) ((([] : (List (Int × Int))) : (List (Int × Int))).map (encT2 PyData.int PyData.int)) := RpAll.nil
    obtain ⟨K93, hK94, hw⟩ := cW_push hw
    refine ⟨_, rfl, _, rfl, ⟨_, (S90.b0.seq q_script)⟩, for_list (K := K) (a := a_script) (xs := (script' : List Int).map V.int) (fun i σ H' => ∃ (items_95 : (List (Int × Int))) (u96 : V) (u97 : Option V) (u98 : Option V) (u99 : Option V) (u100 : Option V) (G' : Hp), σ = [some (V.ref a_script), some (V.int (most')), some u96, u97, u98, u99, u100, none] ∧ Same G G' ∧ Sep [] H G G' H' [] ∧ Rp G' u96 ((encL (encT2 PyData.int PyData.int)) items_95) ∧ cW (forS (List.drop i (script')) items_95 (fun s x => F__law_items_b1  s x)) K93 EE) ?_ ?_ ?_ ?_⟩
    · obtain ⟨G101, eG102, hg103, S104⟩ := Sep.freeze (O' := []) S90 (.head _) h88 fr89 (all_nil)
      exact ⟨(([] : (List (Int × Int)))), _, _, _, _, _, _, rfl, eG102, S104, (rp_mk_list hg103 (RpAll.mono eG102 d91)), hw⟩
    · intro i σ H105 _ hw
      obtain ⟨items_95, u96, u97, u98, u99, u100, G108, rfl, eG109, S106, r107, hw⟩ := hw
      obtain ⟨a110, vs111, rfl, h112, d113⟩ := rp_list r107
      exact (S106.b0.seq q_script)
    · intro i x σ H114 hj hw
      obtain ⟨items_95, u96, u97, u98, u99, u100, G117, rfl, eG118, S115, r116, hw⟩ := hw
      obtain ⟨a119, vs120, rfl, h121, d122⟩ := rp_list r116
      obtain ⟨x123, hx, rfl⟩ := map_get hj
      have hw := cW_forS hx hw
      have hw : cW (F__law_items_b1  (items_95) (x123)) _ EE := hw
      unfold F__law_items_b1 at hw
      obtain ⟨K125, hK126, hw⟩ := cW_name hw
      refine ⟨_, rfl, (by show 5 ≤ sizeLine; decide), fun p128 n129 => ?_⟩
      generalize g130 : upd H114 p128 _ = H131
      obtain ⟨e132, h133⟩ := gen_new n129 g130
      have h134 : H131 p128 = some (.lst (([4, 8, 256, 2, 40] : (List Int)).map V.int)) := h133
      have fr135 := S115.free n129
      have S136 := S115.new n129 e132 h134 fr135
      refine ⟨rfl, rfl, G117, _, _, _, rfl, S136.sG, (hide_nil h134), cW_call hw (fun v137 hw p140 H138 n141 e139 h142 => ?_) (fun e he H2 e2 => hE e he H2 (Same.trans S136.b0 e2))⟩
      have h143 : H138 p140 = some (.lst ((v137 : (List Int)).map V.int)) := h142
      have fr144 := S136.free n141
      have S145 := S136.new n141 e139 h143 fr144
      obtain ⟨g146, hw⟩ := cW_grd hw
      obtain ⟨g147, hw⟩ := cW_grd hw
      obtain ⟨g148, hw⟩ := cW_grd hw
      refine ⟨_, rfl, _, _, _, _, rfl, rfl, (SqL.of h143), (atI_map g146), _, rfl, _, _, _, _, rfl, rfl, (SqL.of h143), (atI_map g147), _, rfl, _, _, _, _, rfl, rfl, (SqL.of h143), (atI_map g148), _, rfl, (by show 8 ≤ sizeLine; decide), fun p149 n150 => ?_⟩
      generalize g151 : upd H138 p149 _ = H152
      obtain ⟨e153, h154⟩ := gen_new n150 g151
      have h155 : H152 p149 = some (.lst (([0, 255, 1, 128, (itD (v137) (2)), (itD (v137) (2)), (itD (v137) (2)), (-1)] : (List Int)).map V.int)) := h154
      have fr156 := S145.free n150
      have S157 := S145.new n150 e153 h155 fr156
      obtain ⟨g158, hw⟩ := cW_grd hw
      have h159 := (e153 _ _ h143)
      obtain ⟨g160, hw⟩ := cW_grd hw
      refine ⟨_, rfl, _, _, _, _, rfl, rfl, (SqL.of h159), (atI_map g158), _, _, _, _, rfl, rfl, (SqL.of h155), (atI_map g160), ?_⟩
      have hw := cW_bnd hw
      obtain ⟨g162, hw⟩ := cW_grd hw
      refine ⟨_, rfl, _, _, _, _, rfl, rfl, (SqL.of h159), (atI_map g162), _, _, rfl, rfl, _, rfl, ?_⟩
      refine iteD (fun c163 => ?_) (fun c163 => ?_)
      · have hw := cW_pos c163 hw
        obtain ⟨g164, hw⟩ := cW_grd hw
        refine ⟨_, rfl, _, rfl, _, rfl, _, _, _, _, rfl, rfl, (SqL.of h159), (atI_map g164), (by show 2 ≤ sizeLine; decide), fun p165 n166 => ?_⟩
        generalize g167 : upd H152 p165 _ = H168
        obtain ⟨e169, h170⟩ := gen_new n166 g167
        have h171 : H168 p165 = some (.tup [V.int ((itD ([0, 255, 1, 128, (itD (v137) (2)), (itD (v137) (2)), (itD (v137) (2)), (-1)]) ((itD (v137) (1))))), V.int ((itD (v137) (3)))]) := h170
        have fr172 := S157.free n166
        obtain ⟨G174, eG175, hg176, S173⟩ := S157.grow n166 e169 h171 fr172
        refine ⟨(by show 1 ≤ sizeLine; decide), fun p177 n178 => ?_⟩
        generalize g179 : upd H168 p177 _ = H180
        obtain ⟨e181, h182⟩ := gen_new n178 g179
        have h183 : H180 p177 = some (.lst ([V.ref p165])) := h182
        have fr184 := S173.free n178
        have S185 := S173.new n178 e181 h183 fr184
        have d186 : RpAll G174 ([V.ref p165]) (([((itD ([0, 255, 1, 128, (itD (v137) (2)), (itD (v137) (2)), (itD (v137) (2)), (-1)]) ((itD (v137) (1)))), (itD (v137) (3)))] : (List (Int × Int))).map (encT2 PyData.int PyData.int)) := (RpAll.cons (rp_mk2 hg176 (.int _) (.int _)) RpAll.nil)
        obtain ⟨g187, hw⟩ := cW_grd hw
        have h188 := (e181 _ _ (e169 _ _ h159))
        obtain ⟨g189, hw⟩ := cW_grd hw
        refine ⟨_, rfl, _, _, _, _, rfl, rfl, (SqL.of h188), (atI_map g187), _, _, _, rfl, rfl, h183, g189.1, g189.2.1, (rep_len d186 g189.2.2), fun p190 n191 => ?_⟩
        generalize g192 : upd H180 p190 _ = H193
        obtain ⟨e194, h195⟩ := gen_new n191 g192
        have h196 : H193 p190 = some (.lst ((List.replicate (Int.toNat ((itD (v137) (4)))) ([V.ref p165])).flatten)) := h195
        have fr197 := S185.free n191
        have S198 := S185.new n191 e194 h196 fr197
        have d199 : RpAll G174 ((List.replicate (Int.toNat ((itD (v137) (4)))) ([V.ref p165])).flatten) ((repL ([((itD ([0, 255, 1, 128, (itD (v137) (2)), (itD (v137) (2)), (itD (v137) (2)), (-1)]) ((itD (v137) (1)))), (itD (v137) (3)))]) ((itD (v137) (4))) : (List (Int × Int))).map (encT2 PyData.int PyData.int)) := rep_all ((itD (v137) (4))) d186
        obtain ⟨g200, hw⟩ := cW_grd hw
        obtain ⟨G201, eG202, hg203, S204⟩ := Sep.freeze (O' := [p177, p149, p140, p128]) S198 (.head _) h196 fr197 ((all_cons ⟨(.tail _ (.head _)), (ne_of_none h183 n191)⟩ (all_cons ⟨(.tail _ (.tail _ (.head _))), (ne_of_none (e181 _ _ (e169 _ _ h155)) n191)⟩ (all_cons ⟨(.tail _ (.tail _ (.tail _ (.head _)))), (ne_of_none h188 n191)⟩ (all_cons ⟨(.tail _ (.tail _ (.tail _ (.tail _ (.head _))))), (ne_of_none (e181 _ _ (e169 _ _ (e153 _ _ (e139 _ _ h134)))) n191)⟩ all_nil)))))
        refine ⟨_, _, _, _, rfl, rfl, (S198.sG _ _ (eG175 _ _ h121)), h196, (cat_len (RpAll.mono eG175 d122) d199 g200), fun p205 n206 => ?_⟩
        generalize g207 : upd H193 p205 _ = H208
        obtain ⟨e209, h210⟩ := gen_new n206 g207
        have h211 : H208 p205 = some (.lst (vs120 ++ (List.replicate (Int.toNat ((itD (v137) (4)))) ([V.ref p165])).flatten)) := h210
        have fr212 := S204.free n206
        have S213 := S204.new n206 e209 h211 fr212
        have d214 : RpAll G201 (vs120 ++ (List.replicate (Int.toNat ((itD (v137) (4)))) ([V.ref p165])).flatten) (((items_95) ++ (repL ([((itD ([0, 255, 1, 128, (itD (v137) (2)), (itD (v137) (2)), (itD (v137) (2)), (-1)]) ((itD (v137) (1)))), (itD (v137) (3)))]) ((itD (v137) (4)))) : (List (Int × Int))).map (encT2 PyData.int PyData.int)) := app_map (RpAll.mono eG202 (RpAll.mono eG175 d122)) (RpAll.mono eG202 d199)
        have hw := cW_ok hw
        have hw := hK126 _ hw
        obtain ⟨G215, eG216, hg217, S218⟩ := Sep.freeze (O' := [p177, p149, p140, p128]) S213 (.head _) h211 fr212 ((all_cons ⟨(.tail _ (.head _)), (ne_of_none (e194 _ _ h183) n206)⟩ (all_cons ⟨(.tail _ (.tail _ (.head _))), (ne_of_none (e194 _ _ (e181 _ _ (e169 _ _ h155))) n206)⟩ (all_cons ⟨(.tail _ (.tail _ (.tail _ (.head _)))), (ne_of_none (e194 _ _ h188) n206)⟩ (all_cons ⟨(.tail _ (.tail _ (.tail _ (.tail _ (.head _))))), (ne_of_none (e194 _ _ (e181 _ _ (e169 _ _ (e153 _ _ (e139 _ _ h134))))) n206)⟩ all_nil)))))
        exact ⟨((items_95) ++ (repL ([((itD ([0, 255, 1, 128, (itD (v137) (2)), (itD (v137) (2)), (itD (v137) (2)), (-1)]) ((itD (v137) (1)))), (itD (v137) (3)))]) ((itD (v137) (4))))), _, _, _, _, _, _, rfl, (Same.trans (Same.trans (Same.trans eG118 eG175) eG202) eG216), (S218.sub all_nil), (rp_mk_list hg217 (RpAll.mono eG216 d214)), hw⟩
      · have hw := cW_neg c163 hw
        refine ⟨_, rfl, .inl ⟨_, rfl, ?_⟩⟩
        refine ⟨_, _, rfl, rfl, (divW_lit (by decide) (by decide)), (by show 1 ≤ sizeLine; decide), fun p219 n220 => ?_⟩
        generalize g221 : upd H152 p219 _ = H222
        obtain ⟨e223, h224⟩ := gen_new n220 g221
        have h225 : H222 p219 = some (.lst (([2] : (List Int)).map V.int)) := h224
        have fr226 := S157.free n220
        have S227 := S157.new n220 e223 h225 fr226
        obtain ⟨g228, hw⟩ := cW_grd hw
        have h229 := (e223 _ _ h159)
        obtain ⟨g230, hw⟩ := cW_grd hw
        refine ⟨_, rfl, _, _, _, _, rfl, rfl, (SqL.of h229), (atI_map g228), _, _, _, rfl, rfl, h225, g230.1, g230.2.1, (rep_lenM g230.2.2), fun p231 n232 => ?_⟩
        generalize g233 : upd H222 p231 _ = H234
        obtain ⟨e235, h236⟩ := gen_new n232 g233
        have h237 : H234 p231 = some (.lst ((repL ([2]) ((itD (v137) (4))) : (List Int)).map V.int)) := rep_map h236
        have fr238 := S227.free n232
        have S239 := S227.new n232 e235 h237 fr238
        refine ⟨rfl, rfl, G117, _, _, _, rfl, S239.sG, (hide_nil h237), cW_call hw (fun v240 hw p243 H241 n244 e242 h245 => ?_) (fun e he H2 e2 => hE e he H2 (Same.trans S239.b0 e2))⟩
        have h246 : H241 p243 = some (.lst ((v240 : (List Int)).map V.int)) := h245
        have fr247 := S239.free n244
        have S248 := S239.new n244 e242 h246 fr247
        refine ⟨_, rfl, _, rfl, _, _, rfl, (SqL.of h246), ?_⟩
        generalize (((v240) : (List Int)).length : Int) = z249 at hw ⊢
        obtain ⟨g250, hw⟩ := cW_grd hw
        obtain ⟨K254, hK255, hw⟩ := cW_push hw
        refine ⟨_, rfl, g250.1, g250.2, fun D256 n257 => lc_range (lo := 0) (n := Int.toNat (z249)) (fun i H' => ∃ (G' : Hp) (acc258 : (List (Int × Int))) (vs259 : List V), Same G117 G' ∧ Sep [] H G G' H' [D256, p140, p243] ∧ H' p140 = some (.lst ((v137 : (List Int)).map V.int)) ∧ H' p243 = some (.lst ((v240 : (List Int)).map V.int)) ∧ H' D256 = some (.lst vs259) ∧ RpAll G' vs259 ((acc258 : (List (Int × Int))).map (encT2 PyData.int PyData.int)) ∧ cW (mapA (List.drop i (rng (0) (Int.toNat (z249)))) acc258 (fun x => noEr (F__law_items_c2 ((itD ([0, 255, 1, 128, (itD (v137) (2)), (itD (v137) (2)), (itD (v137) (2)), (-1)]) ((itD (v137) (1))))) (v240) x))) K254 EE) ?_ ?_ ?_⟩
        · generalize g260 : upd H241 D256 _ = H261
          obtain ⟨e262, h263⟩ := gen_new n257 g260
          have fr264 := S248.free n257
          have S265 := S248.new n257 e262 h263 fr264
          have h266 := (e262 _ _ (e242 _ _ (e235 _ _ h229)))
          have h267 := (e262 _ _ h246)
          exact ⟨_, [], [], Same.refl _, (S265.sub (all_cons (.head _) (all_cons (.tail _ (.tail _ (.tail _ (.tail _ (.tail _ (.head _)))))) (all_cons (.tail _ (.head _)) all_nil)))), h266, h267, h263, RpAll.nil, hw⟩
        · intro i H268 hi hw
          obtain ⟨G271, acc273, vs274, eG272, S269, h276, h277, h270, d275, hw⟩ := hw
          obtain ⟨z278, hw⟩ := cW_mapA (rng_get hi) hw
          generalize (0 + (i : Int)) = x279 at hw ⊢
          have hw := cW_noEr hw
          have hw : cW (F__law_items_c2 ((itD ([0, 255, 1, 128, (itD (v137) (2)), (itD (v137) (2)), (itD (v137) (2)), (-1)]) ((itD (v137) (1))))) (v240) (x279)) _ (fun _ => False) := hw
          unfold F__law_items_c2 at hw
          refine ⟨rfl, ?_⟩
          refine tyes_go ?_
          refine ⟨_, rfl, _, _, rfl, rfl, _, rfl, .inl ⟨_, rfl, ?_⟩⟩
          refine ⟨_, _, rfl, rfl, (show (0 : Int) < 3 by decide), _, _, rfl, rfl, .inr ⟨_, rfl, ?_⟩⟩
          obtain ⟨g281, hw⟩ := cW_grd hw
          obtain ⟨g282, hw⟩ := cW_grd hw
          refine ⟨_, _, rfl, rfl, g281, _, _, rfl, rfl, _, rfl, _, rfl, _, _, _, _, rfl, rfl, (SqL.of h277), (atI_map g282), (by show 2 ≤ sizeLine; decide), fun p283 n284 => ?_⟩
          generalize g285 : upd H268 p283 _ = H286
          obtain ⟨e287, h288⟩ := gen_new n284 g285
          have h289 : H286 p283 = some (.tup [V.int (((((itD ([0, 255, 1, 128, (itD (v137) (2)), (itD (v137) (2)), (itD (v137) (2)), (-1)]) ((itD (v137) (1)))) + 1) * (if decide (0 < (x279 % 3)) = true then 1 else 0)) - 1)), V.int ((itD (v240) (x279)))]) := h288
          have fr290 := S269.free n284
          obtain ⟨G292, eG293, hg294, S291⟩ := S269.grow n284 e287 h289 fr290
          have h295 := (e287 _ _ h270)
          refine ⟨_, h295, (app_len (RpAll.mono eG293 d275) z278), ?_⟩
          generalize g296 : upd H286 D256 _ = H297
          obtain ⟨x298, h299⟩ := gen_mut g296
          have S300 := S291.mut1 x298 (.head _) h299
          have hw := cW_ok hw
          have h301 := (x298 _ _ (e287 _ _ h276) (ne_of_none (e242 _ _ (e235 _ _ h229)) n257))
          have h302 := (x298 _ _ (e287 _ _ h277) (ne_of_none h246 n257))
          exact ⟨_, (acc273 ++ [(((((itD ([0, 255, 1, 128, (itD (v137) (2)), (itD (v137) (2)), (itD (v137) (2)), (-1)]) ((itD (v137) (1)))) + 1) * (if decide (0 < (x279 % 3)) = true then 1 else 0)) - 1), (itD (v240) (x279)))]), _, (Same.trans eG272 eG293), S300, h301, h302, h299, (app_map (RpAll.mono eG293 d275) (RpAll.one (rp_mk2 hg294 (.int _) (.int _)))), hw⟩
        intro H303 hw
        obtain ⟨G306, acc308, vs309, eG307, S304, h311, h312, h305, d310, hw⟩ := hw
        have hw := hK255 _ (cW_mapA0 (rng_len _ _).symm hw)
        have fr313 := S248.free n257
        obtain ⟨g314, hw⟩ := cW_grd hw
        obtain ⟨G315, eG316, hg317, S318⟩ := Sep.freeze (O' := [p140, p243]) S304 (.head _) h305 fr313 ((all_cons ⟨(.tail _ (.head _)), (ne_of_none (e242 _ _ (e235 _ _ h229)) n257)⟩ (all_cons ⟨(.tail _ (.tail _ (.head _))), (ne_of_none h246 n257)⟩ all_nil)))
        refine ⟨_, _, _, _, rfl, rfl, (S304.sG _ _ (eG307 _ _ h121)), h305, (cat_len (RpAll.mono eG307 d122) d310 g314), fun p319 n320 => ?_⟩
        generalize g321 : upd H303 p319 _ = H322
        obtain ⟨e323, h324⟩ := gen_new n320 g321
        have h325 : H322 p319 = some (.lst (vs120 ++ vs309)) := h324
        have fr326 := S318.free n320
        have S327 := S318.new n320 e323 h325 fr326
        have d328 : RpAll G315 (vs120 ++ vs309) (((items_95) ++ (acc308) : (List (Int × Int))).map (encT2 PyData.int PyData.int)) := app_map (RpAll.mono eG316 (RpAll.mono eG307 d122)) (RpAll.mono eG316 d310)
        have hw := cW_ok hw
        have hw := hK126 _ hw
        obtain ⟨G329, eG330, hg331, S332⟩ := Sep.freeze (O' := [p140, p243]) S327 (.head _) h325 fr326 ((all_cons ⟨(.tail _ (.head _)), (ne_of_none h311 n320)⟩ (all_cons ⟨(.tail _ (.tail _ (.head _))), (ne_of_none h312 n320)⟩ all_nil)))
        exact ⟨((items_95) ++ (acc308)), _, _, _, _, _, _, rfl, (Same.trans (Same.trans (Same.trans eG118 eG307) eG316) eG330), (S332.sub all_nil), (rp_mk_list hg331 (RpAll.mono eG330 d328)), hw⟩
    · intro σ H333 hw
      obtain ⟨items_95, u96, u97, u98, u99, u100, G336, rfl, eG337, S334, r335, hw⟩ := hw
      obtain ⟨a338, vs339, rfl, h340, d341⟩ := rp_list r335
      have hw := hK94 _ (cW_forS0 (by rw [List.length_map]) hw)
      have hw : cW (F__law_items_r1 (most') (items_95)) _ EE := hw
      unfold F__law_items_r1 at hw
      refine ⟨_, rfl, _, rfl, _, rfl, _, _, rfl, (SqL.of (S334.sG _ _ h340)), fun p343 n344 => ?_⟩
      generalize g345 : upd H333 p343 _ = H346
      obtain ⟨e347, h348⟩ := gen_new n344 g345
      have h349 : H346 p343 = some (.lst (cutV (vs339) none (some (most')))) := h348
      have fr350 := S334.free n344
      have S351 := S334.new n344 e347 h349 fr350
      have d352 : RpAll G336 (cutV (vs339) none (some (most'))) ((cutL (items_95) none (some (most')) : (List (Int × Int))).map (encT2 PyData.int PyData.int)) := cut_all none (some (most')) d341
      obtain ⟨G353, eG354, hg355, S356⟩ := Sep.freeze (O' := []) S351 (.head _) h349 fr350 (all_nil)
      have hw := cW_ok hw
      exact hK0 _ hw _ _ _ S356.b0 S356.g0 S356.sG S356.gn (rp_mk_list hg355 (RpAll.mono eG354 d352))

abbrev N_Encoder___init__ : List Str := ["self"]
theorem sc_Encoder___init__ : FnScope N_Encoder___init__ ["self"] (defScope s_Encoder___init__) := ⟨rfl, rfl, rfl, by decide +kernel, rfl, by decide +kernel, by decide +kernel⟩
theorem ok_Encoder___init__ (D : InitX K mg AD.c_Encoder "Encoder" "Encoder.__init__" s_Encoder___init__ ["self"] pats_Encoder___init__) (T : Txt K mg AD)  : MakX P w K mg base 1 "Encoder" AD.c_Encoder (sp_Encoder___init__ K AD) pats_Encoder___init__ := by
  refine D.ok sc_Encoder___init__ (fun vs H Q E h => ?_) (fun f cdv A_ outer s H vs Q E hr h => ?_)
  · obtain ⟨G, p_self, dx_self, rfl, _⟩ := h
    rfl
  · obtain ⟨G, p_self, dx_self, rfl, sG, gM, h_self, hw⟩ := h
    refine ⟨_, (pss_cons (ps_fld (pv 0) (pe_op op_rep (pe_lst (pa_cons (C8.pe_gc rfl T.g_EVEN) pa_nil)) (C8.pe_gc rfl T.g_CONTEXTS)) rfl)
      (pss_cons (ps_fld (pv 0) (pe_lst pa_nil) rfl)
      (pss_cons (ps_fld (pv 0) pe_int rfl)
      (pss_one (ps_fld (pv 0) (pe_op op_sub (C8.pe_gc rfl T.g_WORD) pe_int) rfl))))), ?_⟩
    obtain ⟨KK, EE, hK0, hE, hw⟩ := cW_gen hw
    have S0 := Sep.startM (M := [p_self]) sG (all_cons (some_ne h_self) all_nil) gM
    unfold F_Encoder___init__ at hw
    refine ⟨(by show 1 ≤ sizeLine; decide), fun p357 n358 => ?_⟩
    generalize g359 : upd H p357 _ = H360
    obtain ⟨e361, h362⟩ := gen_new n358 g359
    have h363 : H360 p357 = some (.lst (([2048] : (List Int)).map V.int)) := h362
    have fr364 := S0.free n358
    have S365 := S0.new n358 e361 h363 fr364
    obtain ⟨g366, hw⟩ := cW_grd hw
    refine ⟨_, _, _, rfl, rfl, h363, g366.1, g366.2.1, (rep_lenM g366.2.2), fun p367 n368 => ?_⟩
    generalize g369 : upd H360 p367 _ = H370
    obtain ⟨e371, h372⟩ := gen_new n368 g369
    have h373 : H370 p367 = some (.lst ((repL ([2048]) (256) : (List Int)).map V.int)) := rep_map h372
    have fr374 := S365.free n368
    have S375 := S365.new n368 e371 h373 fr374
    have h376 := (e371 _ _ (e361 _ _ h_self))
    refine ⟨_, rfl, _, _, _, _, rfl, h376, T.cl_Encoder, T.n_Encoder__probabilities, (by show 0 < 1000; decide), ?_⟩
    generalize g377 : upd H370 p_self _ = H378
    obtain ⟨x379, h380⟩ := gen_mut g377
    have h381 : H378 p_self = some (.ins AD.c_Encoder dx_self [("_probabilities", V.ref p367)]) := h380
    have S382 := S375.mut1 x379 (.tail _ (.tail _ (.head _))) h381
    refine ⟨(by show 0 ≤ sizeLine; decide), fun p383 n384 => ?_⟩
    generalize g385 : upd H378 p383 _ = H386
    obtain ⟨e387, h388⟩ := gen_new n384 g385
    have h389 : H386 p383 = some (.lst ((([] : (List Int)) : (List Int)).map V.int)) := h388
    have fr390 := S382.free n384
    have S391 := S382.new n384 e387 h389 fr390
    have h392 := (e387 _ _ h381)
    refine ⟨_, rfl, _, _, _, _, rfl, h392, T.cl_Encoder, T.n_Encoder__front, (by show 1 < 1000; decide), ?_⟩
    generalize g393 : upd H386 p_self _ = H394
    obtain ⟨x395, h396⟩ := gen_mut g393
    have h397 : H394 p_self = some (.ins AD.c_Encoder dx_self [("_probabilities", V.ref p367), ("_front", V.ref p383)]) := h396
    have S398 := S391.mut1 x395 (.tail _ (.tail _ (.tail _ (.head _)))) h397
    refine ⟨_, rfl, _, _, _, _, rfl, h397, T.cl_Encoder, T.n_Encoder__low, (by show 2 < 1000; decide), ?_⟩
    generalize g399 : upd H394 p_self _ = H400
    obtain ⟨x401, h402⟩ := gen_mut g399
    have h403 : H400 p_self = some (.ins AD.c_Encoder dx_self [("_probabilities", V.ref p367), ("_front", V.ref p383), ("_low", V.int (0))]) := h402
    have S404 := S398.mut1 x401 (.tail _ (.tail _ (.tail _ (.head _)))) h403
    have hw := cW_bnd hw
    refine ⟨_, _, rfl, rfl, _, rfl, _, _, _, _, rfl, h403, T.cl_Encoder, T.n_Encoder__span, (by show 3 < 1000; decide), ?_⟩
    generalize g406 : upd H400 p_self _ = H407
    obtain ⟨x408, h409⟩ := gen_mut g406
    have h410 : H407 p_self = some (.ins AD.c_Encoder dx_self [("_probabilities", V.ref p367), ("_front", V.ref p383), ("_low", V.int (0)), ("_span", V.int ((4294967296 - 1)))]) := h409
    have S411 := S404.mut1 x408 (.tail _ (.tail _ (.tail _ (.head _)))) h410
    have h412 := (x408 _ _ (x401 _ _ (x395 _ _ (e387 _ _ (x379 _ _ h373 (ne_of_none (e361 _ _ h_self) n368).symm)) (ne_of_none (e361 _ _ h_self) n368).symm) (ne_of_none (e361 _ _ h_self) n368).symm) (ne_of_none (e361 _ _ h_self) n368).symm)
    have h413 := (x408 _ _ (x401 _ _ (x395 _ _ h389 (ne_of_none h381 n384).symm) (ne_of_none h381 n384).symm) (ne_of_none h381 n384).symm)
    have hw := cW_ok hw
    exact hK0 _ hw _ _ _ (sameX_of S411.base) fr374 fr390 (ne_of_none (x379 _ _ h373 (ne_of_none (e361 _ _ h_self) n368).symm) n384) h410 h412 h413

abbrev N__check_context : List Str := ["context"]
theorem sc__check_context : FnScope N__check_context ["context"] (defScope s__check_context) := ⟨rfl, rfl, rfl, by decide +kernel, rfl, by decide +kernel, by decide +kernel⟩
theorem ok__check_context (D : DefX K mg "_check_context" s__check_context ["context"] pats__check_context) (T : Txt K mg AD)  : CalX P w K mg base 1 "_check_context" (sp__check_context K AD) pats__check_context := by
  refine D.ok sc__check_context (fun vs H Q E h => ?_) (fun f cdv A_ outer s H vs Q E hr h => ?_)
  · obtain ⟨G, context', rfl, _⟩ := h
    rfl
  · obtain ⟨G, context', rfl, sG, hw⟩ := h
    refine ⟨_, (pss_one (ps_if (pt_not (pt_chain op_le op_lt pe_int (pv 0) (C8.pe_gc rfl T.g_CONTEXTS))) (pss_one (ps_raise rfl (takes_of rfl rfl rfl rfl) (pmk_own PySem.F.excBase_ValueError T.xx_OutOfRange T.xg_OutOfRange T.xk_OutOfRange (raises_own T.xb_OutOfRange T.xt_OutOfRange) rfl))) pss_nil)), ?_⟩
    obtain ⟨KK, EE, hK0, hE, hw⟩ := cW_gen hw
    have S0 := Sep.startG sG
    unfold F__check_context at hw
    refine ⟨_, rfl, _, _, rfl, rfl, _, rfl, ?_⟩
    refine iteD (fun c414 => ?_) (fun c414 => ?_)
    · have hw := cW_pos c414 hw
      refine ⟨_, _, rfl, rfl, _, rfl, ?_⟩
      refine iteN (fun c415 => ?_) (fun c415 => ?_)
      · have hw := cW_neg c415 hw
        exact hE 1 (cW_er hw)
      · have hw := cW_pos c415 hw
        have hw := cW_ok hw
        exact hK0 _ hw
    · have hw := cW_neg c414 hw
      refine ⟨_, rfl, ?_⟩
      refine iteT ?_
      exact hE 1 (cW_er hw)

abbrev N__check_decision : List Str := ["decision"]
theorem sc__check_decision : FnScope N__check_decision ["decision"] (defScope s__check_decision) := ⟨rfl, rfl, rfl, by decide +kernel, rfl, by decide +kernel, by decide +kernel⟩
theorem ok__check_decision (D : DefX K mg "_check_decision" s__check_decision ["decision"] pats__check_decision) (T : Txt K mg AD)  : CalX P w K mg base 1 "_check_decision" (sp__check_decision K AD) pats__check_decision := by
  refine D.ok sc__check_decision (fun vs H Q E h => ?_) (fun f cdv A_ outer s H vs Q E hr h => ?_)
  · obtain ⟨G, decision', rfl, _⟩ := h
    rfl
  · obtain ⟨G, decision', rfl, sG, hw⟩ := h
    refine ⟨_, (pss_one (ps_if (pt_not (pt_chain op_le op_le pe_int (pv 0) pe_int)) (pss_one (ps_raise rfl (takes_of rfl rfl rfl rfl) (pmk_own PySem.F.excBase_ValueError T.xx_OutOfRange T.xg_OutOfRange T.xk_OutOfRange (raises_own T.xb_OutOfRange T.xt_OutOfRange) rfl))) pss_nil)), ?_⟩
    obtain ⟨KK, EE, hK0, hE, hw⟩ := cW_gen hw
    have S0 := Sep.startG sG
    unfold F__check_decision at hw
    refine ⟨_, rfl, _, _, rfl, rfl, _, rfl, ?_⟩
    refine iteD (fun c416 => ?_) (fun c416 => ?_)
    · have hw := cW_pos c416 hw
      refine ⟨_, _, rfl, rfl, _, rfl, ?_⟩
      refine iteN (fun c417 => ?_) (fun c417 => ?_)
      · have hw := cW_neg c417 hw
        exact hE 1 (cW_er hw)
      · have hw := cW_pos c417 hw
        have hw := cW_ok hw
        exact hK0 _ hw
    · have hw := cW_neg c416 hw
      refine ⟨_, rfl, ?_⟩
      refine iteT ?_
      exact hE 1 (cW_er hw)

abbrev N__adapted : List Str := ["chance", "decision"]
theorem sc__adapted : FnScope N__adapted ["chance", "decision"] (defScope s__adapted) := ⟨rfl, rfl, rfl, by decide +kernel, rfl, by decide +kernel, by decide +kernel⟩
theorem ok__adapted (D : DefX K mg "_adapted" s__adapted ["chance", "decision"] pats__adapted) (T : Txt K mg AD)  : CalX P w K mg base 1 "_adapted" (sp__adapted K AD) pats__adapted := by
  refine D.ok sc__adapted (fun vs H Q E h => ?_) (fun f cdv A_ outer s H vs Q E hr h => ?_)
  · obtain ⟨G, chance', decision', rfl, _⟩ := h
    rfl
  · obtain ⟨G, chance', decision', rfl, sG, hw⟩ := h
    refine ⟨_, (pss_cons (ps_if (pt_cmp (pc_eqI (pv 1) pe_int)) (pss_one (ps_ret (pe_op op_add (pv 0) (pe_op op_shr (pe_op op_sub (C8.pe_gc rfl T.g_SCALE) (pv 0)) (C8.pe_gc rfl T.g_RATE))))) pss_nil)
      (pss_one (ps_ret (pe_op op_sub (pv 0) (pe_op op_shr (pv 0) (C8.pe_gc rfl T.g_RATE)))))), ?_⟩
    obtain ⟨KK, EE, hK0, hE, hw⟩ := cW_gen hw
    have S0 := Sep.startG sG
    unfold F__adapted at hw
    refine ⟨_, rfl, _, _, rfl, rfl, _, rfl, ?_⟩
    refine iteD (fun c418 => ?_) (fun c418 => ?_)
    · have hw := cW_pos c418 hw
      refine ⟨_, rfl, _, rfl, _, _, rfl, rfl, _, _, rfl, rfl, (show (0 : Int) ≤ 5 by decide), _, _, rfl, rfl, ?_⟩
      have hw := cW_ok hw
      exact hK0 _ hw
    · have hw := cW_neg c418 hw
      refine ⟨_, rfl, _, rfl, _, _, rfl, rfl, (show (0 : Int) ≤ 5 by decide), _, _, rfl, rfl, ?_⟩
      have hw := cW_ok hw
      exact hK0 _ hw

abbrev N_Encoder__carry : List Str := ["self", "place"]
theorem sc_Encoder__carry : FnScope N_Encoder__carry ["self"] (defScope s_Encoder__carry) := ⟨rfl, rfl, rfl, by decide +kernel, rfl, by decide +kernel, by decide +kernel⟩
theorem ok_Encoder__carry (D : MethX K AD.c_Encoder "Encoder._carry" "_carry" s_Encoder__carry ["self"] pats_Encoder__carry) (T : Txt K mg AD)  : MetX P w K mg base 1 AD.c_Encoder "_carry" (sp_Encoder__carry K AD) pats_Encoder__carry := by
  refine D.ok T.cl_Encoder sc_Encoder__carry (fun vs H Q E h => ?_) (fun f cdv A_ outer s H vs Q E hr h => ?_)
  · obtain ⟨G, p_self, l_self_probs, l_self_front, dx_self, self', rfl, _⟩ := h
    rfl
  · obtain ⟨G, p_self, l_self_probs, l_self_front, dx_self, self', rfl, sG, gM, h_p_self, h_l_self_probs, h_l_self_front, ne_self_0, hw⟩ := h
    refine ⟨_, (pss_cons (ps_set (i := 1) sc_Encoder__carry.nd rfl (Or.inl rfl) (pe_op op_sub (pe_callB (call_lenLiK (K := K)) (by rfl) T.b_len (by decide +kernel) (pa_cons (fldK (K := K) (pv 0)) pa_nil)) pe_int))
      (pss_cons (ps_while (passes_of rfl) (pt_cmp (pc_eqI (pe_ix (ix_listK (K := K)) (fldK (K := K) (pv 0)) (pv 1) (fun _ _ => rfl)) pe_int)) (pss_cons (ps_asg pe_int (pg_sub (fldK (K := K) (pv 0)) (pv 1) set_list))
      (pss_one (ps_aug (i := 1) sc_Encoder__carry.nd rfl (Or.inl rfl) pe_int (pip iop_sub)))))
      (pss_one (ps_augS (fldK (K := K) (pv 0)) (pv 1) (pget_list (K := K)) pe_int (pip iop_add) set_list)))), ?_⟩
    obtain ⟨KK, EE, hK0, hE, hw⟩ := cW_gen hw
    have S0 := Sep.startM (M := [p_self, l_self_probs, l_self_front]) sG (all_cons (some_ne h_p_self) (all_cons (some_ne h_l_self_probs) (all_cons (some_ne h_l_self_front) all_nil))) gM
    unfold F_Encoder__carry at hw
    refine ⟨_, rfl, _, _, _, _, _, rfl, h_p_self, T.cl_Encoder, T.n_Encoder__front, rfl, _, _, rfl, (SqL.of h_l_self_front), _, _, rfl, rfl, ?_⟩
    have hw := cW_bnd hw
    obtain ⟨K420, hK421, hw⟩ := cW_push hw
    refine ⟨fun m σ H' => ∃ (self_422 : St_Encoder) (place_423 : Int) (G' : Hp), σ = [some (V.ref p_self), some (V.int place_423)] ∧ Same G G' ∧ Sep [p_self, l_self_probs, l_self_front] H G G' H' [p_self, l_self_probs, l_self_front] ∧ H' p_self = some (.ins AD.c_Encoder dx_self [("_probabilities", V.ref l_self_probs), ("_front", V.ref l_self_front), ("_low", V.int (self_422.low)), ("_span", V.int (self_422.span))]) ∧ H' l_self_probs = some (.lst ((self_422.probs : (List Int)).map V.int)) ∧ H' l_self_front = some (.lst ((self_422.front : (List Int)).map V.int)) ∧ cW (whileR m (self_422, place_423) (fun s => F_Encoder__carry_b1  (s.1) (s.2))) K420 EE, ?_, ?_⟩
    · exact ⟨_, ⟨(self'), (((((self'.front) : (List Int)).length : Int) - 1)), _, rfl, (Same.refl _), S0, h_p_self, h_l_self_probs, h_l_self_front, hw⟩⟩
    · intro m σ H424 hw
      obtain ⟨self_422, place_423, G429, rfl, eG430, S425, h426, h427, h428, hw⟩ := hw
      obtain ⟨m431, rfl, hw2⟩ := cW_whileR hw
      have hw := hw2
      have hw : cW (F_Encoder__carry_b1  (self_422) (place_423)) _ EE := hw
      unfold F_Encoder__carry_b1 at hw
      obtain ⟨K434, hK435, hw⟩ := cW_name hw
      obtain ⟨g436, hw⟩ := cW_grd hw
      refine ⟨_, rfl, _, _, _, _, _, rfl, h426, T.cl_Encoder, T.n_Encoder__front, rfl, _, rfl, _, _, _, _, rfl, rfl, (SqL.of h428), (atI_map g436), _, _, rfl, rfl, _, rfl, ?_⟩
      refine iteD (fun c437 => ?_) (fun c437 => ?_)
      · have hw := cW_pos c437 hw
        refine ⟨(fun σ H' => ∃ m, (∃ (self_422 : St_Encoder) (place_423 : Int) (G' : Hp), σ = [some (V.ref p_self), some (V.int place_423)] ∧ Same G G' ∧ Sep [p_self, l_self_probs, l_self_front] H G G' H' [p_self, l_self_probs, l_self_front] ∧ H' p_self = some (.ins AD.c_Encoder dx_self [("_probabilities", V.ref l_self_probs), ("_front", V.ref l_self_front), ("_low", V.int (self_422.low)), ("_span", V.int (self_422.span))]) ∧ H' l_self_probs = some (.lst ((self_422.probs : (List Int)).map V.int)) ∧ H' l_self_front = some (.lst ((self_422.front : (List Int)).map V.int)) ∧ cW (whileR m (self_422, place_423) (fun s => F_Encoder__carry_b1  (s.1) (s.2))) K420 EE) ∧ m < m431 + 1), (fun _ _ ⟨m', a, b⟩ => ⟨m', b, a⟩), ?_⟩
        obtain ⟨g438, hw⟩ := cW_grd hw
        refine ⟨_, rfl, _, _, _, _, _, rfl, h426, T.cl_Encoder, T.n_Encoder__front, rfl, _, rfl, _, _, _, _, rfl, rfl, h428, (ixN_map g438), ?_⟩
        generalize g439 : upd H424 l_self_front _ = H440
        obtain ⟨x441, h442⟩ := gen_mut g439
        have h443 : H440 l_self_front = some (.lst ((setL (self_422.front) (place_423) (0) : (List Int)).map V.int)) := set_map h442
        have S444 := S425.mut1 x441 (.tail _ (.tail _ (.head _))) h443
        have hw := cW_bnd hw
        refine ⟨_, rfl, _, _, rfl, rfl, ?_⟩
        have hw := cW_bnd hw
        have hw := cW_ok hw
        have hw := hK435 _ hw
        have h447 := (x441 _ _ h426 (ne_of h426 h428 (fun z => nomatch z)))
        have h448 := (x441 _ _ h427 ne_self_0)
        exact ⟨m431, ⟨((⟨self_422.probs, setL (self_422.front) (place_423) (0), self_422.low, self_422.span⟩ : St_Encoder)), ((place_423 - 1)), _, rfl, eG430, S444, h447, h448, h443, hw⟩, Nat.lt_succ_self _⟩
      · have hw := cW_neg c437 hw
        have hw := cW_ok hw
        have hw := hK435 _ hw
        have hw := hK421 (.go _) hw
        have hw : cW (F_Encoder__carry_r1  (self_422) (place_423)) _ EE := hw
        unfold F_Encoder__carry_r1 at hw
        obtain ⟨g451, hw⟩ := cW_grd hw
        obtain ⟨g452, hw⟩ := cW_grd hw
        refine ⟨_, rfl, _, _, _, _, _, rfl, h426, T.cl_Encoder, T.n_Encoder__front, rfl, _, rfl, _, _, _, _, rfl, rfl, (SqL.of h428), g451.1, g451.2.1, (atI_map (ix_nn g451.1 g451.2.2)), _, _, rfl, rfl, _, _, _, _, rfl, rfl, h428, (ixN_map g452), ?_⟩
        generalize g453 : upd H424 l_self_front _ = H454
        obtain ⟨x455, h456⟩ := gen_mut g453
        have h457 : H454 l_self_front = some (.lst ((setL (self_422.front) (place_423) (((itD (self_422.front) (place_423)) + 1)) : (List Int)).map V.int)) := set_map h456
        have S458 := S425.mut1 x455 (.tail _ (.tail _ (.head _))) h457
        have hw := cW_bnd hw
        have h460 := (x455 _ _ h426 (ne_of h426 h428 (fun z => nomatch z)))
        have h461 := (x455 _ _ h427 ne_self_0)
        have hw := cW_ok hw
        exact hK0 _ hw _ S458.base h460 h461 h457

abbrev N_Encoder__narrow : List Str := ["self", "chance", "decision", "part"]
theorem sc_Encoder__narrow : FnScope N_Encoder__narrow ["self", "chance", "decision"] (defScope s_Encoder__narrow) := ⟨rfl, rfl, rfl, by decide +kernel, rfl, by decide +kernel, by decide +kernel⟩
theorem ok_Encoder__narrow (D : MethX K AD.c_Encoder "Encoder._narrow" "_narrow" s_Encoder__narrow ["self", "chance", "decision"] pats_Encoder__narrow) (T : Txt K mg AD) (c_Encoder__carry : MetX P w K mg base 1 AD.c_Encoder "_carry" (sp_Encoder__carry K AD) pats_Encoder__carry) : MetX P w K mg base 2 AD.c_Encoder "_narrow" (sp_Encoder__narrow K AD) pats_Encoder__narrow := by
  refine D.ok T.cl_Encoder sc_Encoder__narrow (fun vs H Q E h => ?_) (fun f cdv A_ outer s H vs Q E hr h => ?_)
  · obtain ⟨G, p_self, l_self_probs, l_self_front, dx_self, self', chance', decision', rfl, _⟩ := h
    rfl
  · obtain ⟨G, p_self, l_self_probs, l_self_front, dx_self, self', chance', decision', rfl, sG, gM, h_p_self, h_l_self_probs, h_l_self_front, ne_self_0, hw⟩ := h
    refine ⟨_, (pss_cons (ps_set (i := 3) sc_Encoder__narrow.nd rfl (Or.inl rfl) (pe_op op_mul (pe_op op_shr (fldK (K := K) (pv 0)) (C8.pe_gc rfl T.g_SCALE_BITS)) (pv 1)))
      (C8.pss_cut (ps_if (pt_cmp (pc_eqI (pv 2) pe_int)) (pss_one (ps_fld (pv 0) (pv 3) rfl)) (pss_cons (ps_fldaug (pv 0) (pv 3) (pip iop_sub))
      (pss_cons (ps_fldaug (pv 0) (pv 3) (pip iop_add))
      (pss_one (ps_if (pt_cmp (pc_ge (fldK (K := K) (pv 0)) (C8.pe_gc rfl T.g_WORD))) (pss_cons (ps_fldaug (pv 0) (C8.pe_gc rfl T.g_WORD) (pip iop_sub))
      (pss_one (ps_expr (vx_methX0 c_Encoder__carry pat_Encoder__carry_0 (.head _) hr (by decide) (takes_of rfl rfl rfl rfl) (pv 0))))) pss_nil)))))
      (pss_one (ps_while (passes_of rfl) (pt_cmp (pc_lt (fldK (K := K) (pv 0)) (C8.pe_gc rfl T.g_LEAST_SPAN))) (pss_cons (ps_expr (pe_bm PySem.F.plainAttrs_list PySem.F.slot_list_append PySem.F.type_list_append mt_append (fldK (K := K) (pv 0)) (pa_cons (pe_op op_shr (fldK (K := K) (pv 0)) pe_int) pa_nil)))
      (pss_cons (ps_fld (pv 0) (pe_op op_and (pe_op op_shlW (fldK (K := K) (pv 0)) pe_int) (pe_op op_sub (C8.pe_gc rfl T.g_WORD) pe_int)) rfl)
      (pss_one (ps_fldaug (pv 0) pe_int (pip iop_shlW))))))))), ?_⟩
    obtain ⟨KK, EE, hK0, hE, hw⟩ := cW_gen hw
    have S0 := Sep.startM (M := [p_self, l_self_probs, l_self_front]) sG (all_cons (some_ne h_p_self) (all_cons (some_ne h_l_self_probs) (all_cons (some_ne h_l_self_front) all_nil))) gM
    unfold F_Encoder__narrow at hw
    obtain ⟨g462, hw⟩ := cW_grd hw
    refine ⟨_, rfl, _, _, _, _, _, rfl, h_p_self, T.cl_Encoder, T.n_Encoder__span, rfl, _, _, rfl, rfl, (show (0 : Int) ≤ 12 by decide), _, rfl, _, _, rfl, rfl, g462, ?_⟩
    have hw := cW_bnd hw
    refine ⟨fun σ H' => ∃ (self_465 : St_Encoder) (G' : Hp), σ = [some (V.ref p_self), some (V.int (chance')), some (V.int (decision')), some (V.int (((self'.span / 4096) * chance')))] ∧ Same G G' ∧ Sep [p_self, l_self_probs, l_self_front] H G G' H' [p_self, l_self_probs, l_self_front] ∧ H' p_self = some (.ins AD.c_Encoder dx_self [("_probabilities", V.ref l_self_probs), ("_front", V.ref l_self_front), ("_low", V.int (self_465.low)), ("_span", V.int (self_465.span))]) ∧ H' l_self_probs = some (.lst ((self_465.probs : (List Int)).map V.int)) ∧ H' l_self_front = some (.lst ((self_465.front : (List Int)).map V.int)) ∧ cW (F_Encoder__narrow_k1  self_465) KK EE, ?_, ?_⟩
    · obtain ⟨K466, hK467, hw⟩ := cW_push hw
      refine ⟨_, rfl, _, _, rfl, rfl, _, rfl, ?_⟩
      refine iteD (fun c468 => ?_) (fun c468 => ?_)
      · have hw := cW_pos c468 hw
        refine ⟨_, rfl, _, rfl, _, _, _, _, rfl, h_p_self, T.cl_Encoder, T.n_Encoder__span, (by show 4 < 1000; decide), ?_⟩
        generalize g469 : upd H p_self _ = H470
        obtain ⟨x471, h472⟩ := gen_mut g469
        have h473 : H470 p_self = some (.ins AD.c_Encoder dx_self [("_probabilities", V.ref l_self_probs), ("_front", V.ref l_self_front), ("_low", V.int (self'.low)), ("_span", V.int (((self'.span / 4096) * chance')))]) := h472
        have S474 := S0.mut1 x471 (.head _) h473
        have hw := cW_ok hw
        have hw := hK467 _ hw
        have h475 := (x471 _ _ h_l_self_probs (ne_of h_l_self_probs h_p_self (fun z => nomatch z)))
        have h476 := (x471 _ _ h_l_self_front (ne_of h_l_self_front h_p_self (fun z => nomatch z)))
        exact ⟨((⟨self'.probs, self'.front, self'.low, ((self'.span / 4096) * chance')⟩ : St_Encoder)), _, rfl, (Same.refl _), S474, h473, h475, h476, hw⟩
      · have hw := cW_neg c468 hw
        have hw := cW_bnd hw
        refine ⟨_, rfl, _, _, _, _, _, rfl, h_p_self, T.cl_Encoder, T.n_Encoder__span, rfl, _, rfl, _, _, rfl, rfl, _, _, h_p_self, (by show 4 < 1000; decide), ?_⟩
        generalize g478 : upd H p_self _ = H479
        obtain ⟨x480, h481⟩ := gen_mut g478
        have h482 : H479 p_self = some (.ins AD.c_Encoder dx_self [("_probabilities", V.ref l_self_probs), ("_front", V.ref l_self_front), ("_low", V.int (self'.low)), ("_span", V.int ((self'.span - ((self'.span / 4096) * chance'))))]) := h481
        have S483 := S0.mut1 x480 (.head _) h482
        have hw := cW_bnd hw
        refine ⟨_, rfl, _, _, _, _, _, rfl, h482, T.cl_Encoder, T.n_Encoder__low, rfl, _, rfl, _, _, rfl, rfl, _, _, h482, (by show 4 < 1000; decide), ?_⟩
        generalize g485 : upd H479 p_self _ = H486
        obtain ⟨x487, h488⟩ := gen_mut g485
        have h489 : H486 p_self = some (.ins AD.c_Encoder dx_self [("_probabilities", V.ref l_self_probs), ("_front", V.ref l_self_front), ("_low", V.int ((self'.low + ((self'.span / 4096) * chance')))), ("_span", V.int ((self'.span - ((self'.span / 4096) * chance'))))]) := h488
        have S490 := S483.mut1 x487 (.head _) h489
        refine ⟨_, rfl, _, _, _, _, _, rfl, h489, T.cl_Encoder, T.n_Encoder__low, rfl, _, _, rfl, rfl, _, rfl, ?_⟩
        refine iteD (fun c491 => ?_) (fun c491 => ?_)
        · have hw := cW_pos c491 hw
          have hw := cW_bnd hw
          refine ⟨_, rfl, _, _, _, _, _, rfl, h489, T.cl_Encoder, T.n_Encoder__low, rfl, _, _, rfl, rfl, _, _, h489, (by show 4 < 1000; decide), ?_⟩
          generalize g493 : upd H486 p_self _ = H494
          obtain ⟨x495, h496⟩ := gen_mut g493
          have h497 : H494 p_self = some (.ins AD.c_Encoder dx_self [("_probabilities", V.ref l_self_probs), ("_front", V.ref l_self_front), ("_low", V.int (((self'.low + ((self'.span / 4096) * chance')) - 4294967296))), ("_span", V.int ((self'.span - ((self'.span / 4096) * chance'))))]) := h496
          have S498 := S490.mut1 x495 (.head _) h497
          have h499 := (x495 _ _ (x487 _ _ (x480 _ _ h_l_self_probs (ne_of h_l_self_probs h_p_self (fun z => nomatch z))) (ne_of h_l_self_probs h_p_self (fun z => nomatch z))) (ne_of h_l_self_probs h_p_self (fun z => nomatch z)))
          have h500 := (x495 _ _ (x487 _ _ (x480 _ _ h_l_self_front (ne_of h_l_self_front h_p_self (fun z => nomatch z))) (ne_of h_l_self_front h_p_self (fun z => nomatch z))) (ne_of h_l_self_front h_p_self (fun z => nomatch z)))
          refine ⟨_, rfl, _, _, _, rfl, h497, rfl, rfl, rfl, G, _, _, _, _, (⟨self'.probs, self'.front, ((self'.low + ((self'.span / 4096) * chance')) - 4294967296), (self'.span - ((self'.span / 4096) * chance'))⟩ : St_Encoder), rfl, S498.sG, (S498.gno (all_cons (.head _) (all_cons (.tail _ (.head _)) (all_cons (.tail _ (.tail _ (.head _))) all_nil)))), h497, h499, h500, ne_self_0, cW_callN hw (fun v501 hw H502 x503 h505 h506 h507  => ?_) trivial⟩
          have S504 := S498.mut x503 (all_cons (.head _) (all_cons (.tail _ (.head _)) (all_cons (.tail _ (.tail _ (.head _))) all_nil))) (all_cons (some_ne h505) (all_cons (some_ne h506) (all_cons (some_ne h507) all_nil)))
          have hw := cW_ok hw
          have hw := hK467 _ hw
          exact ⟨(v501), _, rfl, (Same.refl _), S504, h505, h506, h507, hw⟩
        · have hw := cW_neg c491 hw
          have hw := cW_ok hw
          have hw := hK467 _ hw
          have h512 := (x487 _ _ (x480 _ _ h_l_self_probs (ne_of h_l_self_probs h_p_self (fun z => nomatch z))) (ne_of h_l_self_probs h_p_self (fun z => nomatch z)))
          have h513 := (x487 _ _ (x480 _ _ h_l_self_front (ne_of h_l_self_front h_p_self (fun z => nomatch z))) (ne_of h_l_self_front h_p_self (fun z => nomatch z)))
          exact ⟨((⟨self'.probs, self'.front, (self'.low + ((self'.span / 4096) * chance')), (self'.span - ((self'.span / 4096) * chance'))⟩ : St_Encoder)), _, rfl, (Same.refl _), S490, h489, h512, h513, hw⟩
    · intro σ H514 hw
      obtain ⟨self_465, G519, rfl, eG520, S515, h516, h517, h518, hw⟩ := hw
      unfold F_Encoder__narrow_k1 at hw
      obtain ⟨K521, hK522, hw⟩ := cW_push hw
      refine ⟨fun m σ H' => ∃ (self_523 : St_Encoder) (G' : Hp), σ = [some (V.ref p_self), some (V.int (chance')), some (V.int (decision')), some (V.int (((self'.span / 4096) * chance')))] ∧ Same G519 G' ∧ Sep [p_self, l_self_probs, l_self_front] H G G' H' [p_self, l_self_probs, l_self_front] ∧ H' p_self = some (.ins AD.c_Encoder dx_self [("_probabilities", V.ref l_self_probs), ("_front", V.ref l_self_front), ("_low", V.int (self_523.low)), ("_span", V.int (self_523.span))]) ∧ H' l_self_probs = some (.lst ((self_523.probs : (List Int)).map V.int)) ∧ H' l_self_front = some (.lst ((self_523.front : (List Int)).map V.int)) ∧ cW (whileR m self_523 (fun s => F_Encoder__narrow_b2  s)) K521 EE, ?_, ?_⟩
      · exact ⟨_, ⟨(self_465), _, rfl, (Same.refl _), S515, h516, h517, h518, hw⟩⟩
      · intro m σ H524 hw
        obtain ⟨self_523, G529, rfl, eG530, S525, h526, h527, h528, hw⟩ := hw
        obtain ⟨m531, rfl, hw2⟩ := cW_whileR hw
        have hw := hw2
        have hw : cW (F_Encoder__narrow_b2  (self_523)) _ EE := hw
        unfold F_Encoder__narrow_b2 at hw
        obtain ⟨K533, hK534, hw⟩ := cW_name hw
        refine ⟨_, rfl, _, _, _, _, _, rfl, h526, T.cl_Encoder, T.n_Encoder__span, rfl, _, _, rfl, rfl, _, rfl, ?_⟩
        refine iteD (fun c535 => ?_) (fun c535 => ?_)
        · have hw := cW_pos c535 hw
          refine ⟨(fun σ H' => ∃ m, (∃ (self_523 : St_Encoder) (G' : Hp), σ = [some (V.ref p_self), some (V.int (chance')), some (V.int (decision')), some (V.int (((self'.span / 4096) * chance')))] ∧ Same G519 G' ∧ Sep [p_self, l_self_probs, l_self_front] H G G' H' [p_self, l_self_probs, l_self_front] ∧ H' p_self = some (.ins AD.c_Encoder dx_self [("_probabilities", V.ref l_self_probs), ("_front", V.ref l_self_front), ("_low", V.int (self_523.low)), ("_span", V.int (self_523.span))]) ∧ H' l_self_probs = some (.lst ((self_523.probs : (List Int)).map V.int)) ∧ H' l_self_front = some (.lst ((self_523.front : (List Int)).map V.int)) ∧ cW (whileR m self_523 (fun s => F_Encoder__narrow_b2  s)) K521 EE) ∧ m < m531 + 1), (fun _ _ ⟨m', a, b⟩ => ⟨m', b, a⟩), ?_⟩
          obtain ⟨g536, hw⟩ := cW_grd hw
          refine ⟨_, rfl, _, _, _, _, _, rfl, h526, T.cl_Encoder, T.n_Encoder__front, rfl, (.inl ⟨rfl, _, SqL.of h528⟩), _, rfl, _, _, _, _, _, rfl, h526, T.cl_Encoder, T.n_Encoder__low, rfl, _, _, rfl, rfl, (show (0 : Int) ≤ 24 by decide), _, _, _, rfl, rfl, h528, (app_lenM g536), ?_⟩
          generalize g537 : upd H524 l_self_front _ = H538
          obtain ⟨x539, h540⟩ := gen_mut g537
          have h541 : H538 l_self_front = some (.lst (((self_523.front) ++ [(self_523.low / 16777216)] : (List Int)).map V.int)) := snoc_map h540
          have S542 := S525.mut1 x539 (.tail _ (.tail _ (.head _))) h541
          have hw := cW_bnd hw
          have h544 := (x539 _ _ h526 (ne_of h526 h528 (fun z => nomatch z)))
          obtain ⟨g545, hw⟩ := cW_grd hw
          have hw := cW_bnd hw
          refine ⟨_, rfl, _, _, _, _, _, rfl, h544, T.cl_Encoder, T.n_Encoder__low, rfl, _, _, rfl, rfl, (shl_side g545.1 g545.2.1 g545.2.2.1 g545.2.2.2), _, _, rfl, rfl, _, _, rfl, rfl, _, rfl, _, _, _, _, rfl, h544, T.cl_Encoder, T.n_Encoder__low, (by show 4 < 1000; decide), ?_⟩
          generalize g547 : upd H538 p_self _ = H548
          obtain ⟨x549, h550⟩ := gen_mut g547
          have h551 : H548 p_self = some (.ins AD.c_Encoder dx_self [("_probabilities", V.ref l_self_probs), ("_front", V.ref l_self_front), ("_low", V.int ((PySem.Builtin.bitAnd ((self_523.low * 2 ^ Int.toNat (8))) ((4294967296 - 1))))), ("_span", V.int (self_523.span))]) := h550
          have S552 := S542.mut1 x549 (.head _) h551
          obtain ⟨g553, hw⟩ := cW_grd hw
          have hw := cW_bnd hw
          refine ⟨_, rfl, _, _, _, _, _, rfl, h551, T.cl_Encoder, T.n_Encoder__span, rfl, _, _, rfl, rfl, (shl_side g553.1 g553.2.1 g553.2.2.1 g553.2.2.2), _, _, h551, (by show 4 < 1000; decide), ?_⟩
          generalize g555 : upd H548 p_self _ = H556
          obtain ⟨x557, h558⟩ := gen_mut g555
          have h559 : H556 p_self = some (.ins AD.c_Encoder dx_self [("_probabilities", V.ref l_self_probs), ("_front", V.ref l_self_front), ("_low", V.int ((PySem.Builtin.bitAnd ((self_523.low * 2 ^ Int.toNat (8))) ((4294967296 - 1))))), ("_span", V.int ((self_523.span * 2 ^ Int.toNat (8))))]) := h558
          have S560 := S552.mut1 x557 (.head _) h559
          have hw := cW_ok hw
          have hw := hK534 _ hw
          have h561 := (x557 _ _ (x549 _ _ (x539 _ _ h527 ne_self_0) (ne_of h527 h526 (fun z => nomatch z))) (ne_of h527 h526 (fun z => nomatch z)))
          have h562 := (x557 _ _ (x549 _ _ h541 (ne_of h541 h544 (fun z => nomatch z))) (ne_of h541 h544 (fun z => nomatch z)))
          exact ⟨m531, ⟨((⟨self_523.probs, (self_523.front) ++ [(self_523.low / 16777216)], (PySem.Builtin.bitAnd ((self_523.low * 2 ^ Int.toNat (8))) ((4294967296 - 1))), (self_523.span * 2 ^ Int.toNat (8))⟩ : St_Encoder)), _, rfl, eG530, S560, h559, h561, h562, hw⟩, Nat.lt_succ_self _⟩
        · have hw := cW_neg c535 hw
          have hw := cW_ok hw
          have hw := hK534 _ hw
          have hw := hK522 (.go _) hw
          have hw : cW (F_Encoder__narrow_r2  (self_523)) _ EE := hw
          unfold F_Encoder__narrow_r2 at hw
          have hw := cW_ok hw
          exact hK0 _ hw _ S525.base h526 h527 h528

abbrev N_Encoder_code : List Str := ["self", "context", "decision", "chance"]
theorem sc_Encoder_code : FnScope N_Encoder_code ["self", "context", "decision"] (defScope s_Encoder_code) := ⟨rfl, rfl, rfl, by decide +kernel, rfl, by decide +kernel, by decide +kernel⟩
theorem ok_Encoder_code (D : MethX K AD.c_Encoder "Encoder.code" "code" s_Encoder_code ["self", "context", "decision"] pats_Encoder_code) (T : Txt K mg AD) (c__check_context : CalX P w K mg base 1 "_check_context" (sp__check_context K AD) pats__check_context) (c__check_decision : CalX P w K mg base 1 "_check_decision" (sp__check_decision K AD) pats__check_decision) (c_Encoder__narrow : MetX P w K mg base 2 AD.c_Encoder "_narrow" (sp_Encoder__narrow K AD) pats_Encoder__narrow) (c__adapted : CalX P w K mg base 1 "_adapted" (sp__adapted K AD) pats__adapted) : MetX P w K mg base 3 AD.c_Encoder "code" (sp_Encoder_code K AD) pats_Encoder_code := by
  refine D.ok T.cl_Encoder sc_Encoder_code (fun vs H Q E h => ?_) (fun f cdv A_ outer s H vs Q E hr h => ?_)
  · obtain ⟨G, p_self, l_self_probs, l_self_front, dx_self, self', context', decision', rfl, _⟩ := h
    rfl
  · obtain ⟨G, p_self, l_self_probs, l_self_front, dx_self, self', context', decision', rfl, sG, gM, h_p_self, h_l_self_probs, h_l_self_front, ne_self_0, hw⟩ := h
    refine ⟨_, (pss_cons (ps_expr (vx_callX c__check_context pat__check_context_0 (.head _) hr (by decide) (takes_of rfl rfl rfl rfl) rfl (pa_cons (pv 1) pa_nil) pk_nil))
      (pss_cons (ps_expr (vx_callX c__check_decision pat__check_decision_0 (.head _) hr (by decide) (takes_of rfl rfl rfl rfl) rfl (pa_cons (pv 2) pa_nil) pk_nil))
      (pss_cons (ps_set (i := 3) sc_Encoder_code.nd rfl (Or.inl rfl) (pe_ix (ix_listK (K := K)) (fldK (K := K) (pv 0)) (pv 1) (fun _ _ => rfl)))
      (pss_cons (ps_expr (vx_methX c_Encoder__narrow pat_Encoder__narrow_0 (.head _) hr (by decide) (takes_of rfl rfl rfl rfl) (pv 0) (pa_cons (pv 3) (pa_cons (pv 2) pa_nil)) pk_nil))
      (pss_one (ps_asg (vx_callX c__adapted pat__adapted_0 (.head _) hr (by decide) (takes_of rfl rfl rfl rfl) rfl (pa_cons (pv 3) (pa_cons (pv 2) pa_nil)) pk_nil) (pg_sub (fldK (K := K) (pv 0)) (pv 1) set_list))))))), ?_⟩
    obtain ⟨KK, EE, hK0, hE, hw⟩ := cW_gen hw
    have S0 := Sep.startM (M := [p_self, l_self_probs, l_self_front]) sG (all_cons (some_ne h_p_self) (all_cons (some_ne h_l_self_probs) (all_cons (some_ne h_l_self_front) all_nil))) gM
    unfold F_Encoder_code at hw
    refine ⟨_, rfl, rfl, rfl, G, _, rfl, S0.sG, cW_call hw (fun v564 hw => ?_) (fun e he => hE e he _ (Same.refl _))⟩
    refine ⟨_, rfl, rfl, rfl, G, _, rfl, S0.sG, cW_call hw (fun v565 hw => ?_) (fun e he => hE e he _ (Same.refl _))⟩
    obtain ⟨g566, hw⟩ := cW_grd hw
    refine ⟨_, rfl, _, _, _, _, _, rfl, h_p_self, T.cl_Encoder, T.n_Encoder__probabilities, rfl, _, rfl, _, _, _, _, rfl, rfl, (SqL.of h_l_self_probs), (atI_map g566), ?_⟩
    have hw := cW_bnd hw
    refine ⟨_, rfl, _, _, _, rfl, h_p_self, rfl, _, rfl, _, rfl, rfl, rfl, G, _, _, _, _, self', _, _, rfl, S0.sG, (S0.gno (all_cons (.head _) (all_cons (.tail _ (.head _)) (all_cons (.tail _ (.tail _ (.head _))) all_nil)))), h_p_self, h_l_self_probs, h_l_self_front, ne_self_0, cW_call hw (fun v568 hw H569 x570 h572 h573 h574  => ?_) (fun e he H2 e2 => hE e he H2 (Same.trans (Same.refl _) e2))⟩
    have S571 := S0.mut x570 (all_cons (.head _) (all_cons (.tail _ (.head _)) (all_cons (.tail _ (.tail _ (.head _))) all_nil))) (all_cons (some_ne h572) (all_cons (some_ne h573) (all_cons (some_ne h574) all_nil)))
    refine ⟨_, rfl, _, rfl, rfl, rfl, G, _, _, rfl, S571.sG, cW_callN hw (fun v579 hw => ?_) trivial⟩
    obtain ⟨g580, hw⟩ := cW_grd hw
    refine ⟨_, rfl, _, _, _, _, _, rfl, h572, T.cl_Encoder, T.n_Encoder__probabilities, rfl, _, rfl, _, _, _, _, rfl, rfl, h573, (ixN_map g580), ?_⟩
    generalize g581 : upd H569 l_self_probs _ = H582
    obtain ⟨x583, h584⟩ := gen_mut g581
    have h585 : H582 l_self_probs = some (.lst ((setL (v568.probs) (context') (v579) : (List Int)).map V.int)) := set_map h584
    have S586 := S571.mut1 x583 (.tail _ (.head _)) h585
    have hw := cW_bnd hw
    have h588 := (x583 _ _ h572 (ne_of h572 h573 (fun z => nomatch z)))
    have h589 := (x583 _ _ h574 (ne_self_0).symm)
    have hw := cW_ok hw
    exact hK0 _ hw _ S586.base h588 h585 h589

abbrev N_Encoder_code_even : List Str := ["self", "decision"]
theorem sc_Encoder_code_even : FnScope N_Encoder_code_even ["self", "decision"] (defScope s_Encoder_code_even) := ⟨rfl, rfl, rfl, by decide +kernel, rfl, by decide +kernel, by decide +kernel⟩
theorem ok_Encoder_code_even (D : MethX K AD.c_Encoder "Encoder.code_even" "code_even" s_Encoder_code_even ["self", "decision"] pats_Encoder_code_even) (T : Txt K mg AD) (c__check_decision : CalX P w K mg base 1 "_check_decision" (sp__check_decision K AD) pats__check_decision) (c_Encoder__narrow : MetX P w K mg base 2 AD.c_Encoder "_narrow" (sp_Encoder__narrow K AD) pats_Encoder__narrow) : MetX P w K mg base 3 AD.c_Encoder "code_even" (sp_Encoder_code_even K AD) pats_Encoder_code_even := by
  refine D.ok T.cl_Encoder sc_Encoder_code_even (fun vs H Q E h => ?_) (fun f cdv A_ outer s H vs Q E hr h => ?_)
  · obtain ⟨G, p_self, l_self_probs, l_self_front, dx_self, self', decision', rfl, _⟩ := h
    rfl
  · obtain ⟨G, p_self, l_self_probs, l_self_front, dx_self, self', decision', rfl, sG, gM, h_p_self, h_l_self_probs, h_l_self_front, ne_self_0, hw⟩ := h
    refine ⟨_, (pss_cons (ps_expr (vx_callX c__check_decision pat__check_decision_0 (.head _) hr (by decide) (takes_of rfl rfl rfl rfl) rfl (pa_cons (pv 1) pa_nil) pk_nil))
      (pss_one (ps_expr (vx_methX c_Encoder__narrow pat_Encoder__narrow_0 (.head _) hr (by decide) (takes_of rfl rfl rfl rfl) (pv 0) (pa_cons (C8.pe_gc rfl T.g_EVEN) (pa_cons (pv 1) pa_nil)) pk_nil)))), ?_⟩
    obtain ⟨KK, EE, hK0, hE, hw⟩ := cW_gen hw
    have S0 := Sep.startM (M := [p_self, l_self_probs, l_self_front]) sG (all_cons (some_ne h_p_self) (all_cons (some_ne h_l_self_probs) (all_cons (some_ne h_l_self_front) all_nil))) gM
    unfold F_Encoder_code_even at hw
    refine ⟨_, rfl, rfl, rfl, G, _, rfl, S0.sG, cW_call hw (fun v590 hw => ?_) (fun e he => hE e he _ (Same.refl _))⟩
    refine ⟨_, rfl, _, _, _, rfl, h_p_self, rfl, _, rfl, rfl, rfl, G, _, _, _, _, self', _, _, rfl, S0.sG, (S0.gno (all_cons (.head _) (all_cons (.tail _ (.head _)) (all_cons (.tail _ (.tail _ (.head _))) all_nil)))), h_p_self, h_l_self_probs, h_l_self_front, ne_self_0, cW_call hw (fun v591 hw H592 x593 h595 h596 h597  => ?_) (fun e he H2 e2 => hE e he H2 (Same.trans (Same.refl _) e2))⟩
    have S594 := S0.mut x593 (all_cons (.head _) (all_cons (.tail _ (.head _)) (all_cons (.tail _ (.tail _ (.head _))) all_nil))) (all_cons (some_ne h595) (all_cons (some_ne h596) (all_cons (some_ne h597) all_nil)))
    have hw := cW_ok hw
    exact hK0 _ hw _ S594.base h595 h596 h597

abbrev N__law_code_items : List Str := ["encoder", "items", "item"]
theorem sc__law_code_items : FnScope N__law_code_items ["encoder", "items"] (defScope s__law_code_items) := ⟨rfl, rfl, rfl, by decide +kernel, rfl, by decide +kernel, by decide +kernel⟩
theorem ok__law_code_items (D : DefX K mg "_law_code_items" s__law_code_items ["encoder", "items"] pats__law_code_items) (T : Txt K mg AD) (c_Encoder_code : MetX P w K mg base 3 AD.c_Encoder "code" (sp_Encoder_code K AD) pats_Encoder_code) (c_Encoder_code_even : MetX P w K mg base 3 AD.c_Encoder "code_even" (sp_Encoder_code_even K AD) pats_Encoder_code_even) : CalX P w K mg base 4 "_law_code_items" (sp__law_code_items K AD) pats__law_code_items := by
  refine D.ok sc__law_code_items (fun vs H Q E h => ?_) (fun f cdv A_ outer s H vs Q E hr h => ?_)
  · obtain ⟨G, p_encoder, l_encoder_probs, l_encoder_front, dx_encoder, encoder', v_items, items', rfl, _⟩ := h
    rfl
  · obtain ⟨G, p_encoder, l_encoder_probs, l_encoder_front, dx_encoder, encoder', v_items, items', rfl, sG, gM, h_p_encoder, h_l_encoder_probs, h_l_encoder_front, ne_encoder_0, r_items, hw⟩ := h
    refine ⟨_, (pss_one (ps_for (passes_of rfl) rfl (pi_listK (K := K) (pv 1)) (pg_name (i := 2) sc__law_code_items.nd rfl (Or.inl rfl)) (pss_one (ps_if (pt_cmp (pc_ge (pe_ix (ix_tupK (K := K)) (pv 2) pe_int (fun _ _ => rfl)) pe_int)) (pss_one (ps_expr (vx_methX c_Encoder_code pat_Encoder_code_0 (.head _) hr (by decide) (takes_of rfl rfl rfl rfl) (pv 0) (pa_cons (pe_ix (ix_tupK (K := K)) (pv 2) pe_int (fun _ _ => rfl)) (pa_cons (pe_ix (ix_tupK (K := K)) (pv 2) pe_int (fun _ _ => rfl)) pa_nil)) pk_nil))) (pss_one (ps_expr (vx_methX c_Encoder_code_even pat_Encoder_code_even_0 (.head _) hr (by decide) (takes_of rfl rfl rfl rfl) (pv 0) (pa_cons (pe_ix (ix_tupK (K := K)) (pv 2) pe_int (fun _ _ => rfl)) pa_nil) pk_nil))))))), ?_⟩
    obtain ⟨KK, EE, hK0, hE, hw⟩ := cW_gen hw
    have S0 := Sep.startM (M := [p_encoder, l_encoder_probs, l_encoder_front]) sG (all_cons (some_ne h_p_encoder) (all_cons (some_ne h_l_encoder_probs) (all_cons (some_ne h_l_encoder_front) all_nil))) gM
    unfold F__law_code_items at hw
    obtain ⟨a602, vs603, rfl, h604, d605⟩ := rp_list r_items
    obtain ⟨K606, hK607, hw⟩ := cW_push hw
    refine ⟨_, rfl, _, rfl, ⟨_, (SqL.of (S0.bM _ _ h604))⟩, for_list (K := K) (a := a602) (xs := vs603) (fun i σ H' => ∃ (encoder_608 : St_Encoder) (u609 : Option V) (G' : Hp), σ = [some (V.ref p_encoder), some (V.ref a602), u609] ∧ Same G G' ∧ Sep [p_encoder, l_encoder_probs, l_encoder_front] H G G' H' [p_encoder, l_encoder_probs, l_encoder_front] ∧ H' p_encoder = some (.ins AD.c_Encoder dx_encoder [("_probabilities", V.ref l_encoder_probs), ("_front", V.ref l_encoder_front), ("_low", V.int (encoder_608.low)), ("_span", V.int (encoder_608.span))]) ∧ H' l_encoder_probs = some (.lst ((encoder_608.probs : (List Int)).map V.int)) ∧ H' l_encoder_front = some (.lst ((encoder_608.front : (List Int)).map V.int)) ∧ cW (forS (List.drop i (items')) encoder_608 (fun s x => F__law_code_items_b1  s x)) K606 EE) ?_ ?_ ?_ ?_⟩
    · exact ⟨(encoder'), _, _, rfl, (Same.refl _), S0, h_p_encoder, h_l_encoder_probs, h_l_encoder_front, hw⟩
    · intro i σ H610 _ hw
      obtain ⟨encoder_608, u609, G615, rfl, eG616, S611, h612, h613, h614, hw⟩ := hw
      exact (SqL.of (S611.bM _ _ h604))
    · intro i x σ H617 hj hw
      obtain ⟨encoder_608, u609, G622, rfl, eG623, S618, h619, h620, h621, hw⟩ := hw
      obtain ⟨x624, hx, r625⟩ := RpAll.get d605 hj
      obtain ⟨a626, v628, v629, rfl, h627, r630, r631⟩ := rp_tup2 r625
      obtain rfl := rp_int r630
      obtain rfl := rp_int r631
      have hw := cW_forS hx hw
      have hw : cW (F__law_code_items_b1  (encoder_608) (x624)) _ EE := hw
      unfold F__law_code_items_b1 at hw
      obtain ⟨K633, hK634, hw⟩ := cW_name hw
      refine ⟨_, rfl, _, _, _, _, rfl, rfl, (SqT.of (S618.bM _ _ h627)), rfl, _, _, rfl, rfl, _, rfl, ?_⟩
      refine iteD (fun c636 => ?_) (fun c636 => ?_)
      · have hw := cW_pos c636 hw
        refine ⟨_, rfl, _, _, _, rfl, h619, rfl, _, rfl, _, _, _, _, rfl, rfl, (SqT.of (S618.bM _ _ h627)), rfl, _, rfl, _, _, _, _, rfl, rfl, (SqT.of (S618.bM _ _ h627)), rfl, rfl, rfl, G622, _, _, _, _, encoder_608, _, _, rfl, S618.sG, (S618.gno (all_cons (.head _) (all_cons (.tail _ (.head _)) (all_cons (.tail _ (.tail _ (.head _))) all_nil)))), h619, h620, h621, ne_encoder_0, cW_callN hw (fun v637 hw H638 x639 h641 h642 h643  => ?_) trivial⟩
        have S640 := S618.mut x639 (all_cons (.head _) (all_cons (.tail _ (.head _)) (all_cons (.tail _ (.tail _ (.head _))) all_nil))) (all_cons (some_ne h641) (all_cons (some_ne h642) (all_cons (some_ne h643) all_nil)))
        have hw := cW_ok hw
        have hw := hK634 _ hw
        exact ⟨(v637), _, _, rfl, eG623, S640, h641, h642, h643, hw⟩
      · have hw := cW_neg c636 hw
        refine ⟨_, rfl, _, _, _, rfl, h619, rfl, _, rfl, _, _, _, _, rfl, rfl, (SqT.of (S618.bM _ _ h627)), rfl, rfl, rfl, G622, _, _, _, _, encoder_608, _, rfl, S618.sG, (S618.gno (all_cons (.head _) (all_cons (.tail _ (.head _)) (all_cons (.tail _ (.tail _ (.head _))) all_nil)))), h619, h620, h621, ne_encoder_0, cW_callN hw (fun v648 hw H649 x650 h652 h653 h654  => ?_) trivial⟩
        have S651 := S618.mut x650 (all_cons (.head _) (all_cons (.tail _ (.head _)) (all_cons (.tail _ (.tail _ (.head _))) all_nil))) (all_cons (some_ne h652) (all_cons (some_ne h653) (all_cons (some_ne h654) all_nil)))
        have hw := cW_ok hw
        have hw := hK634 _ hw
        exact ⟨(v648), _, _, rfl, eG623, S651, h652, h653, h654, hw⟩
    · intro σ H659 hw
      obtain ⟨encoder_608, u609, G664, rfl, eG665, S660, h661, h662, h663, hw⟩ := hw
      have hw := hK607 _ (cW_forS0 (by rw [d605.len, List.length_map]) hw)
      have hw : cW (F__law_code_items_r1  (encoder_608)) _ EE := hw
      unfold F__law_code_items_r1 at hw
      have hw := cW_ok hw
      exact hK0 _ hw _ S660.base h661 h662 h663

abbrev N_Decoder__shift : List Str := ["self", "octet"]
theorem sc_Decoder__shift : FnScope N_Decoder__shift ["self"] (defScope s_Decoder__shift) := ⟨rfl, rfl, rfl, by decide +kernel, rfl, by decide +kernel, by decide +kernel⟩
theorem ok_Decoder__shift (D : MethX K AD.c_Decoder "Decoder._shift" "_shift" s_Decoder__shift ["self"] pats_Decoder__shift) (T : Txt K mg AD)  : MetX P w K mg base 1 AD.c_Decoder "_shift" (sp_Decoder__shift K AD) pats_Decoder__shift := by
  refine D.ok T.cl_Decoder sc_Decoder__shift (fun vs H Q E h => ?_) (fun f cdv A_ outer s H vs Q E hr h => ?_)
  · obtain ⟨G, p_self, l_self_probs, l_self_octs, dx_self, self', rfl, _⟩ := h
    rfl
  · obtain ⟨G, p_self, l_self_probs, l_self_octs, dx_self, self', rfl, sG, gM, h_p_self, h_l_self_probs, h_l_self_octs, ne_self_0, hw⟩ := h
    refine ⟨_, (pss_cons (ps_set (i := 1) sc_Decoder__shift.nd rfl (Or.inl rfl) pe_int)
      (C8.pss_cut (ps_if (pt_cmp (pc_lt (fldK (K := K) (pv 0)) (pe_callB (call_lenLiK (K := K)) (by rfl) T.b_len (by decide +kernel) (pa_cons (fldK (K := K) (pv 0)) pa_nil)))) (pss_cons (ps_set (i := 1) sc_Decoder__shift.nd rfl (Or.inl rfl) (pe_ix (ix_listK (K := K)) (fldK (K := K) (pv 0)) (fldK (K := K) (pv 0)) (fun _ _ => rfl)))
      (pss_one (ps_fldaug (pv 0) pe_int (pip iop_add)))) pss_nil)
      (pss_one (ps_fld (pv 0) (pe_op op_or (pe_op op_shlW (fldK (K := K) (pv 0)) pe_int) (pv 1)) rfl)))), ?_⟩
    obtain ⟨KK, EE, hK0, hE, hw⟩ := cW_gen hw
    have S0 := Sep.startM (M := [p_self, l_self_probs, l_self_octs]) sG (all_cons (some_ne h_p_self) (all_cons (some_ne h_l_self_probs) (all_cons (some_ne h_l_self_octs) all_nil))) gM
    unfold F_Decoder__shift at hw
    refine ⟨fun σ H' => ∃ (self_669 : St_Decoder) (octet_670 : Int) (G' : Hp), σ = [some (V.ref p_self), some (V.int octet_670)] ∧ Same G G' ∧ Sep [p_self, l_self_probs, l_self_octs] H G G' H' [p_self, l_self_probs, l_self_octs] ∧ H' p_self = some (.ins AD.c_Decoder dx_self [("_probabilities", V.ref l_self_probs), ("_octets", V.ref l_self_octs), ("_place", V.int (self_669.place)), ("_span", V.int (self_669.span)), ("_value", V.int (self_669.value))]) ∧ H' l_self_probs = some (.lst ((self_669.probs : (List Int)).map V.int)) ∧ H' l_self_octs = some (.lst ((self_669.octs : (List Int)).map V.int)) ∧ cW (F_Decoder__shift_k1  self_669 octet_670) KK EE, ?_, ?_⟩
    · obtain ⟨K671, hK672, hw⟩ := cW_push hw
      refine ⟨_, rfl, _, _, _, _, _, rfl, h_p_self, T.cl_Decoder, T.n_Decoder__place, rfl, _, rfl, _, _, _, _, _, rfl, h_p_self, T.cl_Decoder, T.n_Decoder__octets, rfl, _, _, rfl, (SqL.of h_l_self_octs), _, _, rfl, rfl, _, rfl, ?_⟩
      refine iteD (fun c673 => ?_) (fun c673 => ?_)
      · have hw := cW_pos c673 hw
        obtain ⟨g674, hw⟩ := cW_grd hw
        refine ⟨_, rfl, _, _, _, _, _, rfl, h_p_self, T.cl_Decoder, T.n_Decoder__octets, rfl, _, rfl, _, _, _, _, _, rfl, h_p_self, T.cl_Decoder, T.n_Decoder__place, rfl, _, _, _, _, rfl, rfl, (SqL.of h_l_self_octs), (atI_map g674), ?_⟩
        have hw := cW_bnd hw
        have hw := cW_bnd hw
        refine ⟨_, rfl, _, _, _, _, _, rfl, h_p_self, T.cl_Decoder, T.n_Decoder__place, rfl, _, _, rfl, rfl, _, _, h_p_self, (by show 5 < 1000; decide), ?_⟩
        generalize g677 : upd H p_self _ = H678
        obtain ⟨x679, h680⟩ := gen_mut g677
        have h681 : H678 p_self = some (.ins AD.c_Decoder dx_self [("_probabilities", V.ref l_self_probs), ("_octets", V.ref l_self_octs), ("_place", V.int ((self'.place + 1))), ("_span", V.int (self'.span)), ("_value", V.int (self'.value))]) := h680
        have S682 := S0.mut1 x679 (.head _) h681
        have hw := cW_ok hw
        have hw := hK672 _ hw
        have h683 := (x679 _ _ h_l_self_probs (ne_of h_l_self_probs h_p_self (fun z => nomatch z)))
        have h684 := (x679 _ _ h_l_self_octs (ne_of h_l_self_octs h_p_self (fun z => nomatch z)))
        exact ⟨((⟨self'.probs, self'.octs, (self'.place + 1), self'.span, self'.value⟩ : St_Decoder)), ((itD (self'.octs) (self'.place))), _, rfl, (Same.refl _), S682, h681, h683, h684, hw⟩
      · have hw := cW_neg c673 hw
        have hw := cW_ok hw
        have hw := hK672 _ hw
        exact ⟨(self'), (0), _, rfl, (Same.refl _), S0, h_p_self, h_l_self_probs, h_l_self_octs, hw⟩
    · intro σ H685 hw
      obtain ⟨self_669, octet_670, G690, rfl, eG691, S686, h687, h688, h689, hw⟩ := hw
      unfold F_Decoder__shift_k1 at hw
      obtain ⟨g692, hw⟩ := cW_grd hw
      have hw := cW_bnd hw
      refine ⟨_, rfl, _, _, _, _, _, rfl, h687, T.cl_Decoder, T.n_Decoder__value, rfl, _, _, rfl, rfl, (shl_side g692.1 g692.2.1 g692.2.2.1 g692.2.2.2), _, rfl, _, _, rfl, rfl, _, rfl, _, _, _, _, rfl, h687, T.cl_Decoder, T.n_Decoder__value, (by show 5 < 1000; decide), ?_⟩
      generalize g694 : upd H685 p_self _ = H695
      obtain ⟨x696, h697⟩ := gen_mut g694
      have h698 : H695 p_self = some (.ins AD.c_Decoder dx_self [("_probabilities", V.ref l_self_probs), ("_octets", V.ref l_self_octs), ("_place", V.int (self_669.place)), ("_span", V.int (self_669.span)), ("_value", V.int ((PySem.Builtin.bitOr ((self_669.value * 2 ^ Int.toNat (8))) (octet_670))))]) := h697
      have S699 := S686.mut1 x696 (.head _) h698
      have h700 := (x696 _ _ h688 (ne_of h688 h687 (fun z => nomatch z)))
      have h701 := (x696 _ _ h689 (ne_of h689 h687 (fun z => nomatch z)))
      have hw := cW_ok hw
      exact hK0 _ hw _ S699.base h698 h700 h701

abbrev N_Decoder___init__ : List Str := ["self", "octets", "_"]
theorem sc_Decoder___init__ : FnScope N_Decoder___init__ ["self", "octets"] (defScope s_Decoder___init__) := ⟨rfl, rfl, rfl, by decide +kernel, rfl, by decide +kernel, by decide +kernel⟩
theorem ok_Decoder___init__ (D : InitX K mg AD.c_Decoder "Decoder" "Decoder.__init__" s_Decoder___init__ ["self", "octets"] pats_Decoder___init__) (T : Txt K mg AD) (c_Decoder__shift : MetX P w K mg base 1 AD.c_Decoder "_shift" (sp_Decoder__shift K AD) pats_Decoder__shift) : MakX P w K mg base 2 "Decoder" AD.c_Decoder (sp_Decoder___init__ K AD) pats_Decoder___init__ := by
  refine D.ok sc_Decoder___init__ (fun vs H Q E h => ?_) (fun f cdv A_ outer s H vs Q E hr h => ?_)
  · obtain ⟨G, p_self, dx_self, a_octets, octets', rfl, _⟩ := h
    rfl
  · obtain ⟨G, p_self, dx_self, a_octets, octets', rfl, sG, gM, h_self, q_octets, hw⟩ := h
    refine ⟨_, (pss_cons (ps_fld (pv 0) (pe_op op_rep (pe_lst (pa_cons (C8.pe_gc rfl T.g_EVEN) pa_nil)) (C8.pe_gc rfl T.g_CONTEXTS)) rfl)
      (pss_cons (ps_fld (pv 0) (pe_callTy (call_listLK (K := K)) (by rfl) T.b_list (by decide +kernel) (pa_cons (pv 1) pa_nil)) rfl)
      (pss_cons (ps_fld (pv 0) pe_int rfl)
      (pss_cons (ps_fld (pv 0) (pe_op op_sub (C8.pe_gc rfl T.g_WORD) pe_int) rfl)
      (pss_cons (ps_fld (pv 0) pe_int rfl)
      (pss_cons (ps_for (passes_of rfl) rfl (pi_range1 rfl T.b_range (pa_cons pe_int pa_nil)) (pg_name (i := 2) sc_Decoder___init__.nd rfl (Or.inl rfl)) (pss_one (ps_expr (vx_methX0 c_Decoder__shift pat_Decoder__shift_0 (.head _) hr (by decide) (takes_of rfl rfl rfl rfl) (pv 0)))))
      (pss_one (ps_fld (pv 0) (pe_callB (call_min2 rfl) (by rfl) T.b_min (by decide +kernel) (pa_cons (fldK (K := K) (pv 0)) (pa_cons (pe_op op_sub (C8.pe_gc rfl T.g_WORD) pe_int) pa_nil))) rfl)))))))), ?_⟩
    obtain ⟨KK, EE, hK0, hE, hw⟩ := cW_gen hw
    have S0 := Sep.startM (M := [p_self]) sG (all_cons (some_ne h_self) all_nil) gM
    unfold F_Decoder___init__ at hw
    refine ⟨(by show 1 ≤ sizeLine; decide), fun p702 n703 => ?_⟩
    generalize g704 : upd H p702 _ = H705
    obtain ⟨e706, h707⟩ := gen_new n703 g704
    have h708 : H705 p702 = some (.lst (([2048] : (List Int)).map V.int)) := h707
    have fr709 := S0.free n703
    have S710 := S0.new n703 e706 h708 fr709
    obtain ⟨g711, hw⟩ := cW_grd hw
    refine ⟨_, _, _, rfl, rfl, h708, g711.1, g711.2.1, (rep_lenM g711.2.2), fun p712 n713 => ?_⟩
    generalize g714 : upd H705 p712 _ = H715
    obtain ⟨e716, h717⟩ := gen_new n713 g714
    have h718 : H715 p712 = some (.lst ((repL ([2048]) (256) : (List Int)).map V.int)) := rep_map h717
    have fr719 := S710.free n713
    have S720 := S710.new n713 e716 h718 fr719
    have h721 := (e716 _ _ (e706 _ _ h_self))
    refine ⟨_, rfl, _, _, _, _, rfl, h721, T.cl_Decoder, T.n_Decoder__probabilities, (by show 0 < 1000; decide), ?_⟩
    generalize g722 : upd H715 p_self _ = H723
    obtain ⟨x724, h725⟩ := gen_mut g722
    have h726 : H723 p_self = some (.ins AD.c_Decoder dx_self [("_probabilities", V.ref p712)]) := h725
    have S727 := S720.mut1 x724 (.tail _ (.tail _ (.head _))) h726
    refine ⟨_, rfl, _, _, rfl, (SqL.of (S727.bM _ _ q_octets)), fun p728 n729 => ?_⟩
    generalize g730 : upd H723 p728 _ = H731
    obtain ⟨e732, h733⟩ := gen_new n729 g730
    have h734 : H731 p728 = some (.lst ((octets' : (List Int)).map V.int)) := h733
    have fr735 := S727.free n729
    have S736 := S727.new n729 e732 h734 fr735
    have h737 := (e732 _ _ h726)
    refine ⟨_, rfl, _, _, _, _, rfl, h737, T.cl_Decoder, T.n_Decoder__octets, (by show 1 < 1000; decide), ?_⟩
    generalize g738 : upd H731 p_self _ = H739
    obtain ⟨x740, h741⟩ := gen_mut g738
    have h742 : H739 p_self = some (.ins AD.c_Decoder dx_self [("_probabilities", V.ref p712), ("_octets", V.ref p728)]) := h741
    have S743 := S736.mut1 x740 (.tail _ (.tail _ (.tail _ (.head _)))) h742
    refine ⟨_, rfl, _, _, _, _, rfl, h742, T.cl_Decoder, T.n_Decoder__place, (by show 2 < 1000; decide), ?_⟩
    generalize g744 : upd H739 p_self _ = H745
    obtain ⟨x746, h747⟩ := gen_mut g744
    have h748 : H745 p_self = some (.ins AD.c_Decoder dx_self [("_probabilities", V.ref p712), ("_octets", V.ref p728), ("_place", V.int (0))]) := h747
    have S749 := S743.mut1 x746 (.tail _ (.tail _ (.tail _ (.head _)))) h748
    have hw := cW_bnd hw
    refine ⟨_, _, rfl, rfl, _, rfl, _, _, _, _, rfl, h748, T.cl_Decoder, T.n_Decoder__span, (by show 3 < 1000; decide), ?_⟩
    generalize g751 : upd H745 p_self _ = H752
    obtain ⟨x753, h754⟩ := gen_mut g751
    have h755 : H752 p_self = some (.ins AD.c_Decoder dx_self [("_probabilities", V.ref p712), ("_octets", V.ref p728), ("_place", V.int (0)), ("_span", V.int ((4294967296 - 1)))]) := h754
    have S756 := S749.mut1 x753 (.tail _ (.tail _ (.tail _ (.head _)))) h755
    refine ⟨_, rfl, _, _, _, _, rfl, h755, T.cl_Decoder, T.n_Decoder__value, (by show 4 < 1000; decide), ?_⟩
    generalize g757 : upd H752 p_self _ = H758
    obtain ⟨x759, h760⟩ := gen_mut g757
    have h761 : H758 p_self = some (.ins AD.c_Decoder dx_self [("_probabilities", V.ref p712), ("_octets", V.ref p728), ("_place", V.int (0)), ("_span", V.int ((4294967296 - 1))), ("_value", V.int (0))]) := h760
    have S762 := S756.mut1 x759 (.tail _ (.tail _ (.tail _ (.head _)))) h761
    obtain ⟨K763, hK764, hw⟩ := cW_push hw
    refine ⟨_, rfl, (by decide), (by decide), for_range (lo := 0) (n := Int.toNat (4)) (fun i σ H' => ∃ (self_765 : St_Decoder) (u766 : Option V) (G' : Hp), σ = [some (V.ref p_self), some (V.ref a_octets), u766] ∧ Same G G' ∧ Sep [p_self] H G G' H' [p_self, p712, p728] ∧ H' p_self = some (.ins AD.c_Decoder dx_self [("_probabilities", V.ref p712), ("_octets", V.ref p728), ("_place", V.int (self_765.place)), ("_span", V.int (self_765.span)), ("_value", V.int (self_765.value))]) ∧ H' p712 = some (.lst ((self_765.probs : (List Int)).map V.int)) ∧ H' p728 = some (.lst ((self_765.octs : (List Int)).map V.int)) ∧ cW (forS (List.drop i (rng (0) (Int.toNat (4)))) self_765 (fun s x => F_Decoder___init___b1  s x)) K763 EE) ?_ ?_ ?_⟩
    · have h767 := (x759 _ _ (x753 _ _ (x746 _ _ (x740 _ _ (e732 _ _ (x724 _ _ h718 (ne_of_none (e706 _ _ h_self) n713).symm)) (ne_of_none (e706 _ _ h_self) n713).symm) (ne_of_none (e706 _ _ h_self) n713).symm) (ne_of_none (e706 _ _ h_self) n713).symm) (ne_of_none (e706 _ _ h_self) n713).symm)
      have h768 := (x759 _ _ (x753 _ _ (x746 _ _ (x740 _ _ h734 (ne_of_none h726 n729).symm) (ne_of_none h726 n729).symm) (ne_of_none h726 n729).symm) (ne_of_none h726 n729).symm)
      exact ⟨((⟨repL ([2048]) (256), octets', 0, (4294967296 - 1), 0⟩ : St_Decoder)), _, _, rfl, (Same.refl _), (S762.sub (all_cons (.tail _ (.tail _ (.tail _ (.head _)))) (all_cons (.tail _ (.head _)) (all_cons (.head _) all_nil)))), h761, h767, h768, hw⟩
    · intro i σ H769 hi hw
      obtain ⟨self_765, u766, G774, rfl, eG775, S770, h771, h772, h773, hw⟩ := hw
      have hw := cW_forS (rng_get hi) hw
      generalize (0 + (i : Int)) = x776 at hw ⊢
      have hw : cW (F_Decoder___init___b1  (self_765) (x776)) _ EE := hw
      unfold F_Decoder___init___b1 at hw
      obtain ⟨K778, hK779, hw⟩ := cW_name hw
      refine ⟨_, rfl, _, _, _, rfl, h771, rfl, rfl, rfl, G774, _, _, _, _, self_765, rfl, S770.sG, (S770.gno (all_cons (.head _) (all_cons (.tail _ (.head _)) (all_cons (.tail _ (.tail _ (.head _))) all_nil)))), h771, h772, h773, (ne_of_none (x724 _ _ h718 (ne_of_none (e706 _ _ h_self) n713).symm) n729), cW_callN hw (fun v781 hw H782 x783 h785 h786 h787  => ?_) trivial⟩
      have S784 := S770.mut x783 (all_cons (.head _) (all_cons (.tail _ (.head _)) (all_cons (.tail _ (.tail _ (.head _))) all_nil))) (all_cons (some_ne h785) (all_cons (some_ne h786) (all_cons (some_ne h787) all_nil)))
      have hw := cW_ok hw
      have hw := hK779 _ hw
      exact ⟨(v781), _, _, rfl, eG775, S784, h785, h786, h787, hw⟩
    · intro σ H792 hw
      obtain ⟨self_765, u766, G797, rfl, eG798, S793, h794, h795, h796, hw⟩ := hw
      have hw := hK764 _ (cW_forS0 (rng_len _ _).symm hw)
      have hw : cW (F_Decoder___init___r1  (self_765)) _ EE := hw
      unfold F_Decoder___init___r1 at hw
      have hw := cW_bnd hw
      refine ⟨_, rfl, _, _, _, _, _, rfl, h794, T.cl_Decoder, T.n_Decoder__value, rfl, _, _, rfl, rfl, _, _, rfl, _, rfl, _, _, _, _, rfl, h794, T.cl_Decoder, T.n_Decoder__value, (by show 5 < 1000; decide), ?_⟩
      generalize g801 : upd H792 p_self _ = H802
      obtain ⟨x803, h804⟩ := gen_mut g801
      have h805 : H802 p_self = some (.ins AD.c_Decoder dx_self [("_probabilities", V.ref p712), ("_octets", V.ref p728), ("_place", V.int (self_765.place)), ("_span", V.int (self_765.span)), ("_value", V.int ((if (4294967296 - 2) < self_765.value then (4294967296 - 2) else self_765.value)))]) := h804
      have S806 := S793.mut1 x803 (.head _) h805
      have h807 := (x803 _ _ h795 (ne_of_none (e706 _ _ h_self) n713).symm)
      have h808 := (x803 _ _ h796 (ne_of_none h726 n729).symm)
      have hw := cW_ok hw
      exact hK0 _ hw _ _ _ (sameX_of S806.base) fr719 fr735 (ne_of_none (x724 _ _ h718 (ne_of_none (e706 _ _ h_self) n713).symm) n729) h805 h807 h808

abbrev N__law_cell : List Str := ["script", "k"]
theorem sc__law_cell : FnScope N__law_cell ["script", "k"] (defScope s__law_cell) := ⟨rfl, rfl, rfl, by decide +kernel, rfl, by decide +kernel, by decide +kernel⟩
theorem ok__law_cell (D : DefX K mg "_law_cell" s__law_cell ["script", "k"] pats__law_cell) (T : Txt K mg AD)  : CalX P w K mg base 1 "_law_cell" (sp__law_cell K AD) pats__law_cell := by
  refine D.ok sc__law_cell (fun vs H Q E h => ?_) (fun f cdv A_ outer s H vs Q E hr h => ?_)
  · obtain ⟨G, a_script, script', k', rfl, _⟩ := h
    rfl
  · obtain ⟨G, a_script, script', k', rfl, sG, q_script, hw⟩ := h
    refine ⟨_, (pss_cons (ps_if (pt_cmp (pc_lt (pv 1) (pe_callB (call_lenLiK (K := K)) (by rfl) T.b_len (by decide +kernel) (pa_cons (pv 0) pa_nil)))) (pss_one (ps_ret (pe_callTy call_int1 (by rfl) T.b_int (by decide +kernel) (pa_cons (pe_ix (ix_listK (K := K)) (pv 0) (pv 1) (fun _ _ => rfl)) pa_nil)))) pss_nil)
      (pss_one (ps_ret pe_int))), ?_⟩
    obtain ⟨KK, EE, hK0, hE, hw⟩ := cW_gen hw
    have S0 := Sep.startG sG
    unfold F__law_cell at hw
    refine ⟨_, rfl, _, rfl, _, _, rfl, (S0.b0.seq q_script), _, _, rfl, rfl, _, rfl, ?_⟩
    refine iteD (fun c809 => ?_) (fun c809 => ?_)
    · have hw := cW_pos c809 hw
      obtain ⟨g810, hw⟩ := cW_grd hw
      refine ⟨_, rfl, _, rfl, _, _, _, _, rfl, rfl, (S0.b0.seq q_script), (atI_map g810), .inl ⟨_, rfl, ?_⟩⟩
      have hw := cW_ok hw
      exact hK0 _ hw
    · have hw := cW_neg c809 hw
      have hw := cW_ok hw
      exact hK0 _ hw

abbrev N_Encoder_octets : List Str := ["self", "octets", "shift"]
theorem sc_Encoder_octets : FnScope N_Encoder_octets ["self"] (defScope s_Encoder_octets) := ⟨rfl, rfl, rfl, by decide +kernel, rfl, by decide +kernel, by decide +kernel⟩
theorem ok_Encoder_octets (D : MethX K AD.c_Encoder "Encoder.octets" "octets" s_Encoder_octets ["self"] pats_Encoder_octets) (T : Txt K mg AD)  : MetX P w K mg base 1 AD.c_Encoder "octets" (sp_Encoder_octets K AD) pats_Encoder_octets := by
  refine D.ok T.cl_Encoder sc_Encoder_octets (fun vs H Q E h => ?_) (fun f cdv A_ outer s H vs Q E hr h => ?_)
  · obtain ⟨G, p_self, l_self_probs, l_self_front, dx_self, self', rfl, _⟩ := h
    rfl
  · obtain ⟨G, p_self, l_self_probs, l_self_front, dx_self, self', rfl, sG, h_p_self, h_l_self_probs, h_l_self_front, hw⟩ := h
    refine ⟨_, (pss_cons (ps_set (i := 1) sc_Encoder_octets.nd rfl (Or.inl rfl) (pe_op op_cat (fldK (K := K) (pv 0)) (pe_lc (own := [("shift", 2)]) (g := gName 2) (by rfl) sc_Encoder_octets.nd (pi_tupK (K := K) (pe_tup (pa_cons pe_int (pa_cons pe_int (pa_cons pe_int (pa_cons pe_int pa_nil)))))) (blkOk_by (own := [("shift", 2)]) (N := N_Encoder_octets) (sc := defScope s_Encoder_octets) (by decide +kernel)) (fun _ _ _ _ _ => (pg_name (i := 2) sc_Encoder_octets.nd rfl (Or.inl rfl))) (fun _ _ _ _ _ => pts_nil) (fun _ _ _ _ _ => (pe_op op_and (pe_op op_shr (fldK (K := K) (pv 0)) (pv 2)) pe_int)))))
      (pss_cons (ps_while (passes_of rfl) (PW.pt (pw_and (pt_truth (pv 1) (fun _ => rfl)) (pw_and1 (pt_cmp (pc_eqI (pe_ix (ix_listK (K := K)) (pv 1) (pe_un un_neg pe_int) (fun _ _ => rfl)) pe_int))))) (pss_one (ps_expr (pe_bm0 PySem.F.plainAttrs_list PySem.F.slot_list_pop PySem.F.type_list_pop mt_pop (pv 1)))))
      (pss_one (ps_ret (pv 1))))), ?_⟩
    obtain ⟨KK, EE, hK0, hE, hw⟩ := cW_gen hw
    have S0 := Sep.startG sG
    unfold F_Encoder_octets at hw
    refine ⟨_, rfl, _, _, _, _, _, rfl, (S0.bM _ _ h_p_self), T.cl_Encoder, T.n_Encoder__front, rfl, (by show 4 ≤ sizeLine; decide), fun p811 n812 => ?_⟩
    generalize g813 : upd H p811 _ = H814
    obtain ⟨e815, h816⟩ := gen_new n812 g813
    have h817 : H814 p811 = some (.tup [V.int (24), V.int (16), V.int (8), V.int (0)]) := h816
    have fr818 := S0.free n812
    obtain ⟨G820, eG821, hg822, S819⟩ := S0.grow n812 e815 h817 fr818
    obtain ⟨K825, hK826, hw⟩ := cW_push hw
    refine ⟨_, rfl, ⟨_, (SqT.of (S819.sG _ _ hg822))⟩, fun D827 n828 => lc_tup (K := K) (a := p811) (xs := (([24, 16, 8, 0] : List Int).map V.int)) (fun i H' => ∃ (G' : Hp) (acc829 : (List Int)), Same G820 G' ∧ Sep [] H G G' H' [D827] ∧ H' D827 = some (.lst ((acc829 : (List Int)).map V.int)) ∧ cW (mapA (List.drop i ([24, 16, 8, 0])) acc829 (fun x => noEr (F_Encoder_octets_c1 (self') x))) K825 EE) ?_ ?_ ?_ ?_⟩
    · generalize g831 : upd H814 D827 _ = H832
      obtain ⟨e833, h834⟩ := gen_new n828 g831
      have fr835 := S819.free n828
      have S836 := S819.new n828 e833 h834 fr835
      exact ⟨_, [], Same.refl _, S836, h834, hw⟩
    · intro i H837 _ hw
      obtain ⟨G840, acc842, eG841, S838, h839, hw⟩ := hw
      exact (SqT.of (S838.sG _ _ (eG841 _ _ hg822)))
    · intro i x H845 hj hw
      obtain ⟨G848, acc850, eG849, S846, h847, hw⟩ := hw
      obtain ⟨x853, hx, rfl⟩ := map_get hj
      obtain ⟨z854, hw⟩ := cW_mapA hx hw
      have hw := cW_noEr hw
      have hw : cW (F_Encoder_octets_c1 (self') (x853)) _ (fun _ => False) := hw
      unfold F_Encoder_octets_c1 at hw
      refine ⟨rfl, ?_⟩
      refine tyes_go ?_
      obtain ⟨g856, hw⟩ := cW_grd hw
      refine ⟨_, rfl, _, _, _, _, _, rfl, (S846.bM _ _ h_p_self), T.cl_Encoder, T.n_Encoder__low, rfl, _, rfl, _, _, rfl, rfl, g856, _, _, rfl, rfl, _, h847, (app_lenM z854), ?_⟩
      generalize g857 : upd H845 D827 _ = H858
      obtain ⟨x859, h860⟩ := gen_mut g857
      have S861 := S846.mut1 x859 (.head _) h860
      have hw := cW_ok hw
      exact ⟨_, (acc850 ++ [(PySem.Builtin.bitAnd ((self'.low / 2 ^ Int.toNat (x853))) (255))]), eG849, S861, (snoc_map h860), hw⟩
    intro H862 hw
    obtain ⟨G865, acc867, eG866, S863, h864, hw⟩ := hw
    have hw := hK826 _ (cW_mapA0 (by rw [List.length_map]) hw)
    have fr870 := S819.free n828
    obtain ⟨g871, hw⟩ := cW_grd hw
    refine ⟨_, _, _, _, rfl, rfl, (S863.bM _ _ h_l_self_front), h864, (cat_lenM g871), fun p872 n873 => ?_⟩
    generalize g874 : upd H862 p872 _ = H875
    obtain ⟨e876, h877⟩ := gen_new n873 g874
    have h878 : H875 p872 = some (.lst (((self'.front) ++ (acc867) : (List Int)).map V.int)) := cat_map h877
    have fr879 := S863.free n873
    have S880 := S863.new n873 e876 h878 fr879
    obtain ⟨K881, hK882, hw⟩ := cW_push hw
    refine ⟨fun m σ H' => ∃ (octets_883 : (List Int)) (G' : Hp), σ = [some (V.ref p_self), some (V.ref p872), none] ∧ Same G865 G' ∧ Sep [] H G G' H' [p872] ∧ H' p872 = some (.lst ((octets_883 : (List Int)).map V.int)) ∧ cW (whileR m octets_883 (fun s => F_Encoder_octets_b2  s)) K881 EE, ?_, ?_⟩
    · exact ⟨_, ⟨((self'.front) ++ (acc867)), _, rfl, (Same.refl _), (S880.sub (all_cons (.head _) all_nil)), h878, hw⟩⟩
    · intro m σ H884 hw
      obtain ⟨octets_883, G887, rfl, eG888, S885, h886, hw⟩ := hw
      obtain ⟨m889, rfl, hw2⟩ := cW_whileR hw
      have hw := hw2
      have hw : cW (F_Encoder_octets_b2  (octets_883)) _ EE := hw
      unfold F_Encoder_octets_b2 at hw
      obtain ⟨K891, hK892, hw⟩ := cW_name hw
      refine ⟨_, rfl, _, (.inl ⟨_, (SqL.of h886), tru_map⟩), ?_⟩
      refine iteN (fun c893 => ?_) (fun c893 => ?_)
      · have hw := cW_neg c893 hw
        obtain ⟨g894, hw⟩ := cW_grd hw
        refine ⟨_, rfl, _, rfl, _, _, _, _, rfl, rfl, (SqL.of h886), (atI_map g894), _, _, rfl, rfl, _, rfl, ?_⟩
        refine iteD (fun c895 => ?_) (fun c895 => ?_)
        · have hw := cW_pos c895 hw
          refine ⟨(fun σ H' => ∃ m, (∃ (octets_883 : (List Int)) (G' : Hp), σ = [some (V.ref p_self), some (V.ref p872), none] ∧ Same G865 G' ∧ Sep [] H G G' H' [p872] ∧ H' p872 = some (.lst ((octets_883 : (List Int)).map V.int)) ∧ cW (whileR m octets_883 (fun s => F_Encoder_octets_b2  s)) K881 EE) ∧ m < m889 + 1), (fun _ _ ⟨m', a, b⟩ => ⟨m', b, a⟩), ?_⟩
          obtain ⟨g896, hw⟩ := cW_grd hw
          refine ⟨_, rfl, (.inl ⟨rfl, _, SqL.of h886⟩), _, _, _, rfl, rfl, h886, (pop_map g896), ?_⟩
          generalize g897 : upd H884 p872 _ = H898
          obtain ⟨x899, h900⟩ := gen_mut g897
          have h901 : H898 p872 = some (.lst (((octets_883).dropLast : (List Int)).map V.int)) := drop_map h900
          have S902 := S885.mut1 x899 (.head _) h901
          have hw := cW_bnd hw
          have hw := cW_ok hw
          have hw := hK892 _ hw
          exact ⟨m889, ⟨((octets_883).dropLast), _, rfl, eG888, S902, h901, hw⟩, Nat.lt_succ_self _⟩
        · have hw := cW_neg c895 hw
          have hw := cW_ok hw
          have hw := hK892 _ hw
          have hw := hK882 (.go _) hw
          have hw : cW (F_Encoder_octets_r2  (octets_883)) _ EE := hw
          unfold F_Encoder_octets_r2 at hw
          refine ⟨_, rfl, ?_⟩
          have hw := cW_ok hw
          exact hK0 _ hw _ _ fr879 S885.b0 h886
      · have hw := cW_pos c893 hw
        refine iteF ?_
        have hw := cW_ok hw
        have hw := hK892 _ hw
        have hw := hK882 (.go _) hw
        have hw : cW (F_Encoder_octets_r2  (octets_883)) _ EE := hw
        unfold F_Encoder_octets_r2 at hw
        refine ⟨_, rfl, ?_⟩
        have hw := cW_ok hw
        exact hK0 _ hw _ _ fr879 S885.b0 h886

abbrev N_Decoder__decide : List Str := ["self", "chance", "part", "decision"]
theorem sc_Decoder__decide : FnScope N_Decoder__decide ["self", "chance"] (defScope s_Decoder__decide) := ⟨rfl, rfl, rfl, by decide +kernel, rfl, by decide +kernel, by decide +kernel⟩
theorem ok_Decoder__decide (D : MethX K AD.c_Decoder "Decoder._decide" "_decide" s_Decoder__decide ["self", "chance"] pats_Decoder__decide) (T : Txt K mg AD) (c_Decoder__shift : MetX P w K mg base 1 AD.c_Decoder "_shift" (sp_Decoder__shift K AD) pats_Decoder__shift) : MetX P w K mg base 2 AD.c_Decoder "_decide" (sp_Decoder__decide K AD) pats_Decoder__decide := by
  refine D.ok T.cl_Decoder sc_Decoder__decide (fun vs H Q E h => ?_) (fun f cdv A_ outer s H vs Q E hr h => ?_)
  · obtain ⟨G, p_self, l_self_probs, l_self_octs, dx_self, self', chance', rfl, _⟩ := h
    rfl
  · obtain ⟨G, p_self, l_self_probs, l_self_octs, dx_self, self', chance', rfl, sG, gM, h_p_self, h_l_self_probs, h_l_self_octs, ne_self_0, hw⟩ := h
    refine ⟨_, (pss_cons (ps_set (i := 2) sc_Decoder__decide.nd rfl (Or.inl rfl) (pe_op op_mul (pe_op op_shr (fldK (K := K) (pv 0)) (C8.pe_gc rfl T.g_SCALE_BITS)) (pv 1)))
      (pss_cons (ps_set (i := 3) sc_Decoder__decide.nd rfl (Or.inl rfl) (pe_ifExp (pt_cmp (pc_lt (fldK (K := K) (pv 0)) (pv 2))) pe_int pe_int))
      (C8.pss_cut (ps_if (pt_cmp (pc_eqI (pv 3) pe_int)) (pss_one (ps_fld (pv 0) (pv 2) rfl)) (pss_cons (ps_fldaug (pv 0) (pv 2) (pip iop_sub))
      (pss_one (ps_fldaug (pv 0) (pv 2) (pip iop_sub)))))
      (pss_cons (ps_while (passes_of rfl) (pt_cmp (pc_lt (fldK (K := K) (pv 0)) (C8.pe_gc rfl T.g_LEAST_SPAN))) (pss_cons (ps_expr (vx_methX0 c_Decoder__shift pat_Decoder__shift_0 (.head _) hr (by decide) (takes_of rfl rfl rfl rfl) (pv 0)))
      (pss_one (ps_fldaug (pv 0) pe_int (pip iop_shlW)))))
      (pss_one (ps_ret (pv 3))))))), ?_⟩
    obtain ⟨KK, EE, hK0, hE, hw⟩ := cW_gen hw
    have S0 := Sep.startM (M := [p_self, l_self_probs, l_self_octs]) sG (all_cons (some_ne h_p_self) (all_cons (some_ne h_l_self_probs) (all_cons (some_ne h_l_self_octs) all_nil))) gM
    unfold F_Decoder__decide at hw
    obtain ⟨g906, hw⟩ := cW_grd hw
    refine ⟨_, rfl, _, _, _, _, _, rfl, h_p_self, T.cl_Decoder, T.n_Decoder__span, rfl, _, _, rfl, rfl, (show (0 : Int) ≤ 12 by decide), _, rfl, _, _, rfl, rfl, g906, ?_⟩
    have hw := cW_bnd hw
    refine vv_if (vt_cmp (vv_cmp (val_fld (val_var rfl) h_p_self T.cl_Decoder T.n_Decoder__value rfl) (val_var rfl) (fun Q q => ⟨_, _, rfl, rfl, q⟩))) val_c val_c _ ?_
    have hw := cW_bnd hw
    refine ⟨fun σ H' => ∃ (self_914 : St_Decoder) (G' : Hp), σ = [some (V.ref p_self), some (V.int (chance')), some (V.int (((self'.span / 4096) * chance'))), some (V.int ((if self'.value < ((self'.span / 4096) * chance') then 0 else 1)))] ∧ Same G G' ∧ Sep [p_self, l_self_probs, l_self_octs] H G G' H' [p_self, l_self_probs, l_self_octs] ∧ H' p_self = some (.ins AD.c_Decoder dx_self [("_probabilities", V.ref l_self_probs), ("_octets", V.ref l_self_octs), ("_place", V.int (self_914.place)), ("_span", V.int (self_914.span)), ("_value", V.int (self_914.value))]) ∧ H' l_self_probs = some (.lst ((self_914.probs : (List Int)).map V.int)) ∧ H' l_self_octs = some (.lst ((self_914.octs : (List Int)).map V.int)) ∧ cW (F_Decoder__decide_k1 ((if self'.value < ((self'.span / 4096) * chance') then 0 else 1)) self_914) KK EE, ?_, ?_⟩
    · obtain ⟨K915, hK916, hw⟩ := cW_push hw
      refine ⟨_, rfl, _, _, rfl, rfl, _, rfl, ?_⟩
      refine iteD (fun c917 => ?_) (fun c917 => ?_)
      · have hw := cW_pos c917 hw
        refine ⟨_, rfl, _, rfl, _, _, _, _, rfl, h_p_self, T.cl_Decoder, T.n_Decoder__span, (by show 5 < 1000; decide), ?_⟩
        generalize g918 : upd H p_self _ = H919
        obtain ⟨x920, h921⟩ := gen_mut g918
        have h922 : H919 p_self = some (.ins AD.c_Decoder dx_self [("_probabilities", V.ref l_self_probs), ("_octets", V.ref l_self_octs), ("_place", V.int (self'.place)), ("_span", V.int (((self'.span / 4096) * chance'))), ("_value", V.int (self'.value))]) := h921
        have S923 := S0.mut1 x920 (.head _) h922
        have hw := cW_ok hw
        have hw := hK916 _ hw
        have h924 := (x920 _ _ h_l_self_probs (ne_of h_l_self_probs h_p_self (fun z => nomatch z)))
        have h925 := (x920 _ _ h_l_self_octs (ne_of h_l_self_octs h_p_self (fun z => nomatch z)))
        exact ⟨((⟨self'.probs, self'.octs, self'.place, ((self'.span / 4096) * chance'), self'.value⟩ : St_Decoder)), _, rfl, (Same.refl _), S923, h922, h924, h925, hw⟩
      · have hw := cW_neg c917 hw
        have hw := cW_bnd hw
        refine ⟨_, rfl, _, _, _, _, _, rfl, h_p_self, T.cl_Decoder, T.n_Decoder__value, rfl, _, rfl, _, _, rfl, rfl, _, _, h_p_self, (by show 5 < 1000; decide), ?_⟩
        generalize g927 : upd H p_self _ = H928
        obtain ⟨x929, h930⟩ := gen_mut g927
        have h931 : H928 p_self = some (.ins AD.c_Decoder dx_self [("_probabilities", V.ref l_self_probs), ("_octets", V.ref l_self_octs), ("_place", V.int (self'.place)), ("_span", V.int (self'.span)), ("_value", V.int ((self'.value - ((self'.span / 4096) * chance'))))]) := h930
        have S932 := S0.mut1 x929 (.head _) h931
        have hw := cW_bnd hw
        refine ⟨_, rfl, _, _, _, _, _, rfl, h931, T.cl_Decoder, T.n_Decoder__span, rfl, _, rfl, _, _, rfl, rfl, _, _, h931, (by show 5 < 1000; decide), ?_⟩
        generalize g934 : upd H928 p_self _ = H935
        obtain ⟨x936, h937⟩ := gen_mut g934
        have h938 : H935 p_self = some (.ins AD.c_Decoder dx_self [("_probabilities", V.ref l_self_probs), ("_octets", V.ref l_self_octs), ("_place", V.int (self'.place)), ("_span", V.int ((self'.span - ((self'.span / 4096) * chance')))), ("_value", V.int ((self'.value - ((self'.span / 4096) * chance'))))]) := h937
        have S939 := S932.mut1 x936 (.head _) h938
        have hw := cW_ok hw
        have hw := hK916 _ hw
        have h940 := (x936 _ _ (x929 _ _ h_l_self_probs (ne_of h_l_self_probs h_p_self (fun z => nomatch z))) (ne_of h_l_self_probs h_p_self (fun z => nomatch z)))
        have h941 := (x936 _ _ (x929 _ _ h_l_self_octs (ne_of h_l_self_octs h_p_self (fun z => nomatch z))) (ne_of h_l_self_octs h_p_self (fun z => nomatch z)))
        exact ⟨((⟨self'.probs, self'.octs, self'.place, (self'.span - ((self'.span / 4096) * chance')), (self'.value - ((self'.span / 4096) * chance'))⟩ : St_Decoder)), _, rfl, (Same.refl _), S939, h938, h940, h941, hw⟩
    · intro σ H942 hw
      obtain ⟨self_914, G947, rfl, eG948, S943, h944, h945, h946, hw⟩ := hw
      unfold F_Decoder__decide_k1 at hw
      obtain ⟨K950, hK951, hw⟩ := cW_push hw
      refine ⟨fun m σ H' => ∃ (self_952 : St_Decoder) (G' : Hp), σ = [some (V.ref p_self), some (V.int (chance')), some (V.int (((self'.span / 4096) * chance'))), some (V.int ((if self'.value < ((self'.span / 4096) * chance') then 0 else 1)))] ∧ Same G947 G' ∧ Sep [p_self, l_self_probs, l_self_octs] H G G' H' [p_self, l_self_probs, l_self_octs] ∧ H' p_self = some (.ins AD.c_Decoder dx_self [("_probabilities", V.ref l_self_probs), ("_octets", V.ref l_self_octs), ("_place", V.int (self_952.place)), ("_span", V.int (self_952.span)), ("_value", V.int (self_952.value))]) ∧ H' l_self_probs = some (.lst ((self_952.probs : (List Int)).map V.int)) ∧ H' l_self_octs = some (.lst ((self_952.octs : (List Int)).map V.int)) ∧ cW (whileR m self_952 (fun s => F_Decoder__decide_b2  s)) K950 EE, ?_, ?_⟩
      · exact ⟨_, ⟨(self_914), _, rfl, (Same.refl _), S943, h944, h945, h946, hw⟩⟩
      · intro m σ H953 hw
        obtain ⟨self_952, G958, rfl, eG959, S954, h955, h956, h957, hw⟩ := hw
        obtain ⟨m960, rfl, hw2⟩ := cW_whileR hw
        have hw := hw2
        have hw : cW (F_Decoder__decide_b2  (self_952)) _ EE := hw
        unfold F_Decoder__decide_b2 at hw
        obtain ⟨K962, hK963, hw⟩ := cW_name hw
        refine ⟨_, rfl, _, _, _, _, _, rfl, h955, T.cl_Decoder, T.n_Decoder__span, rfl, _, _, rfl, rfl, _, rfl, ?_⟩
        refine iteD (fun c964 => ?_) (fun c964 => ?_)
        · have hw := cW_pos c964 hw
          refine ⟨(fun σ H' => ∃ m, (∃ (self_952 : St_Decoder) (G' : Hp), σ = [some (V.ref p_self), some (V.int (chance')), some (V.int (((self'.span / 4096) * chance'))), some (V.int ((if self'.value < ((self'.span / 4096) * chance') then 0 else 1)))] ∧ Same G947 G' ∧ Sep [p_self, l_self_probs, l_self_octs] H G G' H' [p_self, l_self_probs, l_self_octs] ∧ H' p_self = some (.ins AD.c_Decoder dx_self [("_probabilities", V.ref l_self_probs), ("_octets", V.ref l_self_octs), ("_place", V.int (self_952.place)), ("_span", V.int (self_952.span)), ("_value", V.int (self_952.value))]) ∧ H' l_self_probs = some (.lst ((self_952.probs : (List Int)).map V.int)) ∧ H' l_self_octs = some (.lst ((self_952.octs : (List Int)).map V.int)) ∧ cW (whileR m self_952 (fun s => F_Decoder__decide_b2  s)) K950 EE) ∧ m < m960 + 1), (fun _ _ ⟨m', a, b⟩ => ⟨m', b, a⟩), ?_⟩
          refine ⟨_, rfl, _, _, _, rfl, h955, rfl, rfl, rfl, G958, _, _, _, _, self_952, rfl, S954.sG, (S954.gno (all_cons (.head _) (all_cons (.tail _ (.head _)) (all_cons (.tail _ (.tail _ (.head _))) all_nil)))), h955, h956, h957, ne_self_0, cW_callN hw (fun v965 hw H966 x967 h969 h970 h971  => ?_) trivial⟩
          have S968 := S954.mut x967 (all_cons (.head _) (all_cons (.tail _ (.head _)) (all_cons (.tail _ (.tail _ (.head _))) all_nil))) (all_cons (some_ne h969) (all_cons (some_ne h970) (all_cons (some_ne h971) all_nil)))
          obtain ⟨g976, hw⟩ := cW_grd hw
          have hw := cW_bnd hw
          refine ⟨_, rfl, _, _, _, _, _, rfl, h969, T.cl_Decoder, T.n_Decoder__span, rfl, _, _, rfl, rfl, (shl_side g976.1 g976.2.1 g976.2.2.1 g976.2.2.2), _, _, h969, (by show 5 < 1000; decide), ?_⟩
          generalize g978 : upd H966 p_self _ = H979
          obtain ⟨x980, h981⟩ := gen_mut g978
          have h982 : H979 p_self = some (.ins AD.c_Decoder dx_self [("_probabilities", V.ref l_self_probs), ("_octets", V.ref l_self_octs), ("_place", V.int (v965.place)), ("_span", V.int ((v965.span * 2 ^ Int.toNat (8)))), ("_value", V.int (v965.value))]) := h981
          have S983 := S968.mut1 x980 (.head _) h982
          have hw := cW_ok hw
          have hw := hK963 _ hw
          have h984 := (x980 _ _ h970 (ne_of h970 h969 (fun z => nomatch z)))
          have h985 := (x980 _ _ h971 (ne_of h971 h969 (fun z => nomatch z)))
          exact ⟨m960, ⟨((⟨v965.probs, v965.octs, v965.place, (v965.span * 2 ^ Int.toNat (8)), v965.value⟩ : St_Decoder)), _, rfl, eG959, S983, h982, h984, h985, hw⟩, Nat.lt_succ_self _⟩
        · have hw := cW_neg c964 hw
          have hw := cW_ok hw
          have hw := hK963 _ hw
          have hw := hK951 (.go _) hw
          have hw : cW (F_Decoder__decide_r2 ((if self'.value < ((self'.span / 4096) * chance') then 0 else 1)) (self_952)) _ EE := hw
          unfold F_Decoder__decide_r2 at hw
          refine ⟨_, rfl, ?_⟩
          have hw := cW_ok hw
          exact hK0 _ hw _ S954.base h955 h956 h957

abbrev N_Decoder_read : List Str := ["self", "context", "chance", "decision"]
theorem sc_Decoder_read : FnScope N_Decoder_read ["self", "context"] (defScope s_Decoder_read) := ⟨rfl, rfl, rfl, by decide +kernel, rfl, by decide +kernel, by decide +kernel⟩
theorem ok_Decoder_read (D : MethX K AD.c_Decoder "Decoder.read" "read" s_Decoder_read ["self", "context"] pats_Decoder_read) (T : Txt K mg AD) (c__check_context : CalX P w K mg base 1 "_check_context" (sp__check_context K AD) pats__check_context) (c_Decoder__decide : MetX P w K mg base 2 AD.c_Decoder "_decide" (sp_Decoder__decide K AD) pats_Decoder__decide) (c__adapted : CalX P w K mg base 1 "_adapted" (sp__adapted K AD) pats__adapted) : MetX P w K mg base 3 AD.c_Decoder "read" (sp_Decoder_read K AD) pats_Decoder_read := by
  refine D.ok T.cl_Decoder sc_Decoder_read (fun vs H Q E h => ?_) (fun f cdv A_ outer s H vs Q E hr h => ?_)
  · obtain ⟨G, p_self, l_self_probs, l_self_octs, dx_self, self', context', rfl, _⟩ := h
    rfl
  · obtain ⟨G, p_self, l_self_probs, l_self_octs, dx_self, self', context', rfl, sG, gM, h_p_self, h_l_self_probs, h_l_self_octs, ne_self_0, hw⟩ := h
    refine ⟨_, (pss_cons (ps_expr (vx_callX c__check_context pat__check_context_0 (.head _) hr (by decide) (takes_of rfl rfl rfl rfl) rfl (pa_cons (pv 1) pa_nil) pk_nil))
      (pss_cons (ps_set (i := 2) sc_Decoder_read.nd rfl (Or.inl rfl) (pe_ix (ix_listK (K := K)) (fldK (K := K) (pv 0)) (pv 1) (fun _ _ => rfl)))
      (pss_cons (ps_set (i := 3) sc_Decoder_read.nd rfl (Or.inl rfl) (vx_methX c_Decoder__decide pat_Decoder__decide_0 (.head _) hr (by decide) (takes_of rfl rfl rfl rfl) (pv 0) (pa_cons (pv 2) pa_nil) pk_nil))
      (pss_cons (ps_asg (vx_callX c__adapted pat__adapted_0 (.head _) hr (by decide) (takes_of rfl rfl rfl rfl) rfl (pa_cons (pv 2) (pa_cons (pv 3) pa_nil)) pk_nil) (pg_sub (fldK (K := K) (pv 0)) (pv 1) set_list))
      (pss_one (ps_ret (pv 3))))))), ?_⟩
    obtain ⟨KK, EE, hK0, hE, hw⟩ := cW_gen hw
    have S0 := Sep.startM (M := [p_self, l_self_probs, l_self_octs]) sG (all_cons (some_ne h_p_self) (all_cons (some_ne h_l_self_probs) (all_cons (some_ne h_l_self_octs) all_nil))) gM
    unfold F_Decoder_read at hw
    refine ⟨_, rfl, rfl, rfl, G, _, rfl, S0.sG, cW_call hw (fun v987 hw => ?_) (fun e he => hE e he _ (Same.refl _))⟩
    obtain ⟨g988, hw⟩ := cW_grd hw
    refine ⟨_, rfl, _, _, _, _, _, rfl, h_p_self, T.cl_Decoder, T.n_Decoder__probabilities, rfl, _, rfl, _, _, _, _, rfl, rfl, (SqL.of h_l_self_probs), (atI_map g988), ?_⟩
    have hw := cW_bnd hw
    refine ⟨_, rfl, _, _, _, rfl, h_p_self, rfl, _, rfl, rfl, rfl, G, _, _, _, _, self', _, rfl, S0.sG, (S0.gno (all_cons (.head _) (all_cons (.tail _ (.head _)) (all_cons (.tail _ (.tail _ (.head _))) all_nil)))), h_p_self, h_l_self_probs, h_l_self_octs, ne_self_0, cW_call hw (fun v990 hw H991 x992 h994 h995 h996  => ?_) (fun e he H2 e2 => hE e he H2 (Same.trans (Same.refl _) e2))⟩
    have S993 := S0.mut x992 (all_cons (.head _) (all_cons (.tail _ (.head _)) (all_cons (.tail _ (.tail _ (.head _))) all_nil))) (all_cons (some_ne h994) (all_cons (some_ne h995) (all_cons (some_ne h996) all_nil)))
    refine ⟨_, rfl, _, rfl, rfl, rfl, G, _, _, rfl, S993.sG, cW_callN hw (fun v1001 hw => ?_) trivial⟩
    obtain ⟨g1002, hw⟩ := cW_grd hw
    refine ⟨_, rfl, _, _, _, _, _, rfl, h994, T.cl_Decoder, T.n_Decoder__probabilities, rfl, _, rfl, _, _, _, _, rfl, rfl, h995, (ixN_map g1002), ?_⟩
    generalize g1003 : upd H991 l_self_probs _ = H1004
    obtain ⟨x1005, h1006⟩ := gen_mut g1003
    have h1007 : H1004 l_self_probs = some (.lst ((setL (v990.2.probs) (context') (v1001) : (List Int)).map V.int)) := set_map h1006
    have S1008 := S993.mut1 x1005 (.tail _ (.head _)) h1007
    have hw := cW_bnd hw
    refine ⟨_, rfl, ?_⟩
    have h1010 := (x1005 _ _ h994 (ne_of h994 h995 (fun z => nomatch z)))
    have h1011 := (x1005 _ _ h996 (ne_self_0).symm)
    have hw := cW_ok hw
    exact hK0 _ hw _ S1008.base h1010 h1007 h1011

abbrev N_Encoder_probability : List Str := ["self", "context"]
theorem sc_Encoder_probability : FnScope N_Encoder_probability ["self", "context"] (defScope s_Encoder_probability) := ⟨rfl, rfl, rfl, by decide +kernel, rfl, by decide +kernel, by decide +kernel⟩
theorem ok_Encoder_probability (D : MethX K AD.c_Encoder "Encoder.probability" "probability" s_Encoder_probability ["self", "context"] pats_Encoder_probability) (T : Txt K mg AD) (c__check_context : CalX P w K mg base 1 "_check_context" (sp__check_context K AD) pats__check_context) : MetX P w K mg base 2 AD.c_Encoder "probability" (sp_Encoder_probability K AD) pats_Encoder_probability := by
  refine D.ok T.cl_Encoder sc_Encoder_probability (fun vs H Q E h => ?_) (fun f cdv A_ outer s H vs Q E hr h => ?_)
  · obtain ⟨G, p_self, l_self_probs, l_self_front, dx_self, self', context', rfl, _⟩ := h
    rfl
  · obtain ⟨G, p_self, l_self_probs, l_self_front, dx_self, self', context', rfl, sG, h_p_self, h_l_self_probs, h_l_self_front, hw⟩ := h
    refine ⟨_, (pss_cons (ps_expr (vx_callX c__check_context pat__check_context_0 (.head _) hr (by decide) (takes_of rfl rfl rfl rfl) rfl (pa_cons (pv 1) pa_nil) pk_nil))
      (pss_one (ps_ret (pe_ix (ix_listK (K := K)) (fldK (K := K) (pv 0)) (pv 1) (fun _ _ => rfl))))), ?_⟩
    obtain ⟨KK, EE, hK0, hE, hw⟩ := cW_gen hw
    have S0 := Sep.startG sG
    unfold F_Encoder_probability at hw
    refine ⟨_, rfl, rfl, rfl, G, _, rfl, S0.sG, cW_call hw (fun v1012 hw => ?_) (fun e he => hE e he _ S0.b0)⟩
    obtain ⟨g1013, hw⟩ := cW_grd hw
    refine ⟨_, rfl, _, _, _, _, _, rfl, (S0.bM _ _ h_p_self), T.cl_Encoder, T.n_Encoder__probabilities, rfl, _, rfl, _, _, _, _, rfl, rfl, (SqL.of (S0.bM _ _ h_l_self_probs)), (atI_map g1013), ?_⟩
    have hw := cW_ok hw
    exact hK0 _ hw _ S0.b0

abbrev N_Decoder_probability : List Str := ["self", "context"]
theorem sc_Decoder_probability : FnScope N_Decoder_probability ["self", "context"] (defScope s_Decoder_probability) := ⟨rfl, rfl, rfl, by decide +kernel, rfl, by decide +kernel, by decide +kernel⟩
theorem ok_Decoder_probability (D : MethX K AD.c_Decoder "Decoder.probability" "probability" s_Decoder_probability ["self", "context"] pats_Decoder_probability) (T : Txt K mg AD) (c__check_context : CalX P w K mg base 1 "_check_context" (sp__check_context K AD) pats__check_context) : MetX P w K mg base 2 AD.c_Decoder "probability" (sp_Decoder_probability K AD) pats_Decoder_probability := by
  refine D.ok T.cl_Decoder sc_Decoder_probability (fun vs H Q E h => ?_) (fun f cdv A_ outer s H vs Q E hr h => ?_)
  · obtain ⟨G, p_self, l_self_probs, l_self_octs, dx_self, self', context', rfl, _⟩ := h
    rfl
  · obtain ⟨G, p_self, l_self_probs, l_self_octs, dx_self, self', context', rfl, sG, h_p_self, h_l_self_probs, h_l_self_octs, hw⟩ := h
    refine ⟨_, (pss_cons (ps_expr (vx_callX c__check_context pat__check_context_0 (.head _) hr (by decide) (takes_of rfl rfl rfl rfl) rfl (pa_cons (pv 1) pa_nil) pk_nil))
      (pss_one (ps_ret (pe_ix (ix_listK (K := K)) (fldK (K := K) (pv 0)) (pv 1) (fun _ _ => rfl))))), ?_⟩
    obtain ⟨KK, EE, hK0, hE, hw⟩ := cW_gen hw
    have S0 := Sep.startG sG
    unfold F_Decoder_probability at hw
    refine ⟨_, rfl, rfl, rfl, G, _, rfl, S0.sG, cW_call hw (fun v1014 hw => ?_) (fun e he => hE e he _ S0.b0)⟩
    obtain ⟨g1015, hw⟩ := cW_grd hw
    refine ⟨_, rfl, _, _, _, _, _, rfl, (S0.bM _ _ h_p_self), T.cl_Decoder, T.n_Decoder__probabilities, rfl, _, rfl, _, _, _, _, rfl, rfl, (SqL.of (S0.bM _ _ h_l_self_probs)), (atI_map g1015), ?_⟩
    have hw := cW_ok hw
    exact hK0 _ hw _ S0.b0

abbrev N__law_bad_read : List Str := ["decoder", "context", "count", "e"]
theorem sc__law_bad_read : FnScope N__law_bad_read ["decoder", "context"] (defScope s__law_bad_read) := ⟨rfl, rfl, rfl, by decide +kernel, rfl, by decide +kernel, by decide +kernel⟩
theorem ok__law_bad_read (D : DefX K mg "_law_bad_read" s__law_bad_read ["decoder", "context"] pats__law_bad_read) (T : Txt K mg AD) (c_Decoder_read : MetX P w K mg base 3 AD.c_Decoder "read" (sp_Decoder_read K AD) pats_Decoder_read) (c_Decoder_probability : MetX P w K mg base 2 AD.c_Decoder "probability" (sp_Decoder_probability K AD) pats_Decoder_probability) : CalX P w K mg base 4 "_law_bad_read" (sp__law_bad_read K AD) pats__law_bad_read := by
  refine D.ok sc__law_bad_read (fun vs H Q E h => ?_) (fun f cdv A_ outer s H vs Q E hr h => ?_)
  · obtain ⟨G, p_decoder, l_decoder_probs, l_decoder_octs, dx_decoder, decoder', context', rfl, _⟩ := h
    rfl
  · obtain ⟨G, p_decoder, l_decoder_probs, l_decoder_octs, dx_decoder, decoder', context', rfl, sG, gM, h_p_decoder, h_l_decoder_probs, h_l_decoder_octs, ne_decoder_0, hw⟩ := h
    refine ⟨_, (pss_cons (ps_set (i := 2) sc__law_bad_read.nd rfl (Or.inl rfl) pe_int)
      (C8.pss_cut (ps_try_as (i := 3) rfl rfl sc__law_bad_read.nd rfl rfl ⟨rfl, by decide, .inl T.xg_OutOfRange⟩ (takes_of rfl rfl rfl rfl) (fun W pn xe tk pse => (pss_one (ps_expr (vx_methX c_Decoder_read pat_Decoder_read_0 (.head _) hr (by decide) tk (pv 0) (pa_cons (pv 1) pa_nil) pk_nil)))) (fun a oe cls d pn hz hf => (pss_one (ps_set (i := 2) sc__law_bad_read.nd rfl (Or.inl rfl) (pe_op op_add (pv 2) (pe_callTy call_int1 (by rfl) T.b_int (by decide +kernel) (pa_cons (pe_callB (call_isX (K := K) hz hf) (by rfl) T.b_isinstance (by decide +kernel) (pa_cons (pv 3) (pa_cons (C8.pe_gc (v := V.ref AD.x_CodecError) rfl ⟨_, T.xg_CodecError, rfl⟩) pa_nil))) pa_nil)))))))
      (C8.pss_cut (ps_try_as (i := 3) rfl rfl sc__law_bad_read.nd rfl rfl ⟨rfl, by decide, .inl T.xg_OutOfRange⟩ (takes_of rfl rfl rfl rfl) (fun W pn xe tk pse => (pss_one (ps_expr (vx_methX c_Decoder_probability pat_Decoder_probability_0 (.head _) hr (by decide) tk (pv 0) (pa_cons (pv 1) pa_nil) pk_nil)))) (fun a oe cls d pn hz hf => (pss_one (ps_set (i := 2) sc__law_bad_read.nd rfl (Or.inl rfl) (pe_op op_add (pv 2) (pe_callTy call_int1 (by rfl) T.b_int (by decide +kernel) (pa_cons (pe_callB (call_isX (K := K) hz hf) (by rfl) T.b_isinstance (by decide +kernel) (pa_cons (pv 3) (pa_cons (C8.pe_gc (v := V.ref AD.x_CodecError) rfl ⟨_, T.xg_CodecError, rfl⟩) pa_nil))) pa_nil)))))))
      (pss_one (ps_ret (pe_cmp (pc_eqI (pv 2) pe_int))))))), ?_⟩
    obtain ⟨KK, EE, hK0, hE, hw⟩ := cW_gen hw
    have S0 := Sep.startM (M := [p_decoder, l_decoder_probs, l_decoder_octs]) sG (all_cons (some_ne h_p_decoder) (all_cons (some_ne h_l_decoder_probs) (all_cons (some_ne h_l_decoder_octs) all_nil))) gM
    unfold F__law_bad_read at hw
    refine ⟨fun σ H' => ∃ (decoder_1019 : St_Decoder) (count_1020 : Int) (u1021 : Option V) (G' : Hp), σ = [some (V.ref p_decoder), some (V.int (context')), some (V.int count_1020), u1021] ∧ Same G G' ∧ Sep [p_decoder, l_decoder_probs, l_decoder_octs] H G G' H' [p_decoder, l_decoder_probs, l_decoder_octs] ∧ H' p_decoder = some (.ins AD.c_Decoder dx_decoder [("_probabilities", V.ref l_decoder_probs), ("_octets", V.ref l_decoder_octs), ("_place", V.int (decoder_1019.place)), ("_span", V.int (decoder_1019.span)), ("_value", V.int (decoder_1019.value))]) ∧ H' l_decoder_probs = some (.lst ((decoder_1019.probs : (List Int)).map V.int)) ∧ H' l_decoder_octs = some (.lst ((decoder_1019.octs : (List Int)).map V.int)) ∧ cW (F__law_bad_read_k1 (context') decoder_1019 count_1020) KK EE, ?_, ?_⟩
    · obtain ⟨K1022, hK1023, hw⟩ := cW_push hw
      refine ⟨_, rfl, _, _, _, rfl, h_p_decoder, rfl, _, rfl, rfl, rfl, G, _, _, _, _, decoder', _, rfl, S0.sG, (S0.gno (all_cons (.head _) (all_cons (.tail _ (.head _)) (all_cons (.tail _ (.tail _ (.head _))) all_nil)))), h_p_decoder, h_l_decoder_probs, h_l_decoder_octs, ne_decoder_0, cW_try hw (fun v1024 hw H1025 x1026 h1028 h1029 h1030  => ?_) ?_⟩
      · have S1027 := S0.mut x1026 (all_cons (.head _) (all_cons (.tail _ (.head _)) (all_cons (.tail _ (.tail _ (.head _))) all_nil))) (all_cons (some_ne h1028) (all_cons (some_ne h1029) (all_cons (some_ne h1030) all_nil)))
        have hw := cW_ok hw
        have hw := hK1023 _ hw
        exact ⟨(v1024.2), (0), _, _, rfl, (Same.refl _), S1027, h1028, h1029, h1030, hw⟩
      · intro e hm hw H1035 e1036
        have S1037 := S0.same e1036
        obtain rfl := mem_one hm
        refine ⟨true, T.xm_OutOfRange_OutOfRange, fun _ a1038 na1039 => ?_, fun q => nomatch q⟩
        refine ⟨_, rfl, _, rfl, _, _, _, rfl, rfl, T.xc_OutOfRange, rfl, T.xo_OutOfRange_CodecError, .inr ⟨_, rfl, ?_⟩⟩
        refine ⟨_, _, rfl, rfl, ?_⟩
        have hw := cW_bnd hw
        have hw := cW_ok hw
        have hw := hK1023 _ hw
        have h1041 := (e1036 _ _ h_p_decoder)
        have h1042 := (e1036 _ _ h_l_decoder_probs)
        have h1043 := (e1036 _ _ h_l_decoder_octs)
        exact ⟨(decoder'), ((0 + (if true = true then 1 else 0))), _, _, rfl, (Same.refl _), S1037, h1041, h1042, h1043, hw⟩
    · intro σ H1044 hw
      obtain ⟨decoder_1019, count_1020, u1021, G1049, rfl, eG1050, S1045, h1046, h1047, h1048, hw⟩ := hw
      unfold F__law_bad_read_k1 at hw
      refine ⟨fun σ H' => ∃ (count_1053 : Int) (u1054 : Option V) (G' : Hp), σ = [some (V.ref p_decoder), some (V.int (context')), some (V.int count_1053), u1054] ∧ Same G1049 G' ∧ Sep [p_decoder, l_decoder_probs, l_decoder_octs] H G G' H' [p_decoder, l_decoder_probs, l_decoder_octs] ∧ H' p_decoder = some (.ins AD.c_Decoder dx_decoder [("_probabilities", V.ref l_decoder_probs), ("_octets", V.ref l_decoder_octs), ("_place", V.int (decoder_1019.place)), ("_span", V.int (decoder_1019.span)), ("_value", V.int (decoder_1019.value))]) ∧ H' l_decoder_probs = some (.lst ((decoder_1019.probs : (List Int)).map V.int)) ∧ H' l_decoder_octs = some (.lst ((decoder_1019.octs : (List Int)).map V.int)) ∧ cW (F__law_bad_read_k2 (decoder_1019) count_1053) KK EE, ?_, ?_⟩
      · obtain ⟨K1055, hK1056, hw⟩ := cW_push hw
        refine ⟨_, rfl, _, _, _, rfl, h1046, rfl, _, rfl, rfl, rfl, G1049, _, _, _, _, decoder_1019, _, rfl, S1045.sG, (hide_nil h1046), (hide_nil h1047), (hide_nil h1048), cW_try hw (fun v1057 hw H1058 e1059 => ?_) ?_⟩
        · have S1060 := S1045.same e1059
          have hw := cW_ok hw
          have hw := hK1056 _ hw
          have h1061 := (e1059 _ _ h1046)
          have h1062 := (e1059 _ _ h1047)
          have h1063 := (e1059 _ _ h1048)
          exact ⟨(count_1020), _, _, rfl, (Same.refl _), S1060, h1061, h1062, h1063, hw⟩
        · intro e hm hw H1064 e1065
          have S1066 := S1045.same e1065
          obtain rfl := mem_one hm
          refine ⟨true, T.xm_OutOfRange_OutOfRange, fun _ a1067 na1068 => ?_, fun q => nomatch q⟩
          refine ⟨_, rfl, _, rfl, _, _, _, rfl, rfl, T.xc_OutOfRange, rfl, T.xo_OutOfRange_CodecError, .inr ⟨_, rfl, ?_⟩⟩
          refine ⟨_, _, rfl, rfl, ?_⟩
          have hw := cW_bnd hw
          have hw := cW_ok hw
          have hw := hK1056 _ hw
          have h1070 := (e1065 _ _ h1046)
          have h1071 := (e1065 _ _ h1047)
          have h1072 := (e1065 _ _ h1048)
          exact ⟨((count_1020 + (if true = true then 1 else 0))), _, _, rfl, (Same.refl _), S1066, h1070, h1071, h1072, hw⟩
      · intro σ H1073 hw
        obtain ⟨count_1053, u1054, G1078, rfl, eG1079, S1074, h1075, h1076, h1077, hw⟩ := hw
        unfold F__law_bad_read_k2 at hw
        refine ⟨_, rfl, _, _, rfl, rfl, ?_⟩
        have hw := cW_ok hw
        exact hK0 _ hw _ S1074.base h1075 h1076 h1077

abbrev N__law_bad_code : List Str := ["encoder", "context", "decision", "before", "count", "e"]
theorem sc__law_bad_code : FnScope N__law_bad_code ["encoder", "context", "decision"] (defScope s__law_bad_code) := ⟨rfl, rfl, rfl, by decide +kernel, rfl, by decide +kernel, by decide +kernel⟩
theorem ok__law_bad_code (D : DefX K mg "_law_bad_code" s__law_bad_code ["encoder", "context", "decision"] pats__law_bad_code) (T : Txt K mg AD) (c_Encoder_octets : MetX P w K mg base 1 AD.c_Encoder "octets" (sp_Encoder_octets K AD) pats_Encoder_octets) (c_Encoder_code : MetX P w K mg base 3 AD.c_Encoder "code" (sp_Encoder_code K AD) pats_Encoder_code) (c_Encoder_code_even : MetX P w K mg base 3 AD.c_Encoder "code_even" (sp_Encoder_code_even K AD) pats_Encoder_code_even) (c_Encoder_probability : MetX P w K mg base 2 AD.c_Encoder "probability" (sp_Encoder_probability K AD) pats_Encoder_probability) : CalX P w K mg base 4 "_law_bad_code" (sp__law_bad_code K AD) pats__law_bad_code := by
  refine D.ok sc__law_bad_code (fun vs H Q E h => ?_) (fun f cdv A_ outer s H vs Q E hr h => ?_)
  · obtain ⟨G, p_encoder, l_encoder_probs, l_encoder_front, dx_encoder, encoder', context', decision', rfl, _⟩ := h
    rfl
  · obtain ⟨G, p_encoder, l_encoder_probs, l_encoder_front, dx_encoder, encoder', context', decision', rfl, sG, gM, h_p_encoder, h_l_encoder_probs, h_l_encoder_front, ne_encoder_0, hw⟩ := h
    refine ⟨_, (pss_cons (ps_set (i := 3) sc__law_bad_code.nd rfl (Or.inl rfl) (vx_methX0 c_Encoder_octets pat_Encoder_octets_0 (.head _) hr (by decide) (takes_of rfl rfl rfl rfl) (pv 0)))
      (pss_cons (ps_set (i := 4) sc__law_bad_code.nd rfl (Or.inl rfl) pe_int)
      (C8.pss_cut (ps_try_as (i := 5) rfl rfl sc__law_bad_code.nd rfl rfl ⟨rfl, by decide, .inl T.xg_OutOfRange⟩ (takes_of rfl rfl rfl rfl) (fun W pn xe tk pse => (pss_one (ps_expr (vx_methX c_Encoder_code pat_Encoder_code_0 (.head _) hr (by decide) tk (pv 0) (pa_cons (pv 1) (pa_cons (pv 2) pa_nil)) pk_nil)))) (fun a oe cls d pn hz hf => (pss_one (ps_set (i := 4) sc__law_bad_code.nd rfl (Or.inl rfl) (pe_op op_add (pv 4) (pe_callTy call_int1 (by rfl) T.b_int (by decide +kernel) (pa_cons (pe_and (pe_callB (call_isX (K := K) hz hf) (by rfl) T.b_isinstance (by decide +kernel) (pa_cons (pv 5) (pa_cons (C8.pe_gc (v := V.ref AD.x_CodecError) rfl ⟨_, T.xg_CodecError, rfl⟩) pa_nil))) (pe_one (pe_not (pe_callB (call_isX (K := K) hz hf) (by rfl) T.b_isinstance (by decide +kernel) (pa_cons (pv 5) (pa_cons (C8.pe_gc (v := V.ref AD.x_BadOctets) rfl ⟨_, T.xg_BadOctets, rfl⟩) pa_nil)))))) pa_nil)))))))
      (C8.pss_cut (ps_if (pt_not (pt_chain op_le op_le pe_int (pv 2) pe_int)) (pss_one (ps_try_as (i := 5) rfl rfl sc__law_bad_code.nd rfl rfl ⟨rfl, by decide, .inl T.xg_OutOfRange⟩ (takes_of rfl rfl rfl rfl) (fun W pn xe tk pse => (pss_one (ps_expr (vx_methX c_Encoder_code_even pat_Encoder_code_even_0 (.head _) hr (by decide) tk (pv 0) (pa_cons (pv 2) pa_nil) pk_nil)))) (fun a oe cls d pn hz hf => (pss_one (ps_set (i := 4) sc__law_bad_code.nd rfl (Or.inl rfl) (pe_op op_add (pv 4) (pe_callTy call_int1 (by rfl) T.b_int (by decide +kernel) (pa_cons (pe_callB (call_isX (K := K) hz hf) (by rfl) T.b_isinstance (by decide +kernel) (pa_cons (pv 5) (pa_cons (C8.pe_gc (v := V.ref AD.x_CodecError) rfl ⟨_, T.xg_CodecError, rfl⟩) pa_nil))) pa_nil)))))))) (pss_one (ps_try_as (i := 5) rfl rfl sc__law_bad_code.nd rfl rfl ⟨rfl, by decide, .inl T.xg_OutOfRange⟩ (takes_of rfl rfl rfl rfl) (fun W pn xe tk pse => (pss_one (ps_expr (vx_methX c_Encoder_probability pat_Encoder_probability_0 (.head _) hr (by decide) tk (pv 0) (pa_cons (pv 1) pa_nil) pk_nil)))) (fun a oe cls d pn hz hf => (pss_one (ps_set (i := 4) sc__law_bad_code.nd rfl (Or.inl rfl) (pe_op op_add (pv 4) (pe_callTy call_int1 (by rfl) T.b_int (by decide +kernel) (pa_cons (pe_callB (call_isX (K := K) hz hf) (by rfl) T.b_isinstance (by decide +kernel) (pa_cons (pv 5) (pa_cons (C8.pe_gc (v := V.ref AD.x_CodecError) rfl ⟨_, T.xg_CodecError, rfl⟩) pa_nil))) pa_nil)))))))))
      (pss_one (ps_ret (pe_and (pe_cmp (pc_eqI (pv 4) pe_int)) (pe_one (pe_cmpR (op_eqT (encOk_L encOk_int) hr.units) (vx_methX0 c_Encoder_octets pat_Encoder_octets_0 (.head _) hr (by decide) (takes_of rfl rfl rfl rfl) (pv 0)) (pv 3) (nomark _)))))))))), ?_⟩
    obtain ⟨KK, EE, hK0, hE, hw⟩ := cW_gen hw
    have S0 := Sep.startM (M := [p_encoder, l_encoder_probs, l_encoder_front]) sG (all_cons (some_ne h_p_encoder) (all_cons (some_ne h_l_encoder_probs) (all_cons (some_ne h_l_encoder_front) all_nil))) gM
    unfold F__law_bad_code at hw
    refine ⟨_, rfl, _, _, _, rfl, h_p_encoder, rfl, rfl, rfl, G, _, _, _, _, encoder', rfl, S0.sG, (hide_nil h_p_encoder), (hide_nil h_l_encoder_probs), (hide_nil h_l_encoder_front), cW_call hw (fun v1080 hw p1083 H1081 n1084 e1082 h1085 => ?_) (fun e he H2 e2 => hE e he H2 (Same.trans (Same.refl _) e2))⟩
    have h1086 : H1081 p1083 = some (.lst ((v1080 : (List Int)).map V.int)) := h1085
    have fr1087 := S0.free n1084
    have S1088 := S0.new n1084 e1082 h1086 fr1087
    refine ⟨fun σ H' => ∃ (encoder_1094 : St_Encoder) (count_1095 : Int) (u1096 : Option V) (G' : Hp), σ = [some (V.ref p_encoder), some (V.int (context')), some (V.int (decision')), some (V.ref p1083), some (V.int count_1095), u1096] ∧ Same G G' ∧ Sep [p_encoder, l_encoder_probs, l_encoder_front] H G G' H' [p_encoder, l_encoder_probs, l_encoder_front, p1083] ∧ H' p_encoder = some (.ins AD.c_Encoder dx_encoder [("_probabilities", V.ref l_encoder_probs), ("_front", V.ref l_encoder_front), ("_low", V.int (encoder_1094.low)), ("_span", V.int (encoder_1094.span))]) ∧ H' l_encoder_probs = some (.lst ((encoder_1094.probs : (List Int)).map V.int)) ∧ H' l_encoder_front = some (.lst ((encoder_1094.front : (List Int)).map V.int)) ∧ H' p1083 = some (.lst ((v1080 : (List Int)).map V.int)) ∧ cW (F__law_bad_code_k1 (context') (decision') (v1080) encoder_1094 count_1095) KK EE, ?_, ?_⟩
    · obtain ⟨K1097, hK1098, hw⟩ := cW_push hw
      have h1099 := (e1082 _ _ h_p_encoder)
      have h1100 := (e1082 _ _ h_l_encoder_probs)
      have h1101 := (e1082 _ _ h_l_encoder_front)
      refine ⟨_, rfl, _, _, _, rfl, h1099, rfl, _, rfl, _, rfl, rfl, rfl, G, _, _, _, _, encoder', _, _, rfl, S1088.sG, (S1088.gno (all_cons (.tail _ (.head _)) (all_cons (.tail _ (.tail _ (.head _))) (all_cons (.tail _ (.tail _ (.tail _ (.head _)))) all_nil)))), h1099, h1100, h1101, ne_encoder_0, cW_try hw (fun v1102 hw H1103 x1104 h1106 h1107 h1108  => ?_) ?_⟩
      · have S1105 := S1088.mut x1104 (all_cons (.tail _ (.head _)) (all_cons (.tail _ (.tail _ (.head _))) (all_cons (.tail _ (.tail _ (.tail _ (.head _)))) all_nil))) (all_cons (some_ne h1106) (all_cons (some_ne h1107) (all_cons (some_ne h1108) all_nil)))
        have hw := cW_ok hw
        have hw := hK1098 _ hw
        have h1113 := (x1104 _ _ h1086 (ni3 (ne_of_none h_p_encoder n1084).symm (ne_of_none h_l_encoder_probs n1084).symm (ne_of_none h_l_encoder_front n1084).symm))
        exact ⟨(v1102), (0), _, _, rfl, (Same.refl _), (S1105.sub (all_cons (.tail _ (.head _)) (all_cons (.tail _ (.tail _ (.head _))) (all_cons (.tail _ (.tail _ (.tail _ (.head _)))) (all_cons (.head _) all_nil))))), h1106, h1107, h1108, h1113, hw⟩
      · intro e hm hw H1114 e1115
        have S1116 := S1088.same e1115
        obtain rfl := mem_one hm
        refine ⟨true, T.xm_OutOfRange_OutOfRange, fun _ a1117 na1118 => ?_, fun q => nomatch q⟩
        refine ⟨_, rfl, ?_⟩
        refine vv_and  (a := true) (b := (!false)) ?ha1119 ?hb1120 _ ?_
        case ha1119 => exact (vv_call2 (val_var rfl) val_c (fun Q q => ⟨_, _, _, rfl, rfl, T.xc_OutOfRange, rfl, T.xo_OutOfRange_CodecError, q⟩))
        case hb1120 => exact (vv_not (vv_call2 (val_var rfl) val_c (fun Q q => ⟨_, _, _, rfl, rfl, T.xc_OutOfRange, rfl, T.xn_OutOfRange_BadOctets, q⟩)))
        refine .inr ⟨_, rfl, ?_⟩
        refine ⟨_, _, rfl, rfl, ?_⟩
        have hw := cW_bnd hw
        have hw := cW_ok hw
        have hw := hK1098 _ hw
        have h1122 := (e1115 _ _ h1099)
        have h1123 := (e1115 _ _ h1100)
        have h1124 := (e1115 _ _ h1101)
        have h1125 := (e1115 _ _ h1086)
        exact ⟨(encoder'), ((0 + (if (true && (!false)) = true then 1 else 0))), _, _, rfl, (Same.refl _), (S1116.sub (all_cons (.tail _ (.head _)) (all_cons (.tail _ (.tail _ (.head _))) (all_cons (.tail _ (.tail _ (.tail _ (.head _)))) (all_cons (.head _) all_nil))))), h1122, h1123, h1124, h1125, hw⟩
    · intro σ H1126 hw
      obtain ⟨encoder_1094, count_1095, u1096, G1132, rfl, eG1133, S1127, h1128, h1129, h1130, h1131, hw⟩ := hw
      unfold F__law_bad_code_k1 at hw
      refine ⟨fun σ H' => ∃ (encoder_1137 : St_Encoder) (count_1138 : Int) (u1139 : Option V) (G' : Hp), σ = [some (V.ref p_encoder), some (V.int (context')), some (V.int (decision')), some (V.ref p1083), some (V.int count_1138), u1139] ∧ Same G1132 G' ∧ Sep [p_encoder, l_encoder_probs, l_encoder_front] H G G' H' [p_encoder, l_encoder_probs, l_encoder_front, p1083] ∧ H' p_encoder = some (.ins AD.c_Encoder dx_encoder [("_probabilities", V.ref l_encoder_probs), ("_front", V.ref l_encoder_front), ("_low", V.int (encoder_1137.low)), ("_span", V.int (encoder_1137.span))]) ∧ H' l_encoder_probs = some (.lst ((encoder_1137.probs : (List Int)).map V.int)) ∧ H' l_encoder_front = some (.lst ((encoder_1137.front : (List Int)).map V.int)) ∧ H' p1083 = some (.lst ((v1080 : (List Int)).map V.int)) ∧ cW (F__law_bad_code_k2 (v1080) encoder_1137 count_1138) KK EE, ?_, ?_⟩
      · obtain ⟨K1140, hK1141, hw⟩ := cW_push hw
        refine ⟨_, rfl, _, _, rfl, rfl, _, rfl, ?_⟩
        refine iteD (fun c1142 => ?_) (fun c1142 => ?_)
        · have hw := cW_pos c1142 hw
          refine ⟨_, _, rfl, rfl, _, rfl, ?_⟩
          refine iteN (fun c1143 => ?_) (fun c1143 => ?_)
          · have hw := cW_neg c1143 hw
            refine ⟨_, rfl, _, _, _, rfl, h1128, rfl, _, rfl, rfl, rfl, G1132, _, _, _, _, encoder_1094, _, rfl, S1127.sG, (S1127.gno (all_cons (.head _) (all_cons (.tail _ (.head _)) (all_cons (.tail _ (.tail _ (.head _))) all_nil)))), h1128, h1129, h1130, ne_encoder_0, cW_try hw (fun v1144 hw H1145 x1146 h1148 h1149 h1150  => ?_) ?_⟩
            · have S1147 := S1127.mut x1146 (all_cons (.head _) (all_cons (.tail _ (.head _)) (all_cons (.tail _ (.tail _ (.head _))) all_nil))) (all_cons (some_ne h1148) (all_cons (some_ne h1149) (all_cons (some_ne h1150) all_nil)))
              have hw := cW_ok hw
              have hw := hK1141 _ hw
              have h1155 := (x1146 _ _ h1131 (ni3 (ne_of_none h_p_encoder n1084).symm (ne_of_none h_l_encoder_probs n1084).symm (ne_of_none h_l_encoder_front n1084).symm))
              exact ⟨(v1144), (count_1095), _, _, rfl, (Same.refl _), S1147, h1148, h1149, h1150, h1155, hw⟩
            · intro e hm hw H1156 e1157
              have S1158 := S1127.same e1157
              obtain rfl := mem_one hm
              refine ⟨true, T.xm_OutOfRange_OutOfRange, fun _ a1159 na1160 => ?_, fun q => nomatch q⟩
              refine ⟨_, rfl, _, rfl, _, _, _, rfl, rfl, T.xc_OutOfRange, rfl, T.xo_OutOfRange_CodecError, .inr ⟨_, rfl, ?_⟩⟩
              refine ⟨_, _, rfl, rfl, ?_⟩
              have hw := cW_bnd hw
              have hw := cW_ok hw
              have hw := hK1141 _ hw
              have h1162 := (e1157 _ _ h1128)
              have h1163 := (e1157 _ _ h1129)
              have h1164 := (e1157 _ _ h1130)
              have h1165 := (e1157 _ _ h1131)
              exact ⟨(encoder_1094), ((count_1095 + (if true = true then 1 else 0))), _, _, rfl, (Same.refl _), S1158, h1162, h1163, h1164, h1165, hw⟩
          · have hw := cW_pos c1143 hw
            refine ⟨_, rfl, _, _, _, rfl, h1128, rfl, _, rfl, rfl, rfl, G1132, _, _, _, _, encoder_1094, _, rfl, S1127.sG, (hide_nil h1128), (hide_nil h1129), (hide_nil h1130), cW_try hw (fun v1166 hw H1167 e1168 => ?_) ?_⟩
            · have S1169 := S1127.same e1168
              have hw := cW_ok hw
              have hw := hK1141 _ hw
              have h1170 := (e1168 _ _ h1128)
              have h1171 := (e1168 _ _ h1129)
              have h1172 := (e1168 _ _ h1130)
              have h1173 := (e1168 _ _ h1131)
              exact ⟨(encoder_1094), (count_1095), _, _, rfl, (Same.refl _), S1169, h1170, h1171, h1172, h1173, hw⟩
            · intro e hm hw H1174 e1175
              have S1176 := S1127.same e1175
              obtain rfl := mem_one hm
              refine ⟨true, T.xm_OutOfRange_OutOfRange, fun _ a1177 na1178 => ?_, fun q => nomatch q⟩
              refine ⟨_, rfl, _, rfl, _, _, _, rfl, rfl, T.xc_OutOfRange, rfl, T.xo_OutOfRange_CodecError, .inr ⟨_, rfl, ?_⟩⟩
              refine ⟨_, _, rfl, rfl, ?_⟩
              have hw := cW_bnd hw
              have hw := cW_ok hw
              have hw := hK1141 _ hw
              have h1180 := (e1175 _ _ h1128)
              have h1181 := (e1175 _ _ h1129)
              have h1182 := (e1175 _ _ h1130)
              have h1183 := (e1175 _ _ h1131)
              exact ⟨(encoder_1094), ((count_1095 + (if true = true then 1 else 0))), _, _, rfl, (Same.refl _), S1176, h1180, h1181, h1182, h1183, hw⟩
        · have hw := cW_neg c1142 hw
          refine ⟨_, rfl, ?_⟩
          refine iteT ?_
          refine ⟨_, rfl, _, _, _, rfl, h1128, rfl, _, rfl, rfl, rfl, G1132, _, _, _, _, encoder_1094, _, rfl, S1127.sG, (S1127.gno (all_cons (.head _) (all_cons (.tail _ (.head _)) (all_cons (.tail _ (.tail _ (.head _))) all_nil)))), h1128, h1129, h1130, ne_encoder_0, cW_try hw (fun v1184 hw H1185 x1186 h1188 h1189 h1190  => ?_) ?_⟩
          · have S1187 := S1127.mut x1186 (all_cons (.head _) (all_cons (.tail _ (.head _)) (all_cons (.tail _ (.tail _ (.head _))) all_nil))) (all_cons (some_ne h1188) (all_cons (some_ne h1189) (all_cons (some_ne h1190) all_nil)))
            have hw := cW_ok hw
            have hw := hK1141 _ hw
            have h1195 := (x1186 _ _ h1131 (ni3 (ne_of_none h_p_encoder n1084).symm (ne_of_none h_l_encoder_probs n1084).symm (ne_of_none h_l_encoder_front n1084).symm))
            exact ⟨(v1184), (count_1095), _, _, rfl, (Same.refl _), S1187, h1188, h1189, h1190, h1195, hw⟩
          · intro e hm hw H1196 e1197
            have S1198 := S1127.same e1197
            obtain rfl := mem_one hm
            refine ⟨true, T.xm_OutOfRange_OutOfRange, fun _ a1199 na1200 => ?_, fun q => nomatch q⟩
            refine ⟨_, rfl, _, rfl, _, _, _, rfl, rfl, T.xc_OutOfRange, rfl, T.xo_OutOfRange_CodecError, .inr ⟨_, rfl, ?_⟩⟩
            refine ⟨_, _, rfl, rfl, ?_⟩
            have hw := cW_bnd hw
            have hw := cW_ok hw
            have hw := hK1141 _ hw
            have h1202 := (e1197 _ _ h1128)
            have h1203 := (e1197 _ _ h1129)
            have h1204 := (e1197 _ _ h1130)
            have h1205 := (e1197 _ _ h1131)
            exact ⟨(encoder_1094), ((count_1095 + (if true = true then 1 else 0))), _, _, rfl, (Same.refl _), S1198, h1202, h1203, h1204, h1205, hw⟩
      · intro σ H1206 hw
        obtain ⟨encoder_1137, count_1138, u1139, G1212, rfl, eG1213, S1207, h1208, h1209, h1210, h1211, hw⟩ := hw
        unfold F__law_bad_code_k2 at hw
        refine ⟨_, rfl, _, _, rfl, rfl, _, rfl, ?_⟩
        refine iteB (fun c1214 => ?_) (fun c1214 => ?_)
        · have hw := cW_pos c1214 hw
          refine ⟨_, rfl, _, _, _, rfl, h1208, rfl, rfl, rfl, G1212, _, _, _, _, encoder_1137, rfl, S1207.sG, (hide_nil h1208), (hide_nil h1209), (hide_nil h1210), cW_callN hw (fun v1215 hw p1218 H1216 n1219 e1217 h1220 => ?_) trivial⟩
          have h1221 : H1216 p1218 = some (.lst ((v1215 : (List Int)).map V.int)) := h1220
          have fr1222 := S1207.free n1219
          have S1223 := S1207.new n1219 e1217 h1221 fr1222
          have h1224 := (e1217 _ _ h1211)
          refine ⟨_, rfl, _, _, (rp_mk_ints h1221), (rp_mk_ints h1224), ?_⟩
          have h1225 := (e1217 _ _ h1208)
          have h1226 := (e1217 _ _ h1209)
          have h1227 := (e1217 _ _ h1210)
          have hw := cW_ok hw
          exact hK0 _ hw _ S1223.base h1225 h1226 h1227
        · have hw := cW_negB c1214 hw
          have hw := cW_ok hw
          exact hK0 _ hw _ S1207.base h1208 h1209 h1210

abbrev N_Decoder_read_even : List Str := ["self"]
theorem sc_Decoder_read_even : FnScope N_Decoder_read_even ["self"] (defScope s_Decoder_read_even) := ⟨rfl, rfl, rfl, by decide +kernel, rfl, by decide +kernel, by decide +kernel⟩
theorem ok_Decoder_read_even (D : MethX K AD.c_Decoder "Decoder.read_even" "read_even" s_Decoder_read_even ["self"] pats_Decoder_read_even) (T : Txt K mg AD) (c_Decoder__decide : MetX P w K mg base 2 AD.c_Decoder "_decide" (sp_Decoder__decide K AD) pats_Decoder__decide) : MetX P w K mg base 3 AD.c_Decoder "read_even" (sp_Decoder_read_even K AD) pats_Decoder_read_even := by
  refine D.ok T.cl_Decoder sc_Decoder_read_even (fun vs H Q E h => ?_) (fun f cdv A_ outer s H vs Q E hr h => ?_)
  · obtain ⟨G, p_self, l_self_probs, l_self_octs, dx_self, self', rfl, _⟩ := h
    rfl
  · obtain ⟨G, p_self, l_self_probs, l_self_octs, dx_self, self', rfl, sG, gM, h_p_self, h_l_self_probs, h_l_self_octs, ne_self_0, hw⟩ := h
    refine ⟨_, (pss_one (ps_ret (vx_methX c_Decoder__decide pat_Decoder__decide_0 (.head _) hr (by decide) (takes_of rfl rfl rfl rfl) (pv 0) (pa_cons (C8.pe_gc rfl T.g_EVEN) pa_nil) pk_nil))), ?_⟩
    obtain ⟨KK, EE, hK0, hE, hw⟩ := cW_gen hw
    have S0 := Sep.startM (M := [p_self, l_self_probs, l_self_octs]) sG (all_cons (some_ne h_p_self) (all_cons (some_ne h_l_self_probs) (all_cons (some_ne h_l_self_octs) all_nil))) gM
    unfold F_Decoder_read_even at hw
    refine ⟨_, rfl, _, _, _, rfl, h_p_self, rfl, rfl, rfl, G, _, _, _, _, self', _, rfl, S0.sG, (S0.gno (all_cons (.head _) (all_cons (.tail _ (.head _)) (all_cons (.tail _ (.tail _ (.head _))) all_nil)))), h_p_self, h_l_self_probs, h_l_self_octs, ne_self_0, cW_call hw (fun v1228 hw H1229 x1230 h1232 h1233 h1234  => ?_) (fun e he H2 e2 => hE e he H2 (Same.trans (Same.refl _) e2))⟩
    have S1231 := S0.mut x1230 (all_cons (.head _) (all_cons (.tail _ (.head _)) (all_cons (.tail _ (.tail _ (.head _))) all_nil))) (all_cons (some_ne h1232) (all_cons (some_ne h1233) (all_cons (some_ne h1234) all_nil)))
    have hw := cW_ok hw
    exact hK0 _ hw _ S1231.base h1232 h1233 h1234

abbrev N_law : List Str := ["script", "draws", "context", "decision", "items", "encoder", "twin", "item", "octets", "decoder"]
theorem sc_law : FnScope N_law ["script"] (defScope s_law) := ⟨rfl, rfl, rfl, by decide +kernel, rfl, by decide +kernel, by decide +kernel⟩
theorem ok_law {f : Addr} {fd : FuncData} (F : Fun K "law" "law" s_law f fd) (T : Txt K mg AD) (c__law_draws : CalX P w K mg base 1 "_law_draws" (sp__law_draws K AD) pats__law_draws) (c__law_cell : CalX P w K mg base 1 "_law_cell" (sp__law_cell K AD) pats__law_cell) (c__law_items : CalX P w K mg base 2 "_law_items" (sp__law_items K AD) pats__law_items) (c_Encoder___init__ : MakX P w K mg base 1 "Encoder" AD.c_Encoder (sp_Encoder___init__ K AD) pats_Encoder___init__) (c__law_bad_code : CalX P w K mg base 4 "_law_bad_code" (sp__law_bad_code K AD) pats__law_bad_code) (c__law_code_items : CalX P w K mg base 4 "_law_code_items" (sp__law_code_items K AD) pats__law_code_items) (c_Encoder_octets : MetX P w K mg base 1 AD.c_Encoder "octets" (sp_Encoder_octets K AD) pats_Encoder_octets) (c_Encoder_probability : MetX P w K mg base 2 AD.c_Encoder "probability" (sp_Encoder_probability K AD) pats_Encoder_probability) (c_Decoder___init__ : MakX P w K mg base 2 "Decoder" AD.c_Decoder (sp_Decoder___init__ K AD) pats_Decoder___init__) (c__law_bad_read : CalX P w K mg base 4 "_law_bad_read" (sp__law_bad_read K AD) pats__law_bad_read) (c_Decoder_read : MetX P w K mg base 3 AD.c_Decoder "read" (sp_Decoder_read K AD) pats_Decoder_read) (c_Decoder_read_even : MetX P w K mg base 3 AD.c_Decoder "read_even" (sp_Decoder_read_even K AD) pats_Decoder_read_even) (c_Decoder_probability : MetX P w K mg base 2 AD.c_Decoder "probability" (sp_Decoder_probability K AD) pats_Decoder_probability) : FnOk P w K mg base CX0 5 f fd ["script"] (sp_law K AD) := by
  refine F.ok sc_law (fun vs H Q E h => ?_) (fun cdv A_ outer s H vs Q E hr h => ?_)
  · obtain ⟨a_script, script, rfl, _⟩ := h
    rfl
  · obtain ⟨a_script, script', rfl, q_script, hw, k⟩ := h
    refine ⟨_, (pss_cons (ps_set (i := 1) sc_law.nd rfl (Or.inl rfl) (vx_callX c__law_draws pat__law_draws_0 (.head _) hr (by decide) takes0 rfl (pa_cons (vx_callX c__law_cell pat__law_cell_0 (.head _) hr (by decide) takes0 rfl (pa_cons (pv 0) (pa_cons pe_int pa_nil)) pk_nil) (pa_cons (pe_lst (pa_cons pe_int (pa_cons pe_int (pa_cons pe_int (pa_cons pe_int (pa_cons pe_int (pa_cons pe_int pa_nil))))))) pa_nil)) pk_nil))
      (pss_cons (ps_set (i := 2) sc_law.nd rfl (Or.inl rfl) (pe_op op_add pe_int (pe_ix (ix_listK (K := K)) (pv 1) pe_int (fun _ _ => rfl))))
      (C8.pss_cut (ps_if (pt_cmp (pc_eqI (pe_ix (ix_listK (K := K)) (pv 1) pe_int (fun _ _ => rfl)) pe_int)) (pss_one (ps_set (i := 2) sc_law.nd rfl (Or.inl rfl) (pe_op op_sub (pe_un un_neg pe_int) (pe_ix (ix_listK (K := K)) (pv 1) pe_int (fun _ _ => rfl))))) pss_nil)
      (pss_cons (ps_set (i := 3) sc_law.nd rfl (Or.inl rfl) (pe_op op_add pe_int (pe_ix (ix_listK (K := K)) (pv 1) pe_int (fun _ _ => rfl))))
      (C8.pss_cut (ps_if (pt_cmp (pc_eqI (pe_ix (ix_listK (K := K)) (pv 1) pe_int (fun _ _ => rfl)) pe_int)) (pss_one (ps_set (i := 3) sc_law.nd rfl (Or.inl rfl) (pe_op op_sub (pe_un un_neg pe_int) (pe_ix (ix_listK (K := K)) (pv 1) pe_int (fun _ _ => rfl))))) pss_nil)
      (pss_cons (ps_set (i := 4) sc_law.nd rfl (Or.inl rfl) (vx_callX c__law_items pat__law_items_0 (.head _) hr (by decide) takes0 rfl (pa_cons (pe_slice (sl_listK (K := K)) (pv 0) (po_some pe_int) po_none) (pa_cons pe_int pa_nil)) pk_nil))
      (pss_cons (ps_set (i := 5) sc_law.nd rfl (Or.inl rfl) (vx_makeX0 c_Encoder___init__ pat_Encoder___init___0 (.head _) hr (by decide) takes0 rfl))
      (pss_cons (ps_set (i := 6) sc_law.nd rfl (Or.inl rfl) (vx_makeX0 c_Encoder___init__ pat_Encoder___init___0 (.head _) hr (by decide) takes0 rfl))
      (pss_cons (ps_for PassesOwn.never rfl (pi_listK (K := K) (pv 4)) (pg_name (i := 7) sc_law.nd rfl (Or.inl rfl)) (pss_cons (ps_if (PW.pt (pw_or (pt_not (pt_val (vx_callX c__law_bad_code pat__law_bad_code_0 (.head _) hr (by decide) takes0 rfl (pa_cons (pv 5) (pa_cons (pv 2) (pa_cons (pe_ix (ix_listK (K := K)) (pv 1) pe_int (fun _ _ => rfl)) pa_nil))) pk_nil))) (pw_or1 (pt_not (pt_val (vx_callX c__law_bad_code pat__law_bad_code_0 (.head _) hr (by decide) takes0 rfl (pa_cons (pv 5) (pa_cons (pe_ix (ix_listK (K := K)) (pv 1) pe_int (fun _ _ => rfl)) (pa_cons (pv 3) pa_nil))) pk_nil)))))) (pss_one (ps_ret pe_bl)) pss_nil)
      (pss_one (ps_expr (vx_callX c__law_code_items pat__law_code_items_0 (.head _) hr (by decide) takes0 rfl (pa_cons (pv 5) (pa_cons (pe_lst (pa_cons (pv 7) pa_nil)) pa_nil)) pk_nil)))))
      (pss_cons (ps_expr (vx_callX c__law_code_items pat__law_code_items_0 (.head _) hr (by decide) takes0 rfl (pa_cons (pv 6) (pa_cons (pv 4) pa_nil)) pk_nil))
      (pss_cons (ps_set (i := 8) sc_law.nd rfl (Or.inl rfl) (vx_methX0 c_Encoder_octets pat_Encoder_octets_0 (.head _) hr (by decide) takes0 (pv 5)))
      (pss_cons (ps_if (PW.pt (pw_or (pt_cmpR (op_neT (encOk_L encOk_int) hr.units) (pv 8) (vx_methX0 c_Encoder_octets pat_Encoder_octets_0 (.head _) hr (by decide) takes0 (pv 6)) (nomark _)) (pw_or1 (pt_cmp (pc_neI (vx_methX c_Encoder_probability pat_Encoder_probability_0 (.head _) hr (by decide) takes0 (pv 5) (pa_cons (pe_ix (ix_listK (K := K)) (pv 1) pe_int (fun _ _ => rfl)) pa_nil) pk_nil) (vx_methX c_Encoder_probability pat_Encoder_probability_0 (.head _) hr (by decide) takes0 (pv 6) (pa_cons (pe_ix (ix_listK (K := K)) (pv 1) pe_int (fun _ _ => rfl)) pa_nil) pk_nil)))))) (pss_one (ps_ret pe_bl)) pss_nil)
      (pss_cons (ps_set (i := 9) sc_law.nd rfl (Or.inl rfl) (vx_makeX c_Decoder___init__ pat_Decoder___init___0 (.head _) hr (by decide) takes0 rfl (pa_cons (pv 8) pa_nil) pk_nil))
      (pss_cons (ps_for PassesOwn.never rfl (pi_listK (K := K) (pv 4)) (pg_name (i := 7) sc_law.nd rfl (Or.inl rfl)) (pss_cons (ps_if (pt_not (pt_val (vx_callX c__law_bad_read pat__law_bad_read_0 (.head _) hr (by decide) takes0 rfl (pa_cons (pv 9) (pa_cons (pv 2) pa_nil)) pk_nil))) (pss_one (ps_ret pe_bl)) pss_nil)
      (pss_cons (ps_if (PW.pt (pw_and (pt_cmp (pc_ge (pe_ix (ix_tupK (K := K)) (pv 7) pe_int (fun _ _ => rfl)) pe_int)) (pw_and1 (pt_cmp (pc_neI (vx_methX c_Decoder_read pat_Decoder_read_0 (.head _) hr (by decide) takes0 (pv 9) (pa_cons (pe_ix (ix_tupK (K := K)) (pv 7) pe_int (fun _ _ => rfl)) pa_nil) pk_nil) (pe_ix (ix_tupK (K := K)) (pv 7) pe_int (fun _ _ => rfl))))))) (pss_one (ps_ret pe_bl)) pss_nil)
      (pss_one (ps_if (PW.pt (pw_and (pt_cmp (pc_lt (pe_ix (ix_tupK (K := K)) (pv 7) pe_int (fun _ _ => rfl)) pe_int)) (pw_and1 (pt_cmp (pc_neI (vx_methX0 c_Decoder_read_even pat_Decoder_read_even_0 (.head _) hr (by decide) takes0 (pv 9)) (pe_ix (ix_tupK (K := K)) (pv 7) pe_int (fun _ _ => rfl))))))) (pss_one (ps_ret pe_bl)) pss_nil)))))
      (pss_one (ps_ret (pe_cmp (pc_eqI (vx_methX c_Decoder_probability pat_Decoder_probability_0 (.head _) hr (by decide) takes0 (pv 9) (pa_cons (pe_ix (ix_listK (K := K)) (pv 1) pe_int (fun _ _ => rfl)) pa_nil) pk_nil) (vx_methX c_Encoder_probability pat_Encoder_probability_0 (.head _) hr (by decide) takes0 (pv 5) (pa_cons (pe_ix (ix_listK (K := K)) (pv 1) pe_int (fun _ _ => rfl)) pa_nil) pk_nil))))))))))))))))))), ?_⟩
    obtain ⟨KK, EE, hK0, hE, hw⟩ := cW_gen hw
    have S0 := Sep.start0 H
    unfold F_law at hw
    refine ⟨_, rfl, rfl, rfl, H, _, _, _, rfl, S0.sG, (S0.b0.seq q_script), cW_call hw (fun v1239 hw => ?_) (fun e he => (hE e he).elim)⟩
    refine ⟨(by show 6 ≤ sizeLine; decide), fun p1240 n1241 => ?_⟩
    generalize g1242 : upd H p1240 _ = H1243
    obtain ⟨e1244, h1245⟩ := gen_new n1241 g1242
    have h1246 : H1243 p1240 = some (.lst (([2, 1000, 256, 2, 1000, 2] : (List Int)).map V.int)) := h1245
    have fr1247 := S0.free n1241
    have S1248 := S0.new n1241 e1244 h1246 fr1247
    refine ⟨rfl, rfl, H, _, _, _, rfl, S1248.sG, (hide_nil h1246), cW_call hw (fun v1249 hw p1252 H1250 n1253 e1251 h1254 => ?_) (fun e he => (hE e he).elim)⟩
    have h1255 : H1250 p1252 = some (.lst ((v1249 : (List Int)).map V.int)) := h1254
    have fr1256 := S1248.free n1253
    have S1257 := S1248.new n1253 e1251 h1255 fr1256
    obtain ⟨g1258, hw⟩ := cW_grd hw
    refine ⟨_, rfl, _, _, _, _, rfl, rfl, (SqL.of h1255), (atI_map g1258), _, _, rfl, rfl, ?_⟩
    have hw := cW_bnd hw
    refine ⟨fun σ H' => ∃ (context_1263 : Int) (G' : Hp), σ = [some (V.ref a_script), some (V.ref p1252), some (V.int context_1263), none, none, none, none, none, none, none] ∧ Same H G' ∧ Sep [] H H G' H' [p1252] ∧ H' p1252 = some (.lst ((v1249 : (List Int)).map V.int)) ∧ cW (F_law_k1 (script') (v1249) context_1263) KK EE, ?_, ?_⟩
    · obtain ⟨K1264, hK1265, hw⟩ := cW_push hw
      obtain ⟨g1266, hw⟩ := cW_grd hw
      refine ⟨_, rfl, _, _, _, _, rfl, rfl, (SqL.of h1255), (atI_map g1266), _, _, rfl, rfl, _, rfl, ?_⟩
      refine iteD (fun c1267 => ?_) (fun c1267 => ?_)
      · have hw := cW_pos c1267 hw
        obtain ⟨g1268, hw⟩ := cW_grd hw
        refine ⟨_, rfl, _, rfl, _, _, _, _, rfl, rfl, (SqL.of h1255), (atI_map g1268), _, _, rfl, rfl, ?_⟩
        have hw := cW_bnd hw
        have hw := cW_ok hw
        have hw := hK1265 _ hw
        exact ⟨(((-1) - (itD (v1249) (1)))), _, rfl, (Same.refl _), (S1257.sub (all_cons (.head _) all_nil)), h1255, hw⟩
      · have hw := cW_neg c1267 hw
        have hw := cW_ok hw
        have hw := hK1265 _ hw
        exact ⟨((256 + (itD (v1249) (1)))), _, rfl, (Same.refl _), (S1257.sub (all_cons (.head _) all_nil)), h1255, hw⟩
    · intro σ H1270 hw
      obtain ⟨context_1263, G1273, rfl, eG1274, S1271, h1272, hw⟩ := hw
      unfold F_law_k1 at hw
      obtain ⟨g1275, hw⟩ := cW_grd hw
      refine ⟨_, rfl, _, _, _, _, rfl, rfl, (SqL.of h1272), (atI_map g1275), _, _, rfl, rfl, ?_⟩
      have hw := cW_bnd hw
      refine ⟨fun σ H' => ∃ (decision_1281 : Int) (G' : Hp), σ = [some (V.ref a_script), some (V.ref p1252), some (V.int (context_1263)), some (V.int decision_1281), none, none, none, none, none, none] ∧ Same G1273 G' ∧ Sep [] H H G' H' [p1252] ∧ H' p1252 = some (.lst ((v1249 : (List Int)).map V.int)) ∧ cW (F_law_k2 (script') (v1249) (context_1263) decision_1281) KK EE, ?_, ?_⟩
      · obtain ⟨K1282, hK1283, hw⟩ := cW_push hw
        obtain ⟨g1284, hw⟩ := cW_grd hw
        refine ⟨_, rfl, _, _, _, _, rfl, rfl, (SqL.of h1272), (atI_map g1284), _, _, rfl, rfl, _, rfl, ?_⟩
        refine iteD (fun c1285 => ?_) (fun c1285 => ?_)
        · have hw := cW_pos c1285 hw
          obtain ⟨g1286, hw⟩ := cW_grd hw
          refine ⟨_, rfl, _, rfl, _, _, _, _, rfl, rfl, (SqL.of h1272), (atI_map g1286), _, _, rfl, rfl, ?_⟩
          have hw := cW_bnd hw
          have hw := cW_ok hw
          have hw := hK1283 _ hw
          exact ⟨(((-1) - (itD (v1249) (4)))), _, rfl, (Same.refl _), S1271, h1272, hw⟩
        · have hw := cW_neg c1285 hw
          have hw := cW_ok hw
          have hw := hK1283 _ hw
          exact ⟨((2 + (itD (v1249) (4)))), _, rfl, (Same.refl _), S1271, h1272, hw⟩
      · intro σ H1288 hw
        obtain ⟨decision_1281, G1291, rfl, eG1292, S1289, h1290, hw⟩ := hw
        unfold F_law_k2 at hw
        refine ⟨_, rfl, _, rfl, _, _, rfl, (S1289.b0.seq q_script), fun p1293 n1294 => ?_⟩
        generalize g1295 : upd H1288 p1293 _ = H1296
        obtain ⟨e1297, h1298⟩ := gen_new n1294 g1295
        have h1299 : H1296 p1293 = some (.lst ((cutL (script') (some (1)) none : (List Int)).map V.int)) := cut_map h1298
        have fr1300 := S1289.free n1294
        have S1301 := S1289.new n1294 e1297 h1299 fr1300
        refine ⟨rfl, rfl, G1291, _, _, _, rfl, S1301.sG, (SqL.of h1299), cW_call hw (fun v1302 hw v1305 H1303 G1306 e1304 eG1307 sG1308 hn1309 r1310 => ?_) (fun e he => (hE e he).elim)⟩
        have S1311 := S1301.step e1304 eG1307 sG1308 hn1309
        obtain ⟨a1312, vs1313, rfl, h1314, d1315⟩ := rp_list r1310
        refine ⟨rfl, rfl, fun x1316 dx1317 n1318 n1319 n1320 => ?_⟩
        generalize g1321 : upd (upd H1303 dx1317 _) x1316 _ = H1322
        obtain ⟨e1323, h1324⟩ := gen_obj n1318 n1319 n1320 g1321
        have fr1325 := S1311.free n1318
        have S1326 := S1311.new n1318 e1323 h1324 fr1325
        refine ⟨G1306, _, _, rfl, S1326.sG, (S1326.gno (all_cons (.head _) all_nil)), h1324, cW_call hw (fun v1327 hw H1330 l1328 l1329 x1331 n1336 n1337 ne1338 h1332 h1334 h1335 => ⟨rfl, ?_⟩) (fun e he => (hE e he).elim)⟩
        have fr1339 := S1326.free n1336
        have fr1340 := S1326.free n1337
        have S1333 : Sep _ _ _ _ H1330 [l1328, l1329, x1316, p1293, p1252] := Sep.init S1326 x1331 (.head _) h1332 [l1328, l1329] (all_cons ⟨n1336, some_ne h1334, fr1339⟩ (all_cons ⟨n1337, some_ne h1335, fr1340⟩ all_nil))
        refine ⟨rfl, rfl, fun x1341 dx1342 n1343 n1344 n1345 => ?_⟩
        generalize g1346 : upd (upd H1330 dx1342 _) x1341 _ = H1347
        obtain ⟨e1348, h1349⟩ := gen_obj n1343 n1344 n1345 g1346
        have fr1350 := S1333.free n1343
        have S1351 := S1333.new n1343 e1348 h1349 fr1350
        refine ⟨G1306, _, _, rfl, S1351.sG, (S1351.gno (all_cons (.head _) all_nil)), h1349, cW_call hw (fun v1352 hw H1355 l1353 l1354 x1356 n1361 n1362 ne1363 h1357 h1359 h1360 => ⟨rfl, ?_⟩) (fun e he => (hE e he).elim)⟩
        have fr1364 := S1351.free n1361
        have fr1365 := S1351.free n1362
        have S1358 : Sep _ _ _ _ H1355 [l1353, l1354, x1341, l1328, l1329, x1316, p1293, p1252] := Sep.init S1351 x1356 (.head _) h1357 [l1353, l1354] (all_cons ⟨n1361, some_ne h1359, fr1364⟩ (all_cons ⟨n1362, some_ne h1360, fr1365⟩ all_nil))
        obtain ⟨K1373, hK1374, hw⟩ := cW_push hw
        refine ⟨_, rfl, _, rfl, ⟨_, (SqL.of (S1358.sG _ _ h1314))⟩, for_list (K := K) (a := a1312) (xs := vs1313) (fun i σ H' => ∃ (encoder_1375 : St_Encoder) (u1376 : Option V) (G' : Hp), σ = [some (V.ref a_script), some (V.ref p1252), some (V.int (context_1263)), some (V.int (decision_1281)), some (V.ref a1312), some (V.ref x1316), some (V.ref x1341), u1376, none, none] ∧ Same G1306 G' ∧ Sep [] H H G' H' [p1252, x1316, l1328, l1329, x1341, l1353, l1354] ∧ H' p1252 = some (.lst ((v1249 : (List Int)).map V.int)) ∧ H' x1316 = some (.ins AD.c_Encoder dx1317 [("_probabilities", V.ref l1328), ("_front", V.ref l1329), ("_low", V.int (encoder_1375.low)), ("_span", V.int (encoder_1375.span))]) ∧ H' l1328 = some (.lst ((encoder_1375.probs : (List Int)).map V.int)) ∧ H' l1329 = some (.lst ((encoder_1375.front : (List Int)).map V.int)) ∧ H' x1341 = some (.ins AD.c_Encoder dx1342 [("_probabilities", V.ref l1353), ("_front", V.ref l1354), ("_low", V.int (v1352.low)), ("_span", V.int (v1352.span))]) ∧ H' l1353 = some (.lst ((v1352.probs : (List Int)).map V.int)) ∧ H' l1354 = some (.lst ((v1352.front : (List Int)).map V.int)) ∧ cW (forR (List.drop i (v1302)) encoder_1375 (fun s x => F_law_b3 (v1249) (context_1263) (decision_1281) s x)) K1373 EE) ?_ ?_ ?_ ?_⟩
        · have h1377 := ((SameXs.of x1356) _ _ (e1348 _ _ ((SameXs.of x1331) _ _ (e1323 _ _ (e1304 _ _ (e1297 _ _ h1290))) (ni1 (ne_of_none (e1304 _ _ (e1297 _ _ h1290)) n1318)))) (ni1 (ne_of_none ((SameXs.of x1331) _ _ (e1323 _ _ (e1304 _ _ (e1297 _ _ h1290))) (ni1 (ne_of_none (e1304 _ _ (e1297 _ _ h1290)) n1318))) n1343)))
          have h1378 := ((SameXs.of x1356) _ _ (e1348 _ _ h1332) (ni1 (ne_of_none h1332 n1343)))
          have h1379 := ((SameXs.of x1356) _ _ (e1348 _ _ h1334) (ni1 (ne_of_none h1334 n1343)))
          have h1380 := ((SameXs.of x1356) _ _ (e1348 _ _ h1335) (ni1 (ne_of_none h1335 n1343)))
          exact ⟨(v1327), _, _, rfl, (Same.refl _), (S1358.sub (all_cons (.tail _ (.tail _ (.tail _ (.tail _ (.tail _ (.tail _ (.tail _ (.head _)))))))) (all_cons (.tail _ (.tail _ (.tail _ (.tail _ (.tail _ (.head _)))))) (all_cons (.tail _ (.tail _ (.tail _ (.head _)))) (all_cons (.tail _ (.tail _ (.tail _ (.tail _ (.head _))))) (all_cons (.tail _ (.tail _ (.head _))) (all_cons (.head _) (all_cons (.tail _ (.head _)) all_nil)))))))), h1377, h1378, h1379, h1380, h1357, h1359, h1360, hw⟩
        · intro i σ H1381 _ hw
          obtain ⟨encoder_1375, u1376, G1390, rfl, eG1391, S1382, h1383, h1384, h1385, h1386, h1387, h1388, h1389, hw⟩ := hw
          exact (SqL.of (S1382.sG _ _ (eG1391 _ _ h1314)))
        · intro i x σ H1392 hj hw
          obtain ⟨encoder_1375, u1376, G1401, rfl, eG1402, S1393, h1394, h1395, h1396, h1397, h1398, h1399, h1400, hw⟩ := hw
          obtain ⟨x1403, hx, r1404⟩ := RpAll.get (RpAll.mono eG1402 d1315) hj
          obtain ⟨a1405, v1407, v1408, rfl, h1406, r1409, r1410⟩ := rp_tup2 r1404
          obtain rfl := rp_int r1409
          obtain rfl := rp_int r1410
          have hw := cW_forR hx hw
          have hw : cW (F_law_b3 (v1249) (context_1263) (decision_1281) (encoder_1375) (x1403)) _ EE := hw
          unfold F_law_b3 at hw
          obtain ⟨K1412, hK1413, hw⟩ := cW_name hw
          obtain ⟨g1415, hw⟩ := cW_grd hw
          refine ⟨_, rfl, _, rfl, _, rfl, _, _, _, _, rfl, rfl, (SqL.of h1394), (atI_map g1415), rfl, rfl, G1401, _, _, _, _, encoder_1375, _, _, rfl, S1393.sG, (S1393.gno (all_cons (.tail _ (.head _)) (all_cons (.tail _ (.tail _ (.head _))) (all_cons (.tail _ (.tail _ (.tail _ (.head _)))) all_nil)))), h1395, h1396, h1397, ne1338, cW_call hw (fun v1416 hw H1417 x1418 h1420 h1421 h1422  => ?_) (fun e he => (hE e he).elim)⟩
          have S1419 := S1393.mut x1418 (all_cons (.tail _ (.head _)) (all_cons (.tail _ (.tail _ (.head _))) (all_cons (.tail _ (.tail _ (.tail _ (.head _)))) all_nil))) (all_cons (some_ne h1420) (all_cons (some_ne h1421) (all_cons (some_ne h1422) all_nil)))
          refine ⟨_, rfl, ?_⟩
          refine iteBN (fun c1427 => ?_) (fun c1427 => ?_)
          · have hw := cW_negB c1427 hw
            refine iteT ?_
            have hw := cW_ok hw
            have hw := hK1413 (.rt _) hw
            have hw := hK1374 (.rt _) hw
            have hw := cW_ok hw
            exact eq_bl (k _) (hK0 _ hw).symm
          · have hw := cW_pos c1427 hw
            obtain ⟨g1428, hw⟩ := cW_grd hw
            have h1429 := (x1418 _ _ h1394 (ni3 (ne_of_none (e1304 _ _ (e1297 _ _ h1290)) n1318) (ne_of_none (e1323 _ _ (e1304 _ _ (e1297 _ _ h1290))) n1336) (ne_of_none (e1323 _ _ (e1304 _ _ (e1297 _ _ h1290))) n1337)))
            refine ⟨_, rfl, _, rfl, _, _, _, _, rfl, rfl, (SqL.of h1429), (atI_map g1428), _, rfl, rfl, rfl, G1401, _, _, _, _, v1416.2, _, _, rfl, S1419.sG, (S1419.gno (all_cons (.tail _ (.head _)) (all_cons (.tail _ (.tail _ (.head _))) (all_cons (.tail _ (.tail _ (.tail _ (.head _)))) all_nil)))), h1420, h1421, h1422, ne1338, cW_call hw (fun v1430 hw H1431 x1432 h1434 h1435 h1436  => ?_) (fun e he => (hE e he).elim)⟩
            have S1433 := S1419.mut x1432 (all_cons (.tail _ (.head _)) (all_cons (.tail _ (.tail _ (.head _))) (all_cons (.tail _ (.tail _ (.tail _ (.head _)))) all_nil))) (all_cons (some_ne h1434) (all_cons (some_ne h1435) (all_cons (some_ne h1436) all_nil)))
            refine ⟨_, rfl, ?_⟩
            refine iteBN (fun c1441 => ?_) (fun c1441 => ?_)
            · have hw := cW_negB c1441 hw
              have hw := cW_ok hw
              have hw := hK1413 (.rt _) hw
              have hw := hK1374 (.rt _) hw
              have hw := cW_ok hw
              exact eq_bl (k _) (hK0 _ hw).symm
            · have hw := cW_pos c1441 hw
              refine ⟨_, rfl, _, rfl, (by show 1 ≤ sizeLine; decide), fun p1442 n1443 => ?_⟩
              generalize g1444 : upd H1431 p1442 _ = H1445
              obtain ⟨e1446, h1447⟩ := gen_new n1443 g1444
              have h1448 : H1445 p1442 = some (.lst ([V.ref a1405])) := h1447
              have fr1449 := S1433.free n1443
              have S1450 := S1433.new n1443 e1446 h1448 fr1449
              have d1451 : RpAll G1401 ([V.ref a1405]) (([x1403] : (List (Int × Int))).map (encT2 PyData.int PyData.int)) := (RpAll.cons (rp_mk2 h1406 (.int _) (.int _)) RpAll.nil)
              obtain ⟨G1452, eG1453, hg1454, S1455⟩ := Sep.freeze (O' := [p1252, x1316, l1328, l1329, x1341, l1353, l1354]) S1450 (.head _) h1448 fr1449 ((all_cons ⟨(.tail _ (.head _)), (ne_of_none (x1432 _ _ h1429 (ni3 (ne_of_none (e1304 _ _ (e1297 _ _ h1290)) n1318) (ne_of_none (e1323 _ _ (e1304 _ _ (e1297 _ _ h1290))) n1336) (ne_of_none (e1323 _ _ (e1304 _ _ (e1297 _ _ h1290))) n1337))) n1443)⟩ (all_cons ⟨(.tail _ (.tail _ (.head _))), (ne_of_none h1434 n1443)⟩ (all_cons ⟨(.tail _ (.tail _ (.tail _ (.head _)))), (ne_of_none h1435 n1443)⟩ (all_cons ⟨(.tail _ (.tail _ (.tail _ (.tail _ (.head _))))), (ne_of_none h1436 n1443)⟩ (all_cons ⟨(.tail _ (.tail _ (.tail _ (.tail _ (.tail _ (.head _)))))), (ne_of_none (x1432 _ _ (x1418 _ _ h1398 (ni3 (ne_of_none h1332 n1343).symm (ne_of_none h1334 n1343).symm (ne_of_none h1335 n1343).symm)) (ni3 (ne_of_none h1332 n1343).symm (ne_of_none h1334 n1343).symm (ne_of_none h1335 n1343).symm)) n1443)⟩ (all_cons ⟨(.tail _ (.tail _ (.tail _ (.tail _ (.tail _ (.tail _ (.head _))))))), (ne_of_none (x1432 _ _ (x1418 _ _ h1399 (ni3 (ne_of_none (e1348 _ _ h1332) n1361).symm (ne_of_none (e1348 _ _ h1334) n1361).symm (ne_of_none (e1348 _ _ h1335) n1361).symm)) (ni3 (ne_of_none (e1348 _ _ h1332) n1361).symm (ne_of_none (e1348 _ _ h1334) n1361).symm (ne_of_none (e1348 _ _ h1335) n1361).symm)) n1443)⟩ (all_cons ⟨(.tail _ (.tail _ (.tail _ (.tail _ (.tail _ (.tail _ (.tail _ (.head _)))))))), (ne_of_none (x1432 _ _ (x1418 _ _ h1400 (ni3 (ne_of_none (e1348 _ _ h1332) n1362).symm (ne_of_none (e1348 _ _ h1334) n1362).symm (ne_of_none (e1348 _ _ h1335) n1362).symm)) (ni3 (ne_of_none (e1348 _ _ h1332) n1362).symm (ne_of_none (e1348 _ _ h1334) n1362).symm (ne_of_none (e1348 _ _ h1335) n1362).symm)) n1443)⟩ all_nil))))))))
              have h1456 := (e1446 _ _ h1434)
              have h1457 := (e1446 _ _ h1435)
              have h1458 := (e1446 _ _ h1436)
              refine ⟨rfl, rfl, G1452, _, _, _, _, v1430.2, _, _, rfl, S1455.sG, (S1455.gno (all_cons (.tail _ (.head _)) (all_cons (.tail _ (.tail _ (.head _))) (all_cons (.tail _ (.tail _ (.tail _ (.head _)))) all_nil)))), h1456, h1457, h1458, ne1338, (Rp.mono (S1455.hid (all_cons (.tail _ (.head _)) (all_cons (.tail _ (.tail _ (.head _))) (all_cons (.tail _ (.tail _ (.tail _ (.head _)))) all_nil)))) (rp_mk_list hg1454 (RpAll.mono eG1453 d1451))), cW_call hw (fun v1459 hw H1460 x1461 h1463 h1464 h1465  => ?_) (fun e he => (hE e he).elim)⟩
              have S1462 := S1455.mut x1461 (all_cons (.tail _ (.head _)) (all_cons (.tail _ (.tail _ (.head _))) (all_cons (.tail _ (.tail _ (.tail _ (.head _)))) all_nil))) (all_cons (some_ne h1463) (all_cons (some_ne h1464) (all_cons (some_ne h1465) all_nil)))
              have hw := cW_ok hw
              have hw := hK1413 _ hw
              have h1470 := (x1461 _ _ (e1446 _ _ (x1432 _ _ h1429 (ni3 (ne_of_none (e1304 _ _ (e1297 _ _ h1290)) n1318) (ne_of_none (e1323 _ _ (e1304 _ _ (e1297 _ _ h1290))) n1336) (ne_of_none (e1323 _ _ (e1304 _ _ (e1297 _ _ h1290))) n1337)))) (ni3 (ne_of_none (e1304 _ _ (e1297 _ _ h1290)) n1318) (ne_of_none (e1323 _ _ (e1304 _ _ (e1297 _ _ h1290))) n1336) (ne_of_none (e1323 _ _ (e1304 _ _ (e1297 _ _ h1290))) n1337)))
              have h1471 := (x1461 _ _ (e1446 _ _ (x1432 _ _ (x1418 _ _ h1398 (ni3 (ne_of_none h1332 n1343).symm (ne_of_none h1334 n1343).symm (ne_of_none h1335 n1343).symm)) (ni3 (ne_of_none h1332 n1343).symm (ne_of_none h1334 n1343).symm (ne_of_none h1335 n1343).symm))) (ni3 (ne_of_none h1332 n1343).symm (ne_of_none h1334 n1343).symm (ne_of_none h1335 n1343).symm))
              have h1472 := (x1461 _ _ (e1446 _ _ (x1432 _ _ (x1418 _ _ h1399 (ni3 (ne_of_none (e1348 _ _ h1332) n1361).symm (ne_of_none (e1348 _ _ h1334) n1361).symm (ne_of_none (e1348 _ _ h1335) n1361).symm)) (ni3 (ne_of_none (e1348 _ _ h1332) n1361).symm (ne_of_none (e1348 _ _ h1334) n1361).symm (ne_of_none (e1348 _ _ h1335) n1361).symm))) (ni3 (ne_of_none (e1348 _ _ h1332) n1361).symm (ne_of_none (e1348 _ _ h1334) n1361).symm (ne_of_none (e1348 _ _ h1335) n1361).symm))
              have h1473 := (x1461 _ _ (e1446 _ _ (x1432 _ _ (x1418 _ _ h1400 (ni3 (ne_of_none (e1348 _ _ h1332) n1362).symm (ne_of_none (e1348 _ _ h1334) n1362).symm (ne_of_none (e1348 _ _ h1335) n1362).symm)) (ni3 (ne_of_none (e1348 _ _ h1332) n1362).symm (ne_of_none (e1348 _ _ h1334) n1362).symm (ne_of_none (e1348 _ _ h1335) n1362).symm))) (ni3 (ne_of_none (e1348 _ _ h1332) n1362).symm (ne_of_none (e1348 _ _ h1334) n1362).symm (ne_of_none (e1348 _ _ h1335) n1362).symm))
              exact ⟨(v1459), _, _, rfl, (Same.trans eG1402 eG1453), S1462, h1470, h1463, h1464, h1465, h1471, h1472, h1473, hw⟩
        · intro σ H1474 hw
          obtain ⟨encoder_1375, u1376, G1483, rfl, eG1484, S1475, h1476, h1477, h1478, h1479, h1480, h1481, h1482, hw⟩ := hw
          have hw := hK1374 _ (cW_forR0 (by rw [(RpAll.mono eG1484 d1315).len, List.length_map]) hw)
          have hw : cW (F_law_r3 (v1249) (context_1263) (v1302) (v1352) (encoder_1375)) _ EE := hw
          unfold F_law_r3 at hw
          refine ⟨_, rfl, _, rfl, rfl, rfl, G1483, _, _, _, _, v1352, _, _, rfl, S1475.sG, (S1475.gno (all_cons (.tail _ (.tail _ (.tail _ (.tail _ (.head _))))) (all_cons (.tail _ (.tail _ (.tail _ (.tail _ (.tail _ (.head _)))))) (all_cons (.tail _ (.tail _ (.tail _ (.tail _ (.tail _ (.tail _ (.head _))))))) all_nil)))), h1480, h1481, h1482, ne1363, (Rp.mono (S1475.hid (all_cons (.tail _ (.tail _ (.tail _ (.tail _ (.head _))))) (all_cons (.tail _ (.tail _ (.tail _ (.tail _ (.tail _ (.head _)))))) (all_cons (.tail _ (.tail _ (.tail _ (.tail _ (.tail _ (.tail _ (.head _))))))) all_nil)))) (rp_mk_list (eG1484 _ _ h1314) (RpAll.mono eG1484 d1315))), cW_call hw (fun v1486 hw H1487 x1488 h1490 h1491 h1492  => ?_) (fun e he => (hE e he).elim)⟩
          have S1489 := S1475.mut x1488 (all_cons (.tail _ (.tail _ (.tail _ (.tail _ (.head _))))) (all_cons (.tail _ (.tail _ (.tail _ (.tail _ (.tail _ (.head _)))))) (all_cons (.tail _ (.tail _ (.tail _ (.tail _ (.tail _ (.tail _ (.head _))))))) all_nil))) (all_cons (some_ne h1490) (all_cons (some_ne h1491) (all_cons (some_ne h1492) all_nil)))
          have h1497 := (x1488 _ _ h1477 (ni3 (ne_of_none h1332 n1343) (ne_of_none (e1348 _ _ h1332) n1361) (ne_of_none (e1348 _ _ h1332) n1362)))
          have h1498 := (x1488 _ _ h1478 (ni3 (ne_of_none h1334 n1343) (ne_of_none (e1348 _ _ h1334) n1361) (ne_of_none (e1348 _ _ h1334) n1362)))
          have h1499 := (x1488 _ _ h1479 (ni3 (ne_of_none h1335 n1343) (ne_of_none (e1348 _ _ h1335) n1361) (ne_of_none (e1348 _ _ h1335) n1362)))
          refine ⟨_, rfl, _, _, _, rfl, h1497, rfl, rfl, rfl, G1483, _, _, _, _, encoder_1375, rfl, S1489.sG, (hide_nil h1497), (hide_nil h1498), (hide_nil h1499), cW_call hw (fun v1500 hw p1503 H1501 n1504 e1502 h1505 => ?_) (fun e he => (hE e he).elim)⟩
          have h1506 : H1501 p1503 = some (.lst ((v1500 : (List Int)).map V.int)) := h1505
          have fr1507 := S1489.free n1504
          have S1508 := S1489.new n1504 e1502 h1506 fr1507
          have h1509 := (e1502 _ _ h1490)
          have h1510 := (e1502 _ _ h1491)
          have h1511 := (e1502 _ _ h1492)
          refine ⟨_, rfl, _, rfl, _, _, _, rfl, h1509, rfl, rfl, rfl, G1483, _, _, _, _, v1486, rfl, S1508.sG, (hide_nil h1509), (hide_nil h1510), (hide_nil h1511), cW_call hw (fun v1512 hw p1515 H1513 n1516 e1514 h1517 => ?_) (fun e he => (hE e he).elim)⟩
          have h1518 : H1513 p1515 = some (.lst ((v1512 : (List Int)).map V.int)) := h1517
          have fr1519 := S1508.free n1516
          have S1520 := S1508.new n1516 e1514 h1518 fr1519
          have h1521 := (e1514 _ _ h1506)
          refine ⟨_, _, (rp_mk_ints h1521), (rp_mk_ints h1518), _, rfl, ?_⟩
          refine iteN (fun c1522 => ?_) (fun c1522 => ?_)
          · have hw := cW_neg c1522 hw
            refine iteT ?_
            have hw := cW_ok hw
            exact eq_bl (k _) (hK0 _ hw).symm
          · have hw := cW_pos c1522 hw
            have h1523 := (e1514 _ _ (e1502 _ _ h1497))
            obtain ⟨g1524, hw⟩ := cW_grd hw
            have h1525 := (e1514 _ _ (e1502 _ _ (x1488 _ _ h1476 (ni3 (ne_of_none ((SameXs.of x1331) _ _ (e1323 _ _ (e1304 _ _ (e1297 _ _ h1290))) (ni1 (ne_of_none (e1304 _ _ (e1297 _ _ h1290)) n1318))) n1343) (ne_of_none (e1348 _ _ ((SameXs.of x1331) _ _ (e1323 _ _ (e1304 _ _ (e1297 _ _ h1290))) (ni1 (ne_of_none (e1304 _ _ (e1297 _ _ h1290)) n1318)))) n1361) (ne_of_none (e1348 _ _ ((SameXs.of x1331) _ _ (e1323 _ _ (e1304 _ _ (e1297 _ _ h1290))) (ni1 (ne_of_none (e1304 _ _ (e1297 _ _ h1290)) n1318)))) n1362)))))
            have h1526 := (e1514 _ _ (e1502 _ _ h1498))
            have h1527 := (e1514 _ _ (e1502 _ _ h1499))
            refine ⟨_, rfl, _, _, _, rfl, h1523, rfl, _, rfl, _, _, _, _, rfl, rfl, (SqL.of h1525), (atI_map g1524), rfl, rfl, G1483, _, _, _, _, encoder_1375, _, rfl, S1520.sG, (hide_nil h1523), (hide_nil h1526), (hide_nil h1527), cW_call hw (fun v1528 hw H1529 e1530 => ?_) (fun e he => (hE e he).elim)⟩
            have S1531 := S1520.same e1530
            have h1532 := (e1530 _ _ (e1514 _ _ h1509))
            obtain ⟨g1533, hw⟩ := cW_grd hw
            have h1534 := (e1530 _ _ h1525)
            have h1535 := (e1530 _ _ (e1514 _ _ h1510))
            have h1536 := (e1530 _ _ (e1514 _ _ h1511))
            refine ⟨_, rfl, _, _, _, rfl, h1532, rfl, _, rfl, _, _, _, _, rfl, rfl, (SqL.of h1534), (atI_map g1533), rfl, rfl, G1483, _, _, _, _, v1486, _, rfl, S1531.sG, (hide_nil h1532), (hide_nil h1535), (hide_nil h1536), cW_call hw (fun v1537 hw H1538 e1539 => ?_) (fun e he => (hE e he).elim)⟩
            have S1540 := S1531.same e1539
            refine ⟨_, _, rfl, rfl, _, rfl, ?_⟩
            refine iteN (fun c1541 => ?_) (fun c1541 => ?_)
            · have hw := cW_neg c1541 hw
              have hw := cW_ok hw
              exact eq_bl (k _) (hK0 _ hw).symm
            · have hw := cW_pos c1541 hw
              refine ⟨_, rfl, rfl, rfl, fun x1542 dx1543 n1544 n1545 n1546 => ?_⟩
              generalize g1547 : upd (upd H1538 dx1543 _) x1542 _ = H1548
              obtain ⟨e1549, h1550⟩ := gen_obj n1544 n1545 n1546 g1547
              have fr1551 := S1540.free n1544
              have S1552 := S1540.new n1544 e1549 h1550 fr1551
              have h1553 := (e1549 _ _ (e1539 _ _ (e1530 _ _ h1521)))
              refine ⟨G1483, _, _, _, _, rfl, S1552.sG, (S1552.gno (all_cons (.head _) all_nil)), h1550, ((hideL_out (ni1 (ne_of_none (e1539 _ _ (e1530 _ _ h1521)) n1544))).trans h1553), cW_call hw (fun v1554 hw H1557 l1555 l1556 x1558 n1563 n1564 ne1565 h1559 h1561 h1562 => ⟨rfl, ?_⟩) (fun e he => (hE e he).elim)⟩
              have fr1566 := S1552.free n1563
              have fr1567 := S1552.free n1564
              have S1560 : Sep _ _ _ _ H1557 [l1555, l1556, x1542, p1515, p1503, p1252, x1316, l1328, l1329, x1341, l1353, l1354] := Sep.init S1552 x1558 (.head _) h1559 [l1555, l1556] (all_cons ⟨n1563, some_ne h1561, fr1566⟩ (all_cons ⟨n1564, some_ne h1562, fr1567⟩ all_nil))
              obtain ⟨K1571, hK1572, hw⟩ := cW_push hw
              refine ⟨_, rfl, _, rfl, ⟨_, (SqL.of (S1560.sG _ _ (eG1484 _ _ h1314)))⟩, for_list (K := K) (a := a1312) (xs := vs1313) (fun i σ H' => ∃ (u1573 : Option V) (decoder_1574 : St_Decoder) (G' : Hp), σ = [some (V.ref a_script), some (V.ref p1252), some (V.int (context_1263)), some (V.int (decision_1281)), some (V.ref a1312), some (V.ref x1316), some (V.ref x1341), u1573, some (V.ref p1503), some (V.ref x1542)] ∧ Same G1483 G' ∧ Sep [] H H G' H' [p1252, x1316, l1328, l1329, x1341, l1353, l1354, p1503, x1542, l1555, l1556] ∧ H' p1252 = some (.lst ((v1249 : (List Int)).map V.int)) ∧ H' x1316 = some (.ins AD.c_Encoder dx1317 [("_probabilities", V.ref l1328), ("_front", V.ref l1329), ("_low", V.int (encoder_1375.low)), ("_span", V.int (encoder_1375.span))]) ∧ H' l1328 = some (.lst ((encoder_1375.probs : (List Int)).map V.int)) ∧ H' l1329 = some (.lst ((encoder_1375.front : (List Int)).map V.int)) ∧ H' x1341 = some (.ins AD.c_Encoder dx1342 [("_probabilities", V.ref l1353), ("_front", V.ref l1354), ("_low", V.int (v1486.low)), ("_span", V.int (v1486.span))]) ∧ H' l1353 = some (.lst ((v1486.probs : (List Int)).map V.int)) ∧ H' l1354 = some (.lst ((v1486.front : (List Int)).map V.int)) ∧ H' p1503 = some (.lst ((v1500 : (List Int)).map V.int)) ∧ H' x1542 = some (.ins AD.c_Decoder dx1543 [("_probabilities", V.ref l1555), ("_octets", V.ref l1556), ("_place", V.int (decoder_1574.place)), ("_span", V.int (decoder_1574.span)), ("_value", V.int (decoder_1574.value))]) ∧ H' l1555 = some (.lst ((decoder_1574.probs : (List Int)).map V.int)) ∧ H' l1556 = some (.lst ((decoder_1574.octs : (List Int)).map V.int)) ∧ cW (forR (List.drop i (v1302)) decoder_1574 (fun s x => F_law_b4 (context_1263) s x)) K1571 EE) ?_ ?_ ?_ ?_⟩
              · have h1575 := ((SameXs.of x1558) _ _ (e1549 _ _ (e1539 _ _ h1534)) (ni1 (ne_of_none (e1539 _ _ h1534) n1544)))
                have h1576 := ((SameXs.of x1558) _ _ (e1549 _ _ (e1539 _ _ (e1530 _ _ h1523))) (ni1 (ne_of_none (e1539 _ _ (e1530 _ _ h1523)) n1544)))
                have h1577 := ((SameXs.of x1558) _ _ (e1549 _ _ (e1539 _ _ (e1530 _ _ h1526))) (ni1 (ne_of_none (e1539 _ _ (e1530 _ _ h1526)) n1544)))
                have h1578 := ((SameXs.of x1558) _ _ (e1549 _ _ (e1539 _ _ (e1530 _ _ h1527))) (ni1 (ne_of_none (e1539 _ _ (e1530 _ _ h1527)) n1544)))
                have h1579 := ((SameXs.of x1558) _ _ (e1549 _ _ (e1539 _ _ h1532)) (ni1 (ne_of_none (e1539 _ _ h1532) n1544)))
                have h1580 := ((SameXs.of x1558) _ _ (e1549 _ _ (e1539 _ _ h1535)) (ni1 (ne_of_none (e1539 _ _ h1535) n1544)))
                have h1581 := ((SameXs.of x1558) _ _ (e1549 _ _ (e1539 _ _ h1536)) (ni1 (ne_of_none (e1539 _ _ h1536) n1544)))
                have h1582 := ((SameXs.of x1558) _ _ h1553 (ni1 (ne_of_none (e1539 _ _ (e1530 _ _ h1521)) n1544)))
                exact ⟨_, (v1554), _, rfl, (Same.refl _), (S1560.sub (all_cons (.tail _ (.tail _ (.tail _ (.tail _ (.tail _ (.head _)))))) (all_cons (.tail _ (.tail _ (.tail _ (.tail _ (.tail _ (.tail _ (.head _))))))) (all_cons (.tail _ (.tail _ (.tail _ (.tail _ (.tail _ (.tail _ (.tail _ (.head _)))))))) (all_cons (.tail _ (.tail _ (.tail _ (.tail _ (.tail _ (.tail _ (.tail _ (.tail _ (.head _))))))))) (all_cons (.tail _ (.tail _ (.tail _ (.tail _ (.tail _ (.tail _ (.tail _ (.tail _ (.tail _ (.head _)))))))))) (all_cons (.tail _ (.tail _ (.tail _ (.tail _ (.tail _ (.tail _ (.tail _ (.tail _ (.tail _ (.tail _ (.head _))))))))))) (all_cons (.tail _ (.tail _ (.tail _ (.tail _ (.tail _ (.tail _ (.tail _ (.tail _ (.tail _ (.tail _ (.tail _ (.head _)))))))))))) (all_cons (.tail _ (.tail _ (.tail _ (.tail _ (.head _))))) (all_cons (.tail _ (.tail _ (.head _))) (all_cons (.head _) (all_cons (.tail _ (.head _)) all_nil)))))))))))), h1575, h1576, h1577, h1578, h1579, h1580, h1581, h1582, h1559, h1561, h1562, hw⟩
              · intro i σ H1583 _ hw
                obtain ⟨u1573, decoder_1574, G1596, rfl, eG1597, S1584, h1585, h1586, h1587, h1588, h1589, h1590, h1591, h1592, h1593, h1594, h1595, hw⟩ := hw
                exact (SqL.of (S1584.sG _ _ (eG1597 _ _ (eG1484 _ _ h1314))))
              · intro i x σ H1598 hj hw
                obtain ⟨u1573, decoder_1574, G1611, rfl, eG1612, S1599, h1600, h1601, h1602, h1603, h1604, h1605, h1606, h1607, h1608, h1609, h1610, hw⟩ := hw
                obtain ⟨x1613, hx, r1614⟩ := RpAll.get (RpAll.mono eG1612 (RpAll.mono eG1484 d1315)) hj
                obtain ⟨a1615, v1617, v1618, rfl, h1616, r1619, r1620⟩ := rp_tup2 r1614
                obtain rfl := rp_int r1619
                obtain rfl := rp_int r1620
                have hw := cW_forR hx hw
                have hw : cW (F_law_b4 (context_1263) (decoder_1574) (x1613)) _ EE := hw
                unfold F_law_b4 at hw
                obtain ⟨K1622, hK1623, hw⟩ := cW_name hw
                refine ⟨_, rfl, _, rfl, rfl, rfl, G1611, _, _, _, _, decoder_1574, _, rfl, S1599.sG, (S1599.gno (all_cons (.tail _ (.tail _ (.tail _ (.tail _ (.tail _ (.tail _ (.tail _ (.tail _ (.head _))))))))) (all_cons (.tail _ (.tail _ (.tail _ (.tail _ (.tail _ (.tail _ (.tail _ (.tail _ (.tail _ (.head _)))))))))) (all_cons (.tail _ (.tail _ (.tail _ (.tail _ (.tail _ (.tail _ (.tail _ (.tail _ (.tail _ (.tail _ (.head _))))))))))) all_nil)))), h1608, h1609, h1610, ne1565, cW_call hw (fun v1625 hw H1626 x1627 h1629 h1630 h1631  => ?_) (fun e he => (hE e he).elim)⟩
                have S1628 := S1599.mut x1627 (all_cons (.tail _ (.tail _ (.tail _ (.tail _ (.tail _ (.tail _ (.tail _ (.tail _ (.head _))))))))) (all_cons (.tail _ (.tail _ (.tail _ (.tail _ (.tail _ (.tail _ (.tail _ (.tail _ (.tail _ (.head _)))))))))) (all_cons (.tail _ (.tail _ (.tail _ (.tail _ (.tail _ (.tail _ (.tail _ (.tail _ (.tail _ (.tail _ (.head _))))))))))) all_nil))) (all_cons (some_ne h1629) (all_cons (some_ne h1630) (all_cons (some_ne h1631) all_nil)))
                refine ⟨_, rfl, ?_⟩
                refine iteBN (fun c1636 => ?_) (fun c1636 => ?_)
                · have hw := cW_negB c1636 hw
                  have hw := cW_ok hw
                  have hw := hK1623 (.rt _) hw
                  have hw := hK1572 (.rt _) hw
                  have hw := cW_ok hw
                  exact eq_bl (k _) (hK0 _ hw).symm
                · have hw := cW_pos c1636 hw
                  refine ⟨_, rfl, _, _, _, _, rfl, rfl, (SqT.of (S1628.sG _ _ h1616)), rfl, _, _, rfl, rfl, _, rfl, ?_⟩
                  refine iteD (fun c1637 => ?_) (fun c1637 => ?_)
                  · have hw := cW_pos c1637 hw
                    refine ⟨_, rfl, _, _, _, rfl, h1629, rfl, _, rfl, _, _, _, _, rfl, rfl, (SqT.of (S1628.sG _ _ h1616)), rfl, rfl, rfl, G1611, _, _, _, _, v1625.2, _, rfl, S1628.sG, (S1628.gno (all_cons (.tail _ (.tail _ (.tail _ (.tail _ (.tail _ (.tail _ (.tail _ (.tail _ (.head _))))))))) (all_cons (.tail _ (.tail _ (.tail _ (.tail _ (.tail _ (.tail _ (.tail _ (.tail _ (.tail _ (.head _)))))))))) (all_cons (.tail _ (.tail _ (.tail _ (.tail _ (.tail _ (.tail _ (.tail _ (.tail _ (.tail _ (.tail _ (.head _))))))))))) all_nil)))), h1629, h1630, h1631, ne1565, cW_call hw (fun v1638 hw H1639 x1640 h1642 h1643 h1644  => ?_) (fun e he => (hE e he).elim)⟩
                    have S1641 := S1628.mut x1640 (all_cons (.tail _ (.tail _ (.tail _ (.tail _ (.tail _ (.tail _ (.tail _ (.tail _ (.head _))))))))) (all_cons (.tail _ (.tail _ (.tail _ (.tail _ (.tail _ (.tail _ (.tail _ (.tail _ (.tail _ (.head _)))))))))) (all_cons (.tail _ (.tail _ (.tail _ (.tail _ (.tail _ (.tail _ (.tail _ (.tail _ (.tail _ (.tail _ (.head _))))))))))) all_nil))) (all_cons (some_ne h1642) (all_cons (some_ne h1643) (all_cons (some_ne h1644) all_nil)))
                    refine ⟨_, rfl, _, _, _, _, rfl, rfl, (SqT.of (S1641.sG _ _ h1616)), rfl, _, _, rfl, rfl, _, rfl, ?_⟩
                    refine iteN (fun c1649 => ?_) (fun c1649 => ?_)
                    · have hw := cW_neg c1649 hw
                      have hw := cW_ok hw
                      have hw := hK1623 (.rt _) hw
                      have hw := hK1572 (.rt _) hw
                      have hw := cW_ok hw
                      exact eq_bl (k _) (hK0 _ hw).symm
                    · have hw := cW_pos c1649 hw
                      refine ⟨_, rfl, _, _, _, _, rfl, rfl, (SqT.of (S1641.sG _ _ h1616)), rfl, _, _, rfl, rfl, _, rfl, ?_⟩
                      refine iteD (fun c1650 => ?_) (fun c1650 => ?_)
                      · have hw := cW_pos c1650 hw
                        refine ⟨_, rfl, _, _, _, rfl, h1642, rfl, rfl, rfl, G1611, _, _, _, _, v1638.2, rfl, S1641.sG, (S1641.gno (all_cons (.tail _ (.tail _ (.tail _ (.tail _ (.tail _ (.tail _ (.tail _ (.tail _ (.head _))))))))) (all_cons (.tail _ (.tail _ (.tail _ (.tail _ (.tail _ (.tail _ (.tail _ (.tail _ (.tail _ (.head _)))))))))) (all_cons (.tail _ (.tail _ (.tail _ (.tail _ (.tail _ (.tail _ (.tail _ (.tail _ (.tail _ (.tail _ (.head _))))))))))) all_nil)))), h1642, h1643, h1644, ne1565, cW_call hw (fun v1651 hw H1652 x1653 h1655 h1656 h1657  => ?_) (fun e he => (hE e he).elim)⟩
                        have S1654 := S1641.mut x1653 (all_cons (.tail _ (.tail _ (.tail _ (.tail _ (.tail _ (.tail _ (.tail _ (.tail _ (.head _))))))))) (all_cons (.tail _ (.tail _ (.tail _ (.tail _ (.tail _ (.tail _ (.tail _ (.tail _ (.tail _ (.head _)))))))))) (all_cons (.tail _ (.tail _ (.tail _ (.tail _ (.tail _ (.tail _ (.tail _ (.tail _ (.tail _ (.tail _ (.head _))))))))))) all_nil))) (all_cons (some_ne h1655) (all_cons (some_ne h1656) (all_cons (some_ne h1657) all_nil)))
                        refine ⟨_, rfl, _, _, _, _, rfl, rfl, (SqT.of (S1654.sG _ _ h1616)), rfl, _, _, rfl, rfl, _, rfl, ?_⟩
                        refine iteN (fun c1662 => ?_) (fun c1662 => ?_)
                        · have hw := cW_neg c1662 hw
                          have hw := cW_ok hw
                          have hw := hK1623 (.rt _) hw
                          have hw := hK1572 (.rt _) hw
                          have hw := cW_ok hw
                          exact eq_bl (k _) (hK0 _ hw).symm
                        · have hw := cW_pos c1662 hw
                          have hw := cW_ok hw
                          have hw := hK1623 _ hw
                          have h1663 := (x1653 _ _ (x1640 _ _ (x1627 _ _ h1600 (ni3 (ne_of_none (e1539 _ _ h1534) n1544) (ne_of_none (e1549 _ _ (e1539 _ _ h1534)) n1563) (ne_of_none (e1549 _ _ (e1539 _ _ h1534)) n1564))) (ni3 (ne_of_none (e1539 _ _ h1534) n1544) (ne_of_none (e1549 _ _ (e1539 _ _ h1534)) n1563) (ne_of_none (e1549 _ _ (e1539 _ _ h1534)) n1564))) (ni3 (ne_of_none (e1539 _ _ h1534) n1544) (ne_of_none (e1549 _ _ (e1539 _ _ h1534)) n1563) (ne_of_none (e1549 _ _ (e1539 _ _ h1534)) n1564)))
                          have h1664 := (x1653 _ _ (x1640 _ _ (x1627 _ _ h1601 (ni3 (ne_of_none (e1539 _ _ (e1530 _ _ h1523)) n1544) (ne_of_none (e1549 _ _ (e1539 _ _ (e1530 _ _ h1523))) n1563) (ne_of_none (e1549 _ _ (e1539 _ _ (e1530 _ _ h1523))) n1564))) (ni3 (ne_of_none (e1539 _ _ (e1530 _ _ h1523)) n1544) (ne_of_none (e1549 _ _ (e1539 _ _ (e1530 _ _ h1523))) n1563) (ne_of_none (e1549 _ _ (e1539 _ _ (e1530 _ _ h1523))) n1564))) (ni3 (ne_of_none (e1539 _ _ (e1530 _ _ h1523)) n1544) (ne_of_none (e1549 _ _ (e1539 _ _ (e1530 _ _ h1523))) n1563) (ne_of_none (e1549 _ _ (e1539 _ _ (e1530 _ _ h1523))) n1564)))
                          have h1665 := (x1653 _ _ (x1640 _ _ (x1627 _ _ h1602 (ni3 (ne_of_none (e1539 _ _ (e1530 _ _ h1526)) n1544) (ne_of_none (e1549 _ _ (e1539 _ _ (e1530 _ _ h1526))) n1563) (ne_of_none (e1549 _ _ (e1539 _ _ (e1530 _ _ h1526))) n1564))) (ni3 (ne_of_none (e1539 _ _ (e1530 _ _ h1526)) n1544) (ne_of_none (e1549 _ _ (e1539 _ _ (e1530 _ _ h1526))) n1563) (ne_of_none (e1549 _ _ (e1539 _ _ (e1530 _ _ h1526))) n1564))) (ni3 (ne_of_none (e1539 _ _ (e1530 _ _ h1526)) n1544) (ne_of_none (e1549 _ _ (e1539 _ _ (e1530 _ _ h1526))) n1563) (ne_of_none (e1549 _ _ (e1539 _ _ (e1530 _ _ h1526))) n1564)))
                          have h1666 := (x1653 _ _ (x1640 _ _ (x1627 _ _ h1603 (ni3 (ne_of_none (e1539 _ _ (e1530 _ _ h1527)) n1544) (ne_of_none (e1549 _ _ (e1539 _ _ (e1530 _ _ h1527))) n1563) (ne_of_none (e1549 _ _ (e1539 _ _ (e1530 _ _ h1527))) n1564))) (ni3 (ne_of_none (e1539 _ _ (e1530 _ _ h1527)) n1544) (ne_of_none (e1549 _ _ (e1539 _ _ (e1530 _ _ h1527))) n1563) (ne_of_none (e1549 _ _ (e1539 _ _ (e1530 _ _ h1527))) n1564))) (ni3 (ne_of_none (e1539 _ _ (e1530 _ _ h1527)) n1544) (ne_of_none (e1549 _ _ (e1539 _ _ (e1530 _ _ h1527))) n1563) (ne_of_none (e1549 _ _ (e1539 _ _ (e1530 _ _ h1527))) n1564)))
                          have h1667 := (x1653 _ _ (x1640 _ _ (x1627 _ _ h1604 (ni3 (ne_of_none (e1539 _ _ h1532) n1544) (ne_of_none (e1549 _ _ (e1539 _ _ h1532)) n1563) (ne_of_none (e1549 _ _ (e1539 _ _ h1532)) n1564))) (ni3 (ne_of_none (e1539 _ _ h1532) n1544) (ne_of_none (e1549 _ _ (e1539 _ _ h1532)) n1563) (ne_of_none (e1549 _ _ (e1539 _ _ h1532)) n1564))) (ni3 (ne_of_none (e1539 _ _ h1532) n1544) (ne_of_none (e1549 _ _ (e1539 _ _ h1532)) n1563) (ne_of_none (e1549 _ _ (e1539 _ _ h1532)) n1564)))
                          have h1668 := (x1653 _ _ (x1640 _ _ (x1627 _ _ h1605 (ni3 (ne_of_none (e1539 _ _ h1535) n1544) (ne_of_none (e1549 _ _ (e1539 _ _ h1535)) n1563) (ne_of_none (e1549 _ _ (e1539 _ _ h1535)) n1564))) (ni3 (ne_of_none (e1539 _ _ h1535) n1544) (ne_of_none (e1549 _ _ (e1539 _ _ h1535)) n1563) (ne_of_none (e1549 _ _ (e1539 _ _ h1535)) n1564))) (ni3 (ne_of_none (e1539 _ _ h1535) n1544) (ne_of_none (e1549 _ _ (e1539 _ _ h1535)) n1563) (ne_of_none (e1549 _ _ (e1539 _ _ h1535)) n1564)))
                          have h1669 := (x1653 _ _ (x1640 _ _ (x1627 _ _ h1606 (ni3 (ne_of_none (e1539 _ _ h1536) n1544) (ne_of_none (e1549 _ _ (e1539 _ _ h1536)) n1563) (ne_of_none (e1549 _ _ (e1539 _ _ h1536)) n1564))) (ni3 (ne_of_none (e1539 _ _ h1536) n1544) (ne_of_none (e1549 _ _ (e1539 _ _ h1536)) n1563) (ne_of_none (e1549 _ _ (e1539 _ _ h1536)) n1564))) (ni3 (ne_of_none (e1539 _ _ h1536) n1544) (ne_of_none (e1549 _ _ (e1539 _ _ h1536)) n1563) (ne_of_none (e1549 _ _ (e1539 _ _ h1536)) n1564)))
                          have h1670 := (x1653 _ _ (x1640 _ _ (x1627 _ _ h1607 (ni3 (ne_of_none (e1539 _ _ (e1530 _ _ h1521)) n1544) (ne_of_none h1553 n1563) (ne_of_none h1553 n1564))) (ni3 (ne_of_none (e1539 _ _ (e1530 _ _ h1521)) n1544) (ne_of_none h1553 n1563) (ne_of_none h1553 n1564))) (ni3 (ne_of_none (e1539 _ _ (e1530 _ _ h1521)) n1544) (ne_of_none h1553 n1563) (ne_of_none h1553 n1564)))
                          exact ⟨_, (v1651.2), _, rfl, eG1612, S1654, h1663, h1664, h1665, h1666, h1667, h1668, h1669, h1670, h1655, h1656, h1657, hw⟩
                      · have hw := cW_neg c1650 hw
                        refine iteF ?_
                        have hw := cW_ok hw
                        have hw := hK1623 _ hw
                        have h1671 := (x1640 _ _ (x1627 _ _ h1600 (ni3 (ne_of_none (e1539 _ _ h1534) n1544) (ne_of_none (e1549 _ _ (e1539 _ _ h1534)) n1563) (ne_of_none (e1549 _ _ (e1539 _ _ h1534)) n1564))) (ni3 (ne_of_none (e1539 _ _ h1534) n1544) (ne_of_none (e1549 _ _ (e1539 _ _ h1534)) n1563) (ne_of_none (e1549 _ _ (e1539 _ _ h1534)) n1564)))
                        have h1672 := (x1640 _ _ (x1627 _ _ h1601 (ni3 (ne_of_none (e1539 _ _ (e1530 _ _ h1523)) n1544) (ne_of_none (e1549 _ _ (e1539 _ _ (e1530 _ _ h1523))) n1563) (ne_of_none (e1549 _ _ (e1539 _ _ (e1530 _ _ h1523))) n1564))) (ni3 (ne_of_none (e1539 _ _ (e1530 _ _ h1523)) n1544) (ne_of_none (e1549 _ _ (e1539 _ _ (e1530 _ _ h1523))) n1563) (ne_of_none (e1549 _ _ (e1539 _ _ (e1530 _ _ h1523))) n1564)))
                        have h1673 := (x1640 _ _ (x1627 _ _ h1602 (ni3 (ne_of_none (e1539 _ _ (e1530 _ _ h1526)) n1544) (ne_of_none (e1549 _ _ (e1539 _ _ (e1530 _ _ h1526))) n1563) (ne_of_none (e1549 _ _ (e1539 _ _ (e1530 _ _ h1526))) n1564))) (ni3 (ne_of_none (e1539 _ _ (e1530 _ _ h1526)) n1544) (ne_of_none (e1549 _ _ (e1539 _ _ (e1530 _ _ h1526))) n1563) (ne_of_none (e1549 _ _ (e1539 _ _ (e1530 _ _ h1526))) n1564)))
                        have h1674 := (x1640 _ _ (x1627 _ _ h1603 (ni3 (ne_of_none (e1539 _ _ (e1530 _ _ h1527)) n1544) (ne_of_none (e1549 _ _ (e1539 _ _ (e1530 _ _ h1527))) n1563) (ne_of_none (e1549 _ _ (e1539 _ _ (e1530 _ _ h1527))) n1564))) (ni3 (ne_of_none (e1539 _ _ (e1530 _ _ h1527)) n1544) (ne_of_none (e1549 _ _ (e1539 _ _ (e1530 _ _ h1527))) n1563) (ne_of_none (e1549 _ _ (e1539 _ _ (e1530 _ _ h1527))) n1564)))
                        have h1675 := (x1640 _ _ (x1627 _ _ h1604 (ni3 (ne_of_none (e1539 _ _ h1532) n1544) (ne_of_none (e1549 _ _ (e1539 _ _ h1532)) n1563) (ne_of_none (e1549 _ _ (e1539 _ _ h1532)) n1564))) (ni3 (ne_of_none (e1539 _ _ h1532) n1544) (ne_of_none (e1549 _ _ (e1539 _ _ h1532)) n1563) (ne_of_none (e1549 _ _ (e1539 _ _ h1532)) n1564)))
                        have h1676 := (x1640 _ _ (x1627 _ _ h1605 (ni3 (ne_of_none (e1539 _ _ h1535) n1544) (ne_of_none (e1549 _ _ (e1539 _ _ h1535)) n1563) (ne_of_none (e1549 _ _ (e1539 _ _ h1535)) n1564))) (ni3 (ne_of_none (e1539 _ _ h1535) n1544) (ne_of_none (e1549 _ _ (e1539 _ _ h1535)) n1563) (ne_of_none (e1549 _ _ (e1539 _ _ h1535)) n1564)))
                        have h1677 := (x1640 _ _ (x1627 _ _ h1606 (ni3 (ne_of_none (e1539 _ _ h1536) n1544) (ne_of_none (e1549 _ _ (e1539 _ _ h1536)) n1563) (ne_of_none (e1549 _ _ (e1539 _ _ h1536)) n1564))) (ni3 (ne_of_none (e1539 _ _ h1536) n1544) (ne_of_none (e1549 _ _ (e1539 _ _ h1536)) n1563) (ne_of_none (e1549 _ _ (e1539 _ _ h1536)) n1564)))
                        have h1678 := (x1640 _ _ (x1627 _ _ h1607 (ni3 (ne_of_none (e1539 _ _ (e1530 _ _ h1521)) n1544) (ne_of_none h1553 n1563) (ne_of_none h1553 n1564))) (ni3 (ne_of_none (e1539 _ _ (e1530 _ _ h1521)) n1544) (ne_of_none h1553 n1563) (ne_of_none h1553 n1564)))
                        exact ⟨_, (v1638.2), _, rfl, eG1612, S1641, h1671, h1672, h1673, h1674, h1675, h1676, h1677, h1678, h1642, h1643, h1644, hw⟩
                  · have hw := cW_neg c1637 hw
                    refine iteF ?_
                    refine ⟨_, rfl, _, _, _, _, rfl, rfl, (SqT.of (S1628.sG _ _ h1616)), rfl, _, _, rfl, rfl, _, rfl, ?_⟩
                    refine iteD (fun c1679 => ?_) (fun c1679 => ?_)
                    · have hw := cW_pos c1679 hw
                      refine ⟨_, rfl, _, _, _, rfl, h1629, rfl, rfl, rfl, G1611, _, _, _, _, v1625.2, rfl, S1628.sG, (S1628.gno (all_cons (.tail _ (.tail _ (.tail _ (.tail _ (.tail _ (.tail _ (.tail _ (.tail _ (.head _))))))))) (all_cons (.tail _ (.tail _ (.tail _ (.tail _ (.tail _ (.tail _ (.tail _ (.tail _ (.tail _ (.head _)))))))))) (all_cons (.tail _ (.tail _ (.tail _ (.tail _ (.tail _ (.tail _ (.tail _ (.tail _ (.tail _ (.tail _ (.head _))))))))))) all_nil)))), h1629, h1630, h1631, ne1565, cW_call hw (fun v1680 hw H1681 x1682 h1684 h1685 h1686  => ?_) (fun e he => (hE e he).elim)⟩
                      have S1683 := S1628.mut x1682 (all_cons (.tail _ (.tail _ (.tail _ (.tail _ (.tail _ (.tail _ (.tail _ (.tail _ (.head _))))))))) (all_cons (.tail _ (.tail _ (.tail _ (.tail _ (.tail _ (.tail _ (.tail _ (.tail _ (.tail _ (.head _)))))))))) (all_cons (.tail _ (.tail _ (.tail _ (.tail _ (.tail _ (.tail _ (.tail _ (.tail _ (.tail _ (.tail _ (.head _))))))))))) all_nil))) (all_cons (some_ne h1684) (all_cons (some_ne h1685) (all_cons (some_ne h1686) all_nil)))
                      refine ⟨_, rfl, _, _, _, _, rfl, rfl, (SqT.of (S1683.sG _ _ h1616)), rfl, _, _, rfl, rfl, _, rfl, ?_⟩
                      refine iteN (fun c1691 => ?_) (fun c1691 => ?_)
                      · have hw := cW_neg c1691 hw
                        have hw := cW_ok hw
                        have hw := hK1623 (.rt _) hw
                        have hw := hK1572 (.rt _) hw
                        have hw := cW_ok hw
                        exact eq_bl (k _) (hK0 _ hw).symm
                      · have hw := cW_pos c1691 hw
                        have hw := cW_ok hw
                        have hw := hK1623 _ hw
                        have h1692 := (x1682 _ _ (x1627 _ _ h1600 (ni3 (ne_of_none (e1539 _ _ h1534) n1544) (ne_of_none (e1549 _ _ (e1539 _ _ h1534)) n1563) (ne_of_none (e1549 _ _ (e1539 _ _ h1534)) n1564))) (ni3 (ne_of_none (e1539 _ _ h1534) n1544) (ne_of_none (e1549 _ _ (e1539 _ _ h1534)) n1563) (ne_of_none (e1549 _ _ (e1539 _ _ h1534)) n1564)))
                        have h1693 := (x1682 _ _ (x1627 _ _ h1601 (ni3 (ne_of_none (e1539 _ _ (e1530 _ _ h1523)) n1544) (ne_of_none (e1549 _ _ (e1539 _ _ (e1530 _ _ h1523))) n1563) (ne_of_none (e1549 _ _ (e1539 _ _ (e1530 _ _ h1523))) n1564))) (ni3 (ne_of_none (e1539 _ _ (e1530 _ _ h1523)) n1544) (ne_of_none (e1549 _ _ (e1539 _ _ (e1530 _ _ h1523))) n1563) (ne_of_none (e1549 _ _ (e1539 _ _ (e1530 _ _ h1523))) n1564)))
                        have h1694 := (x1682 _ _ (x1627 _ _ h1602 (ni3 (ne_of_none (e1539 _ _ (e1530 _ _ h1526)) n1544) (ne_of_none (e1549 _ _ (e1539 _ _ (e1530 _ _ h1526))) n1563) (ne_of_none (e1549 _ _ (e1539 _ _ (e1530 _ _ h1526))) n1564))) (ni3 (ne_of_none (e1539 _ _ (e1530 _ _ h1526)) n1544) (ne_of_none (e1549 _ _ (e1539 _ _ (e1530 _ _ h1526))) n1563) (ne_of_none (e1549 _ _ (e1539 _ _ (e1530 _ _ h1526))) n1564)))
                        have h1695 := (x1682 _ _ (x1627 _ _ h1603 (ni3 (ne_of_none (e1539 _ _ (e1530 _ _ h1527)) n1544) (ne_of_none (e1549 _ _ (e1539 _ _ (e1530 _ _ h1527))) n1563) (ne_of_none (e1549 _ _ (e1539 _ _ (e1530 _ _ h1527))) n1564))) (ni3 (ne_of_none (e1539 _ _ (e1530 _ _ h1527)) n1544) (ne_of_none (e1549 _ _ (e1539 _ _ (e1530 _ _ h1527))) n1563) (ne_of_none (e1549 _ _ (e1539 _ _ (e1530 _ _ h1527))) n1564)))
                        have h1696 := (x1682 _ _ (x1627 _ _ h1604 (ni3 (ne_of_none (e1539 _ _ h1532) n1544) (ne_of_none (e1549 _ _ (e1539 _ _ h1532)) n1563) (ne_of_none (e1549 _ _ (e1539 _ _ h1532)) n1564))) (ni3 (ne_of_none (e1539 _ _ h1532) n1544) (ne_of_none (e1549 _ _ (e1539 _ _ h1532)) n1563) (ne_of_none (e1549 _ _ (e1539 _ _ h1532)) n1564)))
                        have h1697 := (x1682 _ _ (x1627 _ _ h1605 (ni3 (ne_of_none (e1539 _ _ h1535) n1544) (ne_of_none (e1549 _ _ (e1539 _ _ h1535)) n1563) (ne_of_none (e1549 _ _ (e1539 _ _ h1535)) n1564))) (ni3 (ne_of_none (e1539 _ _ h1535) n1544) (ne_of_none (e1549 _ _ (e1539 _ _ h1535)) n1563) (ne_of_none (e1549 _ _ (e1539 _ _ h1535)) n1564)))
                        have h1698 := (x1682 _ _ (x1627 _ _ h1606 (ni3 (ne_of_none (e1539 _ _ h1536) n1544) (ne_of_none (e1549 _ _ (e1539 _ _ h1536)) n1563) (ne_of_none (e1549 _ _ (e1539 _ _ h1536)) n1564))) (ni3 (ne_of_none (e1539 _ _ h1536) n1544) (ne_of_none (e1549 _ _ (e1539 _ _ h1536)) n1563) (ne_of_none (e1549 _ _ (e1539 _ _ h1536)) n1564)))
                        have h1699 := (x1682 _ _ (x1627 _ _ h1607 (ni3 (ne_of_none (e1539 _ _ (e1530 _ _ h1521)) n1544) (ne_of_none h1553 n1563) (ne_of_none h1553 n1564))) (ni3 (ne_of_none (e1539 _ _ (e1530 _ _ h1521)) n1544) (ne_of_none h1553 n1563) (ne_of_none h1553 n1564)))
                        exact ⟨_, (v1680.2), _, rfl, eG1612, S1683, h1692, h1693, h1694, h1695, h1696, h1697, h1698, h1699, h1684, h1685, h1686, hw⟩
                    · have hw := cW_neg c1679 hw
                      refine iteF ?_
                      have hw := cW_ok hw
                      have hw := hK1623 _ hw
                      have h1700 := (x1627 _ _ h1600 (ni3 (ne_of_none (e1539 _ _ h1534) n1544) (ne_of_none (e1549 _ _ (e1539 _ _ h1534)) n1563) (ne_of_none (e1549 _ _ (e1539 _ _ h1534)) n1564)))
                      have h1701 := (x1627 _ _ h1601 (ni3 (ne_of_none (e1539 _ _ (e1530 _ _ h1523)) n1544) (ne_of_none (e1549 _ _ (e1539 _ _ (e1530 _ _ h1523))) n1563) (ne_of_none (e1549 _ _ (e1539 _ _ (e1530 _ _ h1523))) n1564)))
                      have h1702 := (x1627 _ _ h1602 (ni3 (ne_of_none (e1539 _ _ (e1530 _ _ h1526)) n1544) (ne_of_none (e1549 _ _ (e1539 _ _ (e1530 _ _ h1526))) n1563) (ne_of_none (e1549 _ _ (e1539 _ _ (e1530 _ _ h1526))) n1564)))
                      have h1703 := (x1627 _ _ h1603 (ni3 (ne_of_none (e1539 _ _ (e1530 _ _ h1527)) n1544) (ne_of_none (e1549 _ _ (e1539 _ _ (e1530 _ _ h1527))) n1563) (ne_of_none (e1549 _ _ (e1539 _ _ (e1530 _ _ h1527))) n1564)))
                      have h1704 := (x1627 _ _ h1604 (ni3 (ne_of_none (e1539 _ _ h1532) n1544) (ne_of_none (e1549 _ _ (e1539 _ _ h1532)) n1563) (ne_of_none (e1549 _ _ (e1539 _ _ h1532)) n1564)))
                      have h1705 := (x1627 _ _ h1605 (ni3 (ne_of_none (e1539 _ _ h1535) n1544) (ne_of_none (e1549 _ _ (e1539 _ _ h1535)) n1563) (ne_of_none (e1549 _ _ (e1539 _ _ h1535)) n1564)))
                      have h1706 := (x1627 _ _ h1606 (ni3 (ne_of_none (e1539 _ _ h1536) n1544) (ne_of_none (e1549 _ _ (e1539 _ _ h1536)) n1563) (ne_of_none (e1549 _ _ (e1539 _ _ h1536)) n1564)))
                      have h1707 := (x1627 _ _ h1607 (ni3 (ne_of_none (e1539 _ _ (e1530 _ _ h1521)) n1544) (ne_of_none h1553 n1563) (ne_of_none h1553 n1564)))
                      exact ⟨_, (v1625.2), _, rfl, eG1612, S1628, h1700, h1701, h1702, h1703, h1704, h1705, h1706, h1707, h1629, h1630, h1631, hw⟩
              · intro σ H1708 hw
                obtain ⟨u1573, decoder_1574, G1721, rfl, eG1722, S1709, h1710, h1711, h1712, h1713, h1714, h1715, h1716, h1717, h1718, h1719, h1720, hw⟩ := hw
                have hw := hK1572 _ (cW_forR0 (by rw [(RpAll.mono eG1722 (RpAll.mono eG1484 d1315)).len, List.length_map]) hw)
                have hw : cW (F_law_r4 (v1249) (encoder_1375) (decoder_1574)) _ EE := hw
                unfold F_law_r4 at hw
                obtain ⟨g1724, hw⟩ := cW_grd hw
                refine ⟨_, rfl, _, _, _, rfl, h1718, rfl, _, rfl, _, _, _, _, rfl, rfl, (SqL.of h1710), (atI_map g1724), rfl, rfl, G1721, _, _, _, _, decoder_1574, _, rfl, S1709.sG, (hide_nil h1718), (hide_nil h1719), (hide_nil h1720), cW_call hw (fun v1725 hw H1726 e1727 => ?_) (fun e he => (hE e he).elim)⟩
                have S1728 := S1709.same e1727
                have h1729 := (e1727 _ _ h1711)
                obtain ⟨g1730, hw⟩ := cW_grd hw
                have h1731 := (e1727 _ _ h1710)
                have h1732 := (e1727 _ _ h1712)
                have h1733 := (e1727 _ _ h1713)
                refine ⟨_, rfl, _, _, _, rfl, h1729, rfl, _, rfl, _, _, _, _, rfl, rfl, (SqL.of h1731), (atI_map g1730), rfl, rfl, G1721, _, _, _, _, encoder_1375, _, rfl, S1728.sG, (hide_nil h1729), (hide_nil h1732), (hide_nil h1733), cW_call hw (fun v1734 hw H1735 e1736 => ?_) (fun e he => (hE e he).elim)⟩
                have S1737 := S1728.same e1736
                refine ⟨_, _, rfl, rfl, ?_⟩
                have hw := cW_ok hw
                exact eq_bl (k _) (hK0 _ hw).symm
end
def spL (K : PySem.W.Frag) : Sp := fun vs H Q _ => ∃ (a_script : Addr) (script : List Int), vs = [.ref a_script] ∧ SqL K H a_script (script.map V.int) ∧ script.length ≤ 63 ∧ ∀ H', Q (.bl true) H'
theorem all_mk {l : PySem.W.OpenLaw} {w : World} {K : PySem.W.Frag} {h : Heap} {mg : Str → Option Value} {fa : Addr} (X : K.In h) (G : h.Ns mainGlobals mg) (hfa : mg "law" = some (.ref fa))
    {f0 f1 f2 f3 f4 f5 f6 f7 f8 f9 f10 f11 f12 f13 f14 f15 f16 f17 f18 f19 f20 f21 f22 CEncoder CDecoder XCodecError XOutOfRange XBadOctets : Addr} {od0 an0 od1 an1 od2 an2 od3 an3 od4 an4 od5 an5 od6 an6 od7 an7 od8 an8 od9 an9 od10 an10 od11 an11 od12 an12 od13 an13 od14 an14 od15 an15 od16 an16 od17 an17 od18 an18 od19 an19 od20 an20 od21 an21 od22 an22 : Option Addr} {sl0 sl1 sl2 sl3 sl4 sl5 sl6 sl7 sl8 sl9 sl10 sl11 sl12 sl13 sl14 sl15 sl16 sl17 sl18 sl19 sl20 sl21 sl22 : Array (Option Value)} {oc0 kV0 dc0 pm0 cd0 ct0 oc1 kV1 dc1 pm1 cd1 ct1 oc2 kV2 dc2 pm2 cd2 ct2 oc3 kV3 dc3 pm3 cd3 ct3 oc4 kV4 dc4 pm4 cd4 ct4 oc5 kV5 dc5 pm5 cd5 ct5 oc6 kV6 dc6 pm6 cd6 ct6 oc7 kV7 dc7 pm7 cd7 ct7 oc8 kV8 dc8 pm8 cd8 ct8 oc9 kV9 dc9 pm9 cd9 ct9 oc10 kV10 dc10 pm10 cd10 ct10 oc11 kV11 dc11 pm11 cd11 ct11 oc12 kV12 dc12 pm12 cd12 ct12 oc13 kV13 dc13 pm13 cd13 ct13 oc14 kV14 dc14 pm14 cd14 ct14 oc15 kV15 dc15 pm15 cd15 ct15 oc16 kV16 dc16 pm16 cd16 ct16 oc17 kV17 dc17 pm17 cd17 ct17 oc18 kV18 dc18 pm18 cd18 ct18 oc19 kV19 dc19 pm19 cd19 ct19 oc20 kV20 dc20 pm20 cd20 ct20 oc21 kV21 dc21 pm21 cd21 ct21 oc22 kV22 dc22 pm22 cd22 ct22 : Value} {tk4 tk5 tk6 tk7 tk8 tk9 tk10 : Tok}
    (wEncoder : PySem.W.nsIn K mainGlobals "Encoder" = some (some (.ref CEncoder))) (wDecoder : PySem.W.nsIn K mainGlobals "Decoder" = some (some (.ref CDecoder))) (vCodecError : PySem.W.nsIn K mainGlobals "CodecError" = some (some (.ref XCodecError))) (vOutOfRange : PySem.W.nsIn K mainGlobals "OutOfRange" = some (some (.ref XOutOfRange))) (vBadOctets : PySem.W.nsIn K mainGlobals "BadOctets" = some (some (.ref XBadOctets))) (a0 : PySem.W.nsIn K mainGlobals "_law_draws" = some (some (.ref f0))) (l0 : K.lookup f0 = some ⟨oc0, od0, .func (PySem.W.fnOf "_law_draws" "_law_draws" (defArgs s__law_draws) (defBody s__law_draws) (defScope s__law_draws) .none kV0 dc0 pm0 an0 cd0 ct0), sl0⟩) (c0 : PySem.W.codeIn K cd0 "_law_draws" = true) (k0 : PySem.W.keepIn K (.ref f0) = true) (a1 : PySem.W.nsIn K mainGlobals "_law_items" = some (some (.ref f1))) (l1 : K.lookup f1 = some ⟨oc1, od1, .func (PySem.W.fnOf "_law_items" "_law_items" (defArgs s__law_items) (defBody s__law_items) (defScope s__law_items) .none kV1 dc1 pm1 an1 cd1 ct1), sl1⟩) (c1 : PySem.W.codeIn K cd1 "_law_items" = true) (k1 : PySem.W.keepIn K (.ref f1) = true) (a2 : PySem.W.findIn K (.ref CEncoder) "__init__" = some (some (.ref f2))) (b2 : PySem.W.isFn K (.ref f2) = true) (d2 : PySem.W.makesIn K CEncoder = true) (e2 : PySem.W.keepIn K (.ref CEncoder) = true) (l2 : K.lookup f2 = some ⟨oc2, od2, .func (PySem.W.fnOf "__init__" "Encoder.__init__" (defArgs s_Encoder___init__) (defBody s_Encoder___init__) (defScope s_Encoder___init__) .none kV2 dc2 pm2 an2 cd2 ct2), sl2⟩) (c2 : PySem.W.codeIn K cd2 "Encoder.__init__" = true) (k2 : PySem.W.keepIn K (.ref f2) = true) (a3 : PySem.W.nsIn K mainGlobals "_check_context" = some (some (.ref f3))) (l3 : K.lookup f3 = some ⟨oc3, od3, .func (PySem.W.fnOf "_check_context" "_check_context" (defArgs s__check_context) (defBody s__check_context) (defScope s__check_context) .none kV3 dc3 pm3 an3 cd3 ct3), sl3⟩) (c3 : PySem.W.codeIn K cd3 "_check_context" = true) (k3 : PySem.W.keepIn K (.ref f3) = true) (a4 : PySem.W.nsIn K mainGlobals "_check_decision" = some (some (.ref f4))) (l4 : K.lookup f4 = some ⟨oc4, od4, .func (PySem.W.fnOf "_check_decision" "_check_decision" (defArgs s__check_decision) (defBody s__check_decision) (defScope s__check_decision) .none kV4 dc4 pm4 an4 cd4 ct4), sl4⟩) (c4 : PySem.W.codeIn K cd4 "_check_decision" = true) (k4 : PySem.W.keepIn K (.ref f4) = true) (a5 : PySem.W.nsIn K mainGlobals "_adapted" = some (some (.ref f5))) (l5 : K.lookup f5 = some ⟨oc5, od5, .func (PySem.W.fnOf "_adapted" "_adapted" (defArgs s__adapted) (defBody s__adapted) (defScope s__adapted) .none kV5 dc5 pm5 an5 cd5 ct5), sl5⟩) (c5 : PySem.W.codeIn K cd5 "_adapted" = true) (k5 : PySem.W.keepIn K (.ref f5) = true) (a6 : PySem.W.findIn K (.ref CEncoder) "_carry" = some (some (.ref f6))) (b6 : PySem.W.isFn K (.ref f6) = true) (l6 : K.lookup f6 = some ⟨oc6, od6, .func (PySem.W.fnOf "_carry" "Encoder._carry" (defArgs s_Encoder__carry) (defBody s_Encoder__carry) (defScope s_Encoder__carry) .none kV6 dc6 pm6 an6 cd6 ct6), sl6⟩) (c6 : PySem.W.codeIn K cd6 "Encoder._carry" = true) (k6 : PySem.W.keepIn K (.ref f6) = true) (a7 : PySem.W.findIn K (.ref CEncoder) "_narrow" = some (some (.ref f7))) (b7 : PySem.W.isFn K (.ref f7) = true) (l7 : K.lookup f7 = some ⟨oc7, od7, .func (PySem.W.fnOf "_narrow" "Encoder._narrow" (defArgs s_Encoder__narrow) (defBody s_Encoder__narrow) (defScope s_Encoder__narrow) .none kV7 dc7 pm7 an7 cd7 ct7), sl7⟩) (c7 : PySem.W.codeIn K cd7 "Encoder._narrow" = true) (k7 : PySem.W.keepIn K (.ref f7) = true) (a8 : PySem.W.findIn K (.ref CEncoder) "code" = some (some (.ref f8))) (b8 : PySem.W.isFn K (.ref f8) = true) (l8 : K.lookup f8 = some ⟨oc8, od8, .func (PySem.W.fnOf "code" "Encoder.code" (defArgs s_Encoder_code) (defBody s_Encoder_code) (defScope s_Encoder_code) .none kV8 dc8 pm8 an8 cd8 ct8), sl8⟩) (c8 : PySem.W.codeIn K cd8 "Encoder.code" = true) (k8 : PySem.W.keepIn K (.ref f8) = true) (a9 : PySem.W.findIn K (.ref CEncoder) "code_even" = some (some (.ref f9))) (b9 : PySem.W.isFn K (.ref f9) = true) (l9 : K.lookup f9 = some ⟨oc9, od9, .func (PySem.W.fnOf "code_even" "Encoder.code_even" (defArgs s_Encoder_code_even) (defBody s_Encoder_code_even) (defScope s_Encoder_code_even) .none kV9 dc9 pm9 an9 cd9 ct9), sl9⟩) (c9 : PySem.W.codeIn K cd9 "Encoder.code_even" = true) (k9 : PySem.W.keepIn K (.ref f9) = true) (a10 : PySem.W.nsIn K mainGlobals "_law_code_items" = some (some (.ref f10))) (l10 : K.lookup f10 = some ⟨oc10, od10, .func (PySem.W.fnOf "_law_code_items" "_law_code_items" (defArgs s__law_code_items) (defBody s__law_code_items) (defScope s__law_code_items) .none kV10 dc10 pm10 an10 cd10 ct10), sl10⟩) (c10 : PySem.W.codeIn K cd10 "_law_code_items" = true) (k10 : PySem.W.keepIn K (.ref f10) = true) (a11 : PySem.W.findIn K (.ref CDecoder) "_shift" = some (some (.ref f11))) (b11 : PySem.W.isFn K (.ref f11) = true) (l11 : K.lookup f11 = some ⟨oc11, od11, .func (PySem.W.fnOf "_shift" "Decoder._shift" (defArgs s_Decoder__shift) (defBody s_Decoder__shift) (defScope s_Decoder__shift) .none kV11 dc11 pm11 an11 cd11 ct11), sl11⟩) (c11 : PySem.W.codeIn K cd11 "Decoder._shift" = true) (k11 : PySem.W.keepIn K (.ref f11) = true) (a12 : PySem.W.findIn K (.ref CDecoder) "__init__" = some (some (.ref f12))) (b12 : PySem.W.isFn K (.ref f12) = true) (d12 : PySem.W.makesIn K CDecoder = true) (e12 : PySem.W.keepIn K (.ref CDecoder) = true) (l12 : K.lookup f12 = some ⟨oc12, od12, .func (PySem.W.fnOf "__init__" "Decoder.__init__" (defArgs s_Decoder___init__) (defBody s_Decoder___init__) (defScope s_Decoder___init__) .none kV12 dc12 pm12 an12 cd12 ct12), sl12⟩) (c12 : PySem.W.codeIn K cd12 "Decoder.__init__" = true) (k12 : PySem.W.keepIn K (.ref f12) = true) (a13 : PySem.W.nsIn K mainGlobals "_law_cell" = some (some (.ref f13))) (l13 : K.lookup f13 = some ⟨oc13, od13, .func (PySem.W.fnOf "_law_cell" "_law_cell" (defArgs s__law_cell) (defBody s__law_cell) (defScope s__law_cell) .none kV13 dc13 pm13 an13 cd13 ct13), sl13⟩) (c13 : PySem.W.codeIn K cd13 "_law_cell" = true) (k13 : PySem.W.keepIn K (.ref f13) = true) (a14 : PySem.W.findIn K (.ref CEncoder) "octets" = some (some (.ref f14))) (b14 : PySem.W.isFn K (.ref f14) = true) (l14 : K.lookup f14 = some ⟨oc14, od14, .func (PySem.W.fnOf "octets" "Encoder.octets" (defArgs s_Encoder_octets) (defBody s_Encoder_octets) (defScope s_Encoder_octets) .none kV14 dc14 pm14 an14 cd14 ct14), sl14⟩) (c14 : PySem.W.codeIn K cd14 "Encoder.octets" = true) (k14 : PySem.W.keepIn K (.ref f14) = true) (a15 : PySem.W.findIn K (.ref CDecoder) "_decide" = some (some (.ref f15))) (b15 : PySem.W.isFn K (.ref f15) = true) (l15 : K.lookup f15 = some ⟨oc15, od15, .func (PySem.W.fnOf "_decide" "Decoder._decide" (defArgs s_Decoder__decide) (defBody s_Decoder__decide) (defScope s_Decoder__decide) .none kV15 dc15 pm15 an15 cd15 ct15), sl15⟩) (c15 : PySem.W.codeIn K cd15 "Decoder._decide" = true) (k15 : PySem.W.keepIn K (.ref f15) = true) (a16 : PySem.W.findIn K (.ref CDecoder) "read" = some (some (.ref f16))) (b16 : PySem.W.isFn K (.ref f16) = true) (l16 : K.lookup f16 = some ⟨oc16, od16, .func (PySem.W.fnOf "read" "Decoder.read" (defArgs s_Decoder_read) (defBody s_Decoder_read) (defScope s_Decoder_read) .none kV16 dc16 pm16 an16 cd16 ct16), sl16⟩) (c16 : PySem.W.codeIn K cd16 "Decoder.read" = true) (k16 : PySem.W.keepIn K (.ref f16) = true) (a17 : PySem.W.findIn K (.ref CEncoder) "probability" = some (some (.ref f17))) (b17 : PySem.W.isFn K (.ref f17) = true) (l17 : K.lookup f17 = some ⟨oc17, od17, .func (PySem.W.fnOf "probability" "Encoder.probability" (defArgs s_Encoder_probability) (defBody s_Encoder_probability) (defScope s_Encoder_probability) .none kV17 dc17 pm17 an17 cd17 ct17), sl17⟩) (c17 : PySem.W.codeIn K cd17 "Encoder.probability" = true) (k17 : PySem.W.keepIn K (.ref f17) = true) (a18 : PySem.W.findIn K (.ref CDecoder) "probability" = some (some (.ref f18))) (b18 : PySem.W.isFn K (.ref f18) = true) (l18 : K.lookup f18 = some ⟨oc18, od18, .func (PySem.W.fnOf "probability" "Decoder.probability" (defArgs s_Decoder_probability) (defBody s_Decoder_probability) (defScope s_Decoder_probability) .none kV18 dc18 pm18 an18 cd18 ct18), sl18⟩) (c18 : PySem.W.codeIn K cd18 "Decoder.probability" = true) (k18 : PySem.W.keepIn K (.ref f18) = true) (a19 : PySem.W.nsIn K mainGlobals "_law_bad_read" = some (some (.ref f19))) (l19 : K.lookup f19 = some ⟨oc19, od19, .func (PySem.W.fnOf "_law_bad_read" "_law_bad_read" (defArgs s__law_bad_read) (defBody s__law_bad_read) (defScope s__law_bad_read) .none kV19 dc19 pm19 an19 cd19 ct19), sl19⟩) (c19 : PySem.W.codeIn K cd19 "_law_bad_read" = true) (k19 : PySem.W.keepIn K (.ref f19) = true) (a20 : PySem.W.nsIn K mainGlobals "_law_bad_code" = some (some (.ref f20))) (l20 : K.lookup f20 = some ⟨oc20, od20, .func (PySem.W.fnOf "_law_bad_code" "_law_bad_code" (defArgs s__law_bad_code) (defBody s__law_bad_code) (defScope s__law_bad_code) .none kV20 dc20 pm20 an20 cd20 ct20), sl20⟩) (c20 : PySem.W.codeIn K cd20 "_law_bad_code" = true) (k20 : PySem.W.keepIn K (.ref f20) = true) (a21 : PySem.W.findIn K (.ref CDecoder) "read_even" = some (some (.ref f21))) (b21 : PySem.W.isFn K (.ref f21) = true) (l21 : K.lookup f21 = some ⟨oc21, od21, .func (PySem.W.fnOf "read_even" "Decoder.read_even" (defArgs s_Decoder_read_even) (defBody s_Decoder_read_even) (defScope s_Decoder_read_even) .none kV21 dc21 pm21 an21 cd21 ct21), sl21⟩) (c21 : PySem.W.codeIn K cd21 "Decoder.read_even" = true) (k21 : PySem.W.keepIn K (.ref f21) = true) (a22 : PySem.W.nsIn K mainGlobals "law" = some (some (.ref f22))) (l22 : K.lookup f22 = some ⟨oc22, od22, .func (PySem.W.fnOf "law" "law" (defArgs s_law) (defBody s_law) (defScope s_law) .none kV22 dc22 pm22 an22 cd22 ct22), sl22⟩) (c22 : PySem.W.codeIn K cd22 "law" = true) (k22 : PySem.W.keepIn K (.ref f22) = true)
    (z0 : PySem.W.nsIn K mainGlobals "abs" = some none) (z1 : PySem.W.nsIn K mainGlobals "int" = some none) (z2 : PySem.W.nsIn K mainGlobals "range" = some none) (z3 : PySem.W.nsIn K mainGlobals "len" = some none) (z4 : PySem.W.nsIn K mainGlobals "EVEN" = some (some (.int 2048 tk4))) (z5 : PySem.W.nsIn K mainGlobals "CONTEXTS" = some (some (.int 256 tk5))) (z6 : PySem.W.nsIn K mainGlobals "WORD" = some (some (.int 4294967296 tk6))) (z7 : PySem.W.nsIn K mainGlobals "SCALE" = some (some (.int 4096 tk7))) (z8 : PySem.W.nsIn K mainGlobals "RATE" = some (some (.int 5 tk8))) (z9 : PySem.W.nsIn K mainGlobals "SCALE_BITS" = some (some (.int 12 tk9))) (z10 : PySem.W.nsIn K mainGlobals "LEAST_SPAN" = some (some (.int 16777216 tk10))) (z11 : PySem.W.nsIn K mainGlobals "list" = some none) (z12 : PySem.W.nsIn K mainGlobals "min" = some none) (z13 : PySem.W.nsIn K mainGlobals "isinstance" = some none) (yEncoder0 : PySem.W.plainGet K CEncoder Str.empty = true) (yEncoder1 : PySem.W.hasDictIn K CEncoder = true) (yEncoder2 : PySem.W.plainOver K CEncoder = true) (yEncoder3 : PySem.W.findIn K (.ref CEncoder) "__setattr__" = some (some (.builtin "object.__setattr__"))) (xEncoder0 : PySem.W.findIn K (.ref CEncoder) "_probabilities" = some none) (xEncoder1 : PySem.W.findIn K (.ref CEncoder) "_front" = some none) (xEncoder2 : PySem.W.findIn K (.ref CEncoder) "_low" = some none) (xEncoder3 : PySem.W.findIn K (.ref CEncoder) "_span" = some none) (yDecoder0 : PySem.W.plainGet K CDecoder Str.empty = true) (yDecoder1 : PySem.W.hasDictIn K CDecoder = true) (yDecoder2 : PySem.W.plainOver K CDecoder = true) (yDecoder3 : PySem.W.findIn K (.ref CDecoder) "__setattr__" = some (some (.builtin "object.__setattr__"))) (xDecoder0 : PySem.W.findIn K (.ref CDecoder) "_probabilities" = some none) (xDecoder1 : PySem.W.findIn K (.ref CDecoder) "_octets" = some none) (xDecoder2 : PySem.W.findIn K (.ref CDecoder) "_place" = some none) (xDecoder3 : PySem.W.findIn K (.ref CDecoder) "_span" = some none) (xDecoder4 : PySem.W.findIn K (.ref CDecoder) "_value" = some none) (exOutOfRange : PySem.W.excIn K XOutOfRange [.type "ValueError", .type "Exception", .type "BaseException", .type "object"] "ValueError.__new__" = true) (ekOutOfRange : PySem.W.keepIn K (.ref XOutOfRange) = true) (ebOutOfRange : PySem.W.subIn K (.ref XOutOfRange) (.type "BaseException") = some true) (etOutOfRange : PySem.W.typeIn K (.ref XOutOfRange) = some (.type "type")) (exCodecError : PySem.W.excIn K XCodecError [.type "ValueError", .type "Exception", .type "BaseException", .type "object"] "ValueError.__new__" = true) (ekCodecError : PySem.W.keepIn K (.ref XCodecError) = true) (ebCodecError : PySem.W.subIn K (.ref XCodecError) (.type "BaseException") = some true) (etCodecError : PySem.W.typeIn K (.ref XCodecError) = some (.type "type")) (exBadOctets : PySem.W.excIn K XBadOctets [.type "ValueError", .type "Exception", .type "BaseException", .type "object"] "ValueError.__new__" = true) (ekBadOctets : PySem.W.keepIn K (.ref XBadOctets) = true) (ebBadOctets : PySem.W.subIn K (.ref XBadOctets) (.type "BaseException") = some true) (etBadOctets : PySem.W.typeIn K (.ref XBadOctets) = some (.type "type")) (eiOutOfRangeOutOfRange : PySem.W.isClsIn K XOutOfRange = true) (esOutOfRangeOutOfRange : PySem.W.subIn K (.ref XOutOfRange) (.ref XOutOfRange) = some true) (eiOutOfRangeCodecError : PySem.W.isClsIn K XCodecError = true) (esOutOfRangeCodecError : PySem.W.subIn K (.ref XOutOfRange) (.ref XCodecError) = some true) (enOutOfRangeBadOctets : (Value.ref XOutOfRange == Value.ref XBadOctets) = false) (ejOutOfRangeBadOctets : PySem.W.isClsIn K XBadOctets = true) (etOutOfRangeBadOctets : PySem.W.subIn K (.ref XOutOfRange) (.ref XBadOctets) = some false) (c1OutOfRange : PySem.W.findIn K (.ref XOutOfRange) "__getattribute__" = some (some (.builtin "BaseException.__getattribute__"))) (c2OutOfRange : PySem.W.findIn K (.ref XOutOfRange) "__getattr__" = some none) (c3OutOfRange : PySem.W.hasDictIn K XOutOfRange = true) (c4OutOfRange : PySem.W.findIn K (.ref XOutOfRange) "__class__" = some (some (.builtin "object.__class__"))) (c5OutOfRange : PySem.W.specialIn K (.builtin "object.__class__") "__get__" = some (some (.builtin "getset_descriptor.__get__"))) (c6OutOfRange : PySem.W.takesIn K (.builtin "object.__class__") = some true) (c7OutOfRange : PySem.W.mroIn K XOutOfRange (.type "object") = some true) :
    ∃ fd : FuncData, (∀ (s : Shared) (v : Value), BindsTo s fd ⟨[v], []⟩ [("script", v)]) ∧ ∀ base : Heap, K.In base → base.Ns mainGlobals mg → FnOk l.prog w K mg base CX0 5 fa fd ["script"] (spL K) := by
  have e := hfa.symm.trans (PySem.W.mg_of X G a22)
  cases e
  have T : Txt K mg ⟨CEncoder, CDecoder, XCodecError, XOutOfRange, XBadOctets, fa⟩ := ⟨PySem.W.mg_none_of X G z0, PySem.W.mg_none_of X G z1, PySem.W.mg_none_of X G z2, PySem.W.mg_none_of X G z3, ⟨_, PySem.W.mg_of X G z4, ⟨_, rfl⟩⟩, ⟨_, PySem.W.mg_of X G z5, ⟨_, rfl⟩⟩, ⟨_, PySem.W.mg_of X G z6, ⟨_, rfl⟩⟩, ⟨_, PySem.W.mg_of X G z7, ⟨_, rfl⟩⟩, ⟨_, PySem.W.mg_of X G z8, ⟨_, rfl⟩⟩, ⟨_, PySem.W.mg_of X G z9, ⟨_, rfl⟩⟩, ⟨_, PySem.W.mg_of X G z10, ⟨_, rfl⟩⟩, PySem.W.mg_none_of X G z11, PySem.W.mg_none_of X G z12, PySem.W.mg_none_of X G z13, ⟨yEncoder0, yEncoder1, yEncoder2, yEncoder3⟩, xEncoder0, xEncoder1, xEncoder2, xEncoder3, ⟨yDecoder0, yDecoder1, yDecoder2, yDecoder3⟩, xDecoder0, xDecoder1, xDecoder2, xDecoder3, xDecoder4, PySem.W.mg_of X G vOutOfRange, exOutOfRange, ekOutOfRange, ebOutOfRange, etOutOfRange, PySem.W.mg_of X G vCodecError, exCodecError, ekCodecError, ebCodecError, etCodecError, PySem.W.mg_of X G vBadOctets, exBadOctets, ekBadOctets, ebBadOctets, etBadOctets, exm_mk ebOutOfRange eiOutOfRangeOutOfRange etOutOfRange esOutOfRangeOutOfRange, kit_mk eiOutOfRangeCodecError etCodecError esOutOfRangeCodecError, kit_mk0 enOutOfRangeBadOctets ejOutOfRangeBadOctets etBadOctets etOutOfRangeBadOctets, ⟨c1OutOfRange, c2OutOfRange, ebOutOfRange, c3OutOfRange, c4OutOfRange, c5OutOfRange, c6OutOfRange, c7OutOfRange⟩⟩
  have F0 : FunD K "_law_draws" "_law_draws" (defArgs s__law_draws) (defBody s__law_draws) (defScope s__law_draws) [] [] f0 _ := ⟨⟨_, _, _, _, _, _, _, _, _, _, rfl, l0, c0, .inl ⟨rfl, rfl⟩, .inl rfl⟩, k0⟩
  have D_0 : DefX K mg "_law_draws" s__law_draws ["cell", "limits"] pats__law_draws := ⟨_, _, _, _, F0, PySem.W.mg_of X G a0, (all_consQ (Bnd.all fun us ws vs zs l1 l2 r rz => by
      obtain ⟨u0, u1, rfl⟩ := len2 (r.length.symm.trans l1)
      obtain rfl := len0 (rz.length.symm.trans l2)
      cases r with | cons r0 r =>
        cases r with | cons r1 r =>
          cases r
          cases rz
          exact ⟨[u0, u1], rfl, (.cons r0 (.cons r1 .nil))⟩) all_nilQ)⟩
  have F1 : FunD K "_law_items" "_law_items" (defArgs s__law_items) (defBody s__law_items) (defScope s__law_items) [] [] f1 _ := ⟨⟨_, _, _, _, _, _, _, _, _, _, rfl, l1, c1, .inl ⟨rfl, rfl⟩, .inl rfl⟩, k1⟩
  have D_1 : DefX K mg "_law_items" s__law_items ["script", "most"] pats__law_items := ⟨_, _, _, _, F1, PySem.W.mg_of X G a1, (all_consQ (Bnd.all fun us ws vs zs l1 l2 r rz => by
      obtain ⟨u0, u1, rfl⟩ := len2 (r.length.symm.trans l1)
      obtain rfl := len0 (rz.length.symm.trans l2)
      cases r with | cons r0 r =>
        cases r with | cons r1 r =>
          cases r
          cases rz
          exact ⟨[u0, u1], rfl, (.cons r0 (.cons r1 .nil))⟩) all_nilQ)⟩
  have F2 : FunD K "__init__" "Encoder.__init__" (defArgs s_Encoder___init__) (defBody s_Encoder___init__) (defScope s_Encoder___init__) [] [] f2 _ := ⟨⟨_, _, _, _, _, _, _, _, _, _, rfl, l2, c2, .inl ⟨rfl, rfl⟩, .inl rfl⟩, k2⟩
  have D_2 : InitX K mg CEncoder "Encoder" "Encoder.__init__" s_Encoder___init__ ["self"] pats_Encoder___init__ := ⟨_, _, _, _, F2, ⟨d2, a2, b2, e2⟩, PySem.W.mg_of X G wEncoder, (all_consQ (Bnd.all fun us ws vs zs l1 l2 r rz => by
      obtain ⟨u0, rfl⟩ := len1 (r.length.symm.trans l1)
      obtain rfl := len0 (rz.length.symm.trans l2)
      cases r with | cons r0 r =>
        cases r
        cases rz
        exact ⟨[u0], rfl, (.cons r0 .nil)⟩) all_nilQ)⟩
  have F3 : FunD K "_check_context" "_check_context" (defArgs s__check_context) (defBody s__check_context) (defScope s__check_context) [] [] f3 _ := ⟨⟨_, _, _, _, _, _, _, _, _, _, rfl, l3, c3, .inl ⟨rfl, rfl⟩, .inl rfl⟩, k3⟩
  have D_3 : DefX K mg "_check_context" s__check_context ["context"] pats__check_context := ⟨_, _, _, _, F3, PySem.W.mg_of X G a3, (all_consQ (Bnd.all fun us ws vs zs l1 l2 r rz => by
      obtain ⟨u0, rfl⟩ := len1 (r.length.symm.trans l1)
      obtain rfl := len0 (rz.length.symm.trans l2)
      cases r with | cons r0 r =>
        cases r
        cases rz
        exact ⟨[u0], rfl, (.cons r0 .nil)⟩) all_nilQ)⟩
  have F4 : FunD K "_check_decision" "_check_decision" (defArgs s__check_decision) (defBody s__check_decision) (defScope s__check_decision) [] [] f4 _ := ⟨⟨_, _, _, _, _, _, _, _, _, _, rfl, l4, c4, .inl ⟨rfl, rfl⟩, .inl rfl⟩, k4⟩
  have D_4 : DefX K mg "_check_decision" s__check_decision ["decision"] pats__check_decision := ⟨_, _, _, _, F4, PySem.W.mg_of X G a4, (all_consQ (Bnd.all fun us ws vs zs l1 l2 r rz => by
      obtain ⟨u0, rfl⟩ := len1 (r.length.symm.trans l1)
      obtain rfl := len0 (rz.length.symm.trans l2)
      cases r with | cons r0 r =>
        cases r
        cases rz
        exact ⟨[u0], rfl, (.cons r0 .nil)⟩) all_nilQ)⟩
  have F5 : FunD K "_adapted" "_adapted" (defArgs s__adapted) (defBody s__adapted) (defScope s__adapted) [] [] f5 _ := ⟨⟨_, _, _, _, _, _, _, _, _, _, rfl, l5, c5, .inl ⟨rfl, rfl⟩, .inl rfl⟩, k5⟩
  have D_5 : DefX K mg "_adapted" s__adapted ["chance", "decision"] pats__adapted := ⟨_, _, _, _, F5, PySem.W.mg_of X G a5, (all_consQ (Bnd.all fun us ws vs zs l1 l2 r rz => by
      obtain ⟨u0, u1, rfl⟩ := len2 (r.length.symm.trans l1)
      obtain rfl := len0 (rz.length.symm.trans l2)
      cases r with | cons r0 r =>
        cases r with | cons r1 r =>
          cases r
          cases rz
          exact ⟨[u0, u1], rfl, (.cons r0 (.cons r1 .nil))⟩) all_nilQ)⟩
  have F6 : FunD K "_carry" "Encoder._carry" (defArgs s_Encoder__carry) (defBody s_Encoder__carry) (defScope s_Encoder__carry) [] [] f6 _ := ⟨⟨_, _, _, _, _, _, _, _, _, _, rfl, l6, c6, .inl ⟨rfl, rfl⟩, .inl rfl⟩, k6⟩
  have D_6 : MethX K CEncoder "Encoder._carry" "_carry" s_Encoder__carry ["self"] pats_Encoder__carry := ⟨_, _, _, _, F6, ⟨a6, b6, k6⟩, (all_consQ (Bnd.all fun us ws vs zs l1 l2 r rz => by
      obtain ⟨u0, rfl⟩ := len1 (r.length.symm.trans l1)
      obtain rfl := len0 (rz.length.symm.trans l2)
      cases r with | cons r0 r =>
        cases r
        cases rz
        exact ⟨[u0], rfl, (.cons r0 .nil)⟩) all_nilQ)⟩
  have F7 : FunD K "_narrow" "Encoder._narrow" (defArgs s_Encoder__narrow) (defBody s_Encoder__narrow) (defScope s_Encoder__narrow) [] [] f7 _ := ⟨⟨_, _, _, _, _, _, _, _, _, _, rfl, l7, c7, .inl ⟨rfl, rfl⟩, .inl rfl⟩, k7⟩
  have D_7 : MethX K CEncoder "Encoder._narrow" "_narrow" s_Encoder__narrow ["self", "chance", "decision"] pats_Encoder__narrow := ⟨_, _, _, _, F7, ⟨a7, b7, k7⟩, (all_consQ (Bnd.all fun us ws vs zs l1 l2 r rz => by
      obtain ⟨u0, u1, u2, rfl⟩ := len3 (r.length.symm.trans l1)
      obtain rfl := len0 (rz.length.symm.trans l2)
      cases r with | cons r0 r =>
        cases r with | cons r1 r =>
          cases r with | cons r2 r =>
            cases r
            cases rz
            exact ⟨[u0, u1, u2], rfl, (.cons r0 (.cons r1 (.cons r2 .nil)))⟩) all_nilQ)⟩
  have F8 : FunD K "code" "Encoder.code" (defArgs s_Encoder_code) (defBody s_Encoder_code) (defScope s_Encoder_code) [] [] f8 _ := ⟨⟨_, _, _, _, _, _, _, _, _, _, rfl, l8, c8, .inl ⟨rfl, rfl⟩, .inl rfl⟩, k8⟩
  have D_8 : MethX K CEncoder "Encoder.code" "code" s_Encoder_code ["self", "context", "decision"] pats_Encoder_code := ⟨_, _, _, _, F8, ⟨a8, b8, k8⟩, (all_consQ (Bnd.all fun us ws vs zs l1 l2 r rz => by
      obtain ⟨u0, u1, u2, rfl⟩ := len3 (r.length.symm.trans l1)
      obtain rfl := len0 (rz.length.symm.trans l2)
      cases r with | cons r0 r =>
        cases r with | cons r1 r =>
          cases r with | cons r2 r =>
            cases r
            cases rz
            exact ⟨[u0, u1, u2], rfl, (.cons r0 (.cons r1 (.cons r2 .nil)))⟩) all_nilQ)⟩
  have F9 : FunD K "code_even" "Encoder.code_even" (defArgs s_Encoder_code_even) (defBody s_Encoder_code_even) (defScope s_Encoder_code_even) [] [] f9 _ := ⟨⟨_, _, _, _, _, _, _, _, _, _, rfl, l9, c9, .inl ⟨rfl, rfl⟩, .inl rfl⟩, k9⟩
  have D_9 : MethX K CEncoder "Encoder.code_even" "code_even" s_Encoder_code_even ["self", "decision"] pats_Encoder_code_even := ⟨_, _, _, _, F9, ⟨a9, b9, k9⟩, (all_consQ (Bnd.all fun us ws vs zs l1 l2 r rz => by
      obtain ⟨u0, u1, rfl⟩ := len2 (r.length.symm.trans l1)
      obtain rfl := len0 (rz.length.symm.trans l2)
      cases r with | cons r0 r =>
        cases r with | cons r1 r =>
          cases r
          cases rz
          exact ⟨[u0, u1], rfl, (.cons r0 (.cons r1 .nil))⟩) all_nilQ)⟩
  have F10 : FunD K "_law_code_items" "_law_code_items" (defArgs s__law_code_items) (defBody s__law_code_items) (defScope s__law_code_items) [] [] f10 _ := ⟨⟨_, _, _, _, _, _, _, _, _, _, rfl, l10, c10, .inl ⟨rfl, rfl⟩, .inl rfl⟩, k10⟩
  have D_10 : DefX K mg "_law_code_items" s__law_code_items ["encoder", "items"] pats__law_code_items := ⟨_, _, _, _, F10, PySem.W.mg_of X G a10, (all_consQ (Bnd.all fun us ws vs zs l1 l2 r rz => by
      obtain ⟨u0, u1, rfl⟩ := len2 (r.length.symm.trans l1)
      obtain rfl := len0 (rz.length.symm.trans l2)
      cases r with | cons r0 r =>
        cases r with | cons r1 r =>
          cases r
          cases rz
          exact ⟨[u0, u1], rfl, (.cons r0 (.cons r1 .nil))⟩) all_nilQ)⟩
  have F11 : FunD K "_shift" "Decoder._shift" (defArgs s_Decoder__shift) (defBody s_Decoder__shift) (defScope s_Decoder__shift) [] [] f11 _ := ⟨⟨_, _, _, _, _, _, _, _, _, _, rfl, l11, c11, .inl ⟨rfl, rfl⟩, .inl rfl⟩, k11⟩
  have D_11 : MethX K CDecoder "Decoder._shift" "_shift" s_Decoder__shift ["self"] pats_Decoder__shift := ⟨_, _, _, _, F11, ⟨a11, b11, k11⟩, (all_consQ (Bnd.all fun us ws vs zs l1 l2 r rz => by
      obtain ⟨u0, rfl⟩ := len1 (r.length.symm.trans l1)
      obtain rfl := len0 (rz.length.symm.trans l2)
      cases r with | cons r0 r =>
        cases r
        cases rz
        exact ⟨[u0], rfl, (.cons r0 .nil)⟩) all_nilQ)⟩
  have F12 : FunD K "__init__" "Decoder.__init__" (defArgs s_Decoder___init__) (defBody s_Decoder___init__) (defScope s_Decoder___init__) [] [] f12 _ := ⟨⟨_, _, _, _, _, _, _, _, _, _, rfl, l12, c12, .inl ⟨rfl, rfl⟩, .inl rfl⟩, k12⟩
  have D_12 : InitX K mg CDecoder "Decoder" "Decoder.__init__" s_Decoder___init__ ["self", "octets"] pats_Decoder___init__ := ⟨_, _, _, _, F12, ⟨d12, a12, b12, e12⟩, PySem.W.mg_of X G wDecoder, (all_consQ (Bnd.all fun us ws vs zs l1 l2 r rz => by
      obtain ⟨u0, u1, rfl⟩ := len2 (r.length.symm.trans l1)
      obtain rfl := len0 (rz.length.symm.trans l2)
      cases r with | cons r0 r =>
        cases r with | cons r1 r =>
          cases r
          cases rz
          exact ⟨[u0, u1], rfl, (.cons r0 (.cons r1 .nil))⟩) all_nilQ)⟩
  have F13 : FunD K "_law_cell" "_law_cell" (defArgs s__law_cell) (defBody s__law_cell) (defScope s__law_cell) [] [] f13 _ := ⟨⟨_, _, _, _, _, _, _, _, _, _, rfl, l13, c13, .inl ⟨rfl, rfl⟩, .inl rfl⟩, k13⟩
  have D_13 : DefX K mg "_law_cell" s__law_cell ["script", "k"] pats__law_cell := ⟨_, _, _, _, F13, PySem.W.mg_of X G a13, (all_consQ (Bnd.all fun us ws vs zs l1 l2 r rz => by
      obtain ⟨u0, u1, rfl⟩ := len2 (r.length.symm.trans l1)
      obtain rfl := len0 (rz.length.symm.trans l2)
      cases r with | cons r0 r =>
        cases r with | cons r1 r =>
          cases r
          cases rz
          exact ⟨[u0, u1], rfl, (.cons r0 (.cons r1 .nil))⟩) all_nilQ)⟩
  have F14 : FunD K "octets" "Encoder.octets" (defArgs s_Encoder_octets) (defBody s_Encoder_octets) (defScope s_Encoder_octets) [] [] f14 _ := ⟨⟨_, _, _, _, _, _, _, _, _, _, rfl, l14, c14, .inl ⟨rfl, rfl⟩, .inl rfl⟩, k14⟩
  have D_14 : MethX K CEncoder "Encoder.octets" "octets" s_Encoder_octets ["self"] pats_Encoder_octets := ⟨_, _, _, _, F14, ⟨a14, b14, k14⟩, (all_consQ (Bnd.all fun us ws vs zs l1 l2 r rz => by
      obtain ⟨u0, rfl⟩ := len1 (r.length.symm.trans l1)
      obtain rfl := len0 (rz.length.symm.trans l2)
      cases r with | cons r0 r =>
        cases r
        cases rz
        exact ⟨[u0], rfl, (.cons r0 .nil)⟩) all_nilQ)⟩
  have F15 : FunD K "_decide" "Decoder._decide" (defArgs s_Decoder__decide) (defBody s_Decoder__decide) (defScope s_Decoder__decide) [] [] f15 _ := ⟨⟨_, _, _, _, _, _, _, _, _, _, rfl, l15, c15, .inl ⟨rfl, rfl⟩, .inl rfl⟩, k15⟩
  have D_15 : MethX K CDecoder "Decoder._decide" "_decide" s_Decoder__decide ["self", "chance"] pats_Decoder__decide := ⟨_, _, _, _, F15, ⟨a15, b15, k15⟩, (all_consQ (Bnd.all fun us ws vs zs l1 l2 r rz => by
      obtain ⟨u0, u1, rfl⟩ := len2 (r.length.symm.trans l1)
      obtain rfl := len0 (rz.length.symm.trans l2)
      cases r with | cons r0 r =>
        cases r with | cons r1 r =>
          cases r
          cases rz
          exact ⟨[u0, u1], rfl, (.cons r0 (.cons r1 .nil))⟩) all_nilQ)⟩
  have F16 : FunD K "read" "Decoder.read" (defArgs s_Decoder_read) (defBody s_Decoder_read) (defScope s_Decoder_read) [] [] f16 _ := ⟨⟨_, _, _, _, _, _, _, _, _, _, rfl, l16, c16, .inl ⟨rfl, rfl⟩, .inl rfl⟩, k16⟩
  have D_16 : MethX K CDecoder "Decoder.read" "read" s_Decoder_read ["self", "context"] pats_Decoder_read := ⟨_, _, _, _, F16, ⟨a16, b16, k16⟩, (all_consQ (Bnd.all fun us ws vs zs l1 l2 r rz => by
      obtain ⟨u0, u1, rfl⟩ := len2 (r.length.symm.trans l1)
      obtain rfl := len0 (rz.length.symm.trans l2)
      cases r with | cons r0 r =>
        cases r with | cons r1 r =>
          cases r
          cases rz
          exact ⟨[u0, u1], rfl, (.cons r0 (.cons r1 .nil))⟩) all_nilQ)⟩
  have F17 : FunD K "probability" "Encoder.probability" (defArgs s_Encoder_probability) (defBody s_Encoder_probability) (defScope s_Encoder_probability) [] [] f17 _ := ⟨⟨_, _, _, _, _, _, _, _, _, _, rfl, l17, c17, .inl ⟨rfl, rfl⟩, .inl rfl⟩, k17⟩
  have D_17 : MethX K CEncoder "Encoder.probability" "probability" s_Encoder_probability ["self", "context"] pats_Encoder_probability := ⟨_, _, _, _, F17, ⟨a17, b17, k17⟩, (all_consQ (Bnd.all fun us ws vs zs l1 l2 r rz => by
      obtain ⟨u0, u1, rfl⟩ := len2 (r.length.symm.trans l1)
      obtain rfl := len0 (rz.length.symm.trans l2)
      cases r with | cons r0 r =>
        cases r with | cons r1 r =>
          cases r
          cases rz
          exact ⟨[u0, u1], rfl, (.cons r0 (.cons r1 .nil))⟩) all_nilQ)⟩
  have F18 : FunD K "probability" "Decoder.probability" (defArgs s_Decoder_probability) (defBody s_Decoder_probability) (defScope s_Decoder_probability) [] [] f18 _ := ⟨⟨_, _, _, _, _, _, _, _, _, _, rfl, l18, c18, .inl ⟨rfl, rfl⟩, .inl rfl⟩, k18⟩
  have D_18 : MethX K CDecoder "Decoder.probability" "probability" s_Decoder_probability ["self", "context"] pats_Decoder_probability := ⟨_, _, _, _, F18, ⟨a18, b18, k18⟩, (all_consQ (Bnd.all fun us ws vs zs l1 l2 r rz => by
      obtain ⟨u0, u1, rfl⟩ := len2 (r.length.symm.trans l1)
      obtain rfl := len0 (rz.length.symm.trans l2)
      cases r with | cons r0 r =>
        cases r with | cons r1 r =>
          cases r
          cases rz
          exact ⟨[u0, u1], rfl, (.cons r0 (.cons r1 .nil))⟩) all_nilQ)⟩
  have F19 : FunD K "_law_bad_read" "_law_bad_read" (defArgs s__law_bad_read) (defBody s__law_bad_read) (defScope s__law_bad_read) [] [] f19 _ := ⟨⟨_, _, _, _, _, _, _, _, _, _, rfl, l19, c19, .inl ⟨rfl, rfl⟩, .inl rfl⟩, k19⟩
  have D_19 : DefX K mg "_law_bad_read" s__law_bad_read ["decoder", "context"] pats__law_bad_read := ⟨_, _, _, _, F19, PySem.W.mg_of X G a19, (all_consQ (Bnd.all fun us ws vs zs l1 l2 r rz => by
      obtain ⟨u0, u1, rfl⟩ := len2 (r.length.symm.trans l1)
      obtain rfl := len0 (rz.length.symm.trans l2)
      cases r with | cons r0 r =>
        cases r with | cons r1 r =>
          cases r
          cases rz
          exact ⟨[u0, u1], rfl, (.cons r0 (.cons r1 .nil))⟩) all_nilQ)⟩
  have F20 : FunD K "_law_bad_code" "_law_bad_code" (defArgs s__law_bad_code) (defBody s__law_bad_code) (defScope s__law_bad_code) [] [] f20 _ := ⟨⟨_, _, _, _, _, _, _, _, _, _, rfl, l20, c20, .inl ⟨rfl, rfl⟩, .inl rfl⟩, k20⟩
  have D_20 : DefX K mg "_law_bad_code" s__law_bad_code ["encoder", "context", "decision"] pats__law_bad_code := ⟨_, _, _, _, F20, PySem.W.mg_of X G a20, (all_consQ (Bnd.all fun us ws vs zs l1 l2 r rz => by
      obtain ⟨u0, u1, u2, rfl⟩ := len3 (r.length.symm.trans l1)
      obtain rfl := len0 (rz.length.symm.trans l2)
      cases r with | cons r0 r =>
        cases r with | cons r1 r =>
          cases r with | cons r2 r =>
            cases r
            cases rz
            exact ⟨[u0, u1, u2], rfl, (.cons r0 (.cons r1 (.cons r2 .nil)))⟩) all_nilQ)⟩
  have F21 : FunD K "read_even" "Decoder.read_even" (defArgs s_Decoder_read_even) (defBody s_Decoder_read_even) (defScope s_Decoder_read_even) [] [] f21 _ := ⟨⟨_, _, _, _, _, _, _, _, _, _, rfl, l21, c21, .inl ⟨rfl, rfl⟩, .inl rfl⟩, k21⟩
  have D_21 : MethX K CDecoder "Decoder.read_even" "read_even" s_Decoder_read_even ["self"] pats_Decoder_read_even := ⟨_, _, _, _, F21, ⟨a21, b21, k21⟩, (all_consQ (Bnd.all fun us ws vs zs l1 l2 r rz => by
      obtain ⟨u0, rfl⟩ := len1 (r.length.symm.trans l1)
      obtain rfl := len0 (rz.length.symm.trans l2)
      cases r with | cons r0 r =>
        cases r
        cases rz
        exact ⟨[u0], rfl, (.cons r0 .nil)⟩) all_nilQ)⟩
  have F22 := fun_mk (st := s_law) l22 c22 k22
  have R__law_draws : ∀ base : Heap, CalX l.prog w K mg base 1 "_law_draws" (sp__law_draws K ⟨CEncoder, CDecoder, XCodecError, XOutOfRange, XBadOctets, fa⟩) pats__law_draws := fun base => ok__law_draws D_0 T 
  have R__law_items : ∀ base : Heap, CalX l.prog w K mg base 2 "_law_items" (sp__law_items K ⟨CEncoder, CDecoder, XCodecError, XOutOfRange, XBadOctets, fa⟩) pats__law_items := fun base => ok__law_items D_1 T (R__law_draws base)
  have R_Encoder___init__ : ∀ base : Heap, MakX l.prog w K mg base 1 "Encoder" (⟨CEncoder, CDecoder, XCodecError, XOutOfRange, XBadOctets, fa⟩ : Ads).c_Encoder (sp_Encoder___init__ K ⟨CEncoder, CDecoder, XCodecError, XOutOfRange, XBadOctets, fa⟩) pats_Encoder___init__ := fun base => ok_Encoder___init__ D_2 T 
  have R__check_context : ∀ base : Heap, CalX l.prog w K mg base 1 "_check_context" (sp__check_context K ⟨CEncoder, CDecoder, XCodecError, XOutOfRange, XBadOctets, fa⟩) pats__check_context := fun base => ok__check_context D_3 T 
  have R__check_decision : ∀ base : Heap, CalX l.prog w K mg base 1 "_check_decision" (sp__check_decision K ⟨CEncoder, CDecoder, XCodecError, XOutOfRange, XBadOctets, fa⟩) pats__check_decision := fun base => ok__check_decision D_4 T 
  have R__adapted : ∀ base : Heap, CalX l.prog w K mg base 1 "_adapted" (sp__adapted K ⟨CEncoder, CDecoder, XCodecError, XOutOfRange, XBadOctets, fa⟩) pats__adapted := fun base => ok__adapted D_5 T 
  have R_Encoder__carry : ∀ base : Heap, MetX l.prog w K mg base 1 (⟨CEncoder, CDecoder, XCodecError, XOutOfRange, XBadOctets, fa⟩ : Ads).c_Encoder "_carry" (sp_Encoder__carry K ⟨CEncoder, CDecoder, XCodecError, XOutOfRange, XBadOctets, fa⟩) pats_Encoder__carry := fun base => ok_Encoder__carry D_6 T 
  have R_Encoder__narrow : ∀ base : Heap, MetX l.prog w K mg base 2 (⟨CEncoder, CDecoder, XCodecError, XOutOfRange, XBadOctets, fa⟩ : Ads).c_Encoder "_narrow" (sp_Encoder__narrow K ⟨CEncoder, CDecoder, XCodecError, XOutOfRange, XBadOctets, fa⟩) pats_Encoder__narrow := fun base => ok_Encoder__narrow D_7 T (R_Encoder__carry base)
  have R_Encoder_code : ∀ base : Heap, MetX l.prog w K mg base 3 (⟨CEncoder, CDecoder, XCodecError, XOutOfRange, XBadOctets, fa⟩ : Ads).c_Encoder "code" (sp_Encoder_code K ⟨CEncoder, CDecoder, XCodecError, XOutOfRange, XBadOctets, fa⟩) pats_Encoder_code := fun base => ok_Encoder_code D_8 T (R__check_context base) (R__check_decision base) (R_Encoder__narrow base) (R__adapted base)
  have R_Encoder_code_even : ∀ base : Heap, MetX l.prog w K mg base 3 (⟨CEncoder, CDecoder, XCodecError, XOutOfRange, XBadOctets, fa⟩ : Ads).c_Encoder "code_even" (sp_Encoder_code_even K ⟨CEncoder, CDecoder, XCodecError, XOutOfRange, XBadOctets, fa⟩) pats_Encoder_code_even := fun base => ok_Encoder_code_even D_9 T (R__check_decision base) (R_Encoder__narrow base)
  have R__law_code_items : ∀ base : Heap, CalX l.prog w K mg base 4 "_law_code_items" (sp__law_code_items K ⟨CEncoder, CDecoder, XCodecError, XOutOfRange, XBadOctets, fa⟩) pats__law_code_items := fun base => ok__law_code_items D_10 T (R_Encoder_code base) (R_Encoder_code_even base)
  have R_Decoder__shift : ∀ base : Heap, MetX l.prog w K mg base 1 (⟨CEncoder, CDecoder, XCodecError, XOutOfRange, XBadOctets, fa⟩ : Ads).c_Decoder "_shift" (sp_Decoder__shift K ⟨CEncoder, CDecoder, XCodecError, XOutOfRange, XBadOctets, fa⟩) pats_Decoder__shift := fun base => ok_Decoder__shift D_11 T 
  have R_Decoder___init__ : ∀ base : Heap, MakX l.prog w K mg base 2 "Decoder" (⟨CEncoder, CDecoder, XCodecError, XOutOfRange, XBadOctets, fa⟩ : Ads).c_Decoder (sp_Decoder___init__ K ⟨CEncoder, CDecoder, XCodecError, XOutOfRange, XBadOctets, fa⟩) pats_Decoder___init__ := fun base => ok_Decoder___init__ D_12 T (R_Decoder__shift base)
  have R__law_cell : ∀ base : Heap, CalX l.prog w K mg base 1 "_law_cell" (sp__law_cell K ⟨CEncoder, CDecoder, XCodecError, XOutOfRange, XBadOctets, fa⟩) pats__law_cell := fun base => ok__law_cell D_13 T 
  have R_Encoder_octets : ∀ base : Heap, MetX l.prog w K mg base 1 (⟨CEncoder, CDecoder, XCodecError, XOutOfRange, XBadOctets, fa⟩ : Ads).c_Encoder "octets" (sp_Encoder_octets K ⟨CEncoder, CDecoder, XCodecError, XOutOfRange, XBadOctets, fa⟩) pats_Encoder_octets := fun base => ok_Encoder_octets D_14 T 
  have R_Decoder__decide : ∀ base : Heap, MetX l.prog w K mg base 2 (⟨CEncoder, CDecoder, XCodecError, XOutOfRange, XBadOctets, fa⟩ : Ads).c_Decoder "_decide" (sp_Decoder__decide K ⟨CEncoder, CDecoder, XCodecError, XOutOfRange, XBadOctets, fa⟩) pats_Decoder__decide := fun base => ok_Decoder__decide D_15 T (R_Decoder__shift base)
  have R_Decoder_read : ∀ base : Heap, MetX l.prog w K mg base 3 (⟨CEncoder, CDecoder, XCodecError, XOutOfRange, XBadOctets, fa⟩ : Ads).c_Decoder "read" (sp_Decoder_read K ⟨CEncoder, CDecoder, XCodecError, XOutOfRange, XBadOctets, fa⟩) pats_Decoder_read := fun base => ok_Decoder_read D_16 T (R__check_context base) (R_Decoder__decide base) (R__adapted base)
  have R_Encoder_probability : ∀ base : Heap, MetX l.prog w K mg base 2 (⟨CEncoder, CDecoder, XCodecError, XOutOfRange, XBadOctets, fa⟩ : Ads).c_Encoder "probability" (sp_Encoder_probability K ⟨CEncoder, CDecoder, XCodecError, XOutOfRange, XBadOctets, fa⟩) pats_Encoder_probability := fun base => ok_Encoder_probability D_17 T (R__check_context base)
  have R_Decoder_probability : ∀ base : Heap, MetX l.prog w K mg base 2 (⟨CEncoder, CDecoder, XCodecError, XOutOfRange, XBadOctets, fa⟩ : Ads).c_Decoder "probability" (sp_Decoder_probability K ⟨CEncoder, CDecoder, XCodecError, XOutOfRange, XBadOctets, fa⟩) pats_Decoder_probability := fun base => ok_Decoder_probability D_18 T (R__check_context base)
  have R__law_bad_read : ∀ base : Heap, CalX l.prog w K mg base 4 "_law_bad_read" (sp__law_bad_read K ⟨CEncoder, CDecoder, XCodecError, XOutOfRange, XBadOctets, fa⟩) pats__law_bad_read := fun base => ok__law_bad_read D_19 T (R_Decoder_read base) (R_Decoder_probability base)
  have R__law_bad_code : ∀ base : Heap, CalX l.prog w K mg base 4 "_law_bad_code" (sp__law_bad_code K ⟨CEncoder, CDecoder, XCodecError, XOutOfRange, XBadOctets, fa⟩) pats__law_bad_code := fun base => ok__law_bad_code D_20 T (R_Encoder_octets base) (R_Encoder_code base) (R_Encoder_code_even base) (R_Encoder_probability base)
  have R_Decoder_read_even : ∀ base : Heap, MetX l.prog w K mg base 3 (⟨CEncoder, CDecoder, XCodecError, XOutOfRange, XBadOctets, fa⟩ : Ads).c_Decoder "read_even" (sp_Decoder_read_even K ⟨CEncoder, CDecoder, XCodecError, XOutOfRange, XBadOctets, fa⟩) pats_Decoder_read_even := fun base => ok_Decoder_read_even D_21 T (R_Decoder__decide base)

  refine ⟨PySem.W.fnOf "law" "law" (defArgs s_law) (defBody s_law) (defScope s_law) .none kV22 dc22 pm22 an22 cd22 ct22, fun s v => .of_eq rfl, fun base _ _ => (ok_law (AD := ⟨CEncoder, CDecoder, XCodecError, XOutOfRange, XBadOctets, fa⟩) F22 T (R__law_draws base) (R__law_cell base) (R__law_items base) (R_Encoder___init__ base) (R__law_bad_code base) (R__law_code_items base) (R_Encoder_octets base) (R_Encoder_probability base) (R_Decoder___init__ base) (R__law_bad_read base) (R_Decoder_read base) (R_Decoder_read_even base) (R_Decoder_probability base)).imp ?_⟩
  rintro vs H Q E ⟨a, xs, rfl, hs, hl, q⟩
  exact ⟨a, xs, rfl, hs, by rw [law_true xs hl]; rfl, q⟩
theorem walk {l : PySem.W.OpenLaw} {q : Program} {loose : List Str} {XP : (Str → Option Value) → Heap → Prop} {YP : World → Heap → Prop} {d : DefRec} {K : Params → PySem.W.Frag} (hn : l.most = some 63) (hdf : d.params.defaults = [])
    (hY : ∀ (w : World) (h : Heap), YP w h → (K w.params).In h)
    (F : ∀ (w : World) (mg : Str → Option Value) (fa : Addr) (h : Heap), (K w.params).In h → h.Ns mainGlobals mg → mg d.name = some (.ref fa) →
      ∃ fd : FuncData, (∀ (s : Shared) (u : Value), BindsTo s fd ⟨[u], []⟩ [("script", u)]) ∧ ∀ base : Heap, (K w.params).In base → base.Ns mainGlobals mg → FnOk l.prog w (K w.params) mg base CX0 5 fa fd ["script"] (spL (K w.params))) :
    PySem.W.WalkO q loose XP YP l.row.toRowW d [] (fun f vs => PySem.call f vs) :=
  L2.walk_of (n := 63) (k := 5) (x := "script") (CX := fun _ => CX0) (sp := fun w => spL (K w.params)) hn (by decide) hdf ⟨rfl, by decide, by decide⟩ hY F (fun _ _ a ns hl _ hS => ⟨a, ns, rfl, hS, hl, fun _ => rfl⟩) fun _ _ _ _ _ z => z
end Vx
open PySem PySem.W PyProof.Rows
set_option maxRecDepth 100000 in
set_option maxHeartbeats 0 in
theorem PySem.Challenge.cw_thaumatrope_k15_coder_refuses_holds : PySem.Challenge.rw_thaumatrope_k15_coder_refuses.Holds := by
  w_on; o_law; k_head; (case hw => w_witness2)
  k_fill
  refine Vx.walk (l := PySem.Challenge.rw_thaumatrope_k15_coder_refuses) rfl rfl (fun w h Y => PySem.W.kIn_of Y) ?F
  case F =>
    intro w mg fa h KX G hmg
    refine' Vx.all_mk KX G hmg ?wEncoder ?wDecoder ?vCodecError ?vOutOfRange ?vBadOctets ?a0 ?l0 ?c0 ?k0 ?a1 ?l1 ?c1 ?k1 ?a2 ?b2 ?d2 ?e2 ?l2 ?c2 ?k2 ?a3 ?l3 ?c3 ?k3 ?a4 ?l4 ?c4 ?k4 ?a5 ?l5 ?c5 ?k5 ?a6 ?b6 ?l6 ?c6 ?k6 ?a7 ?b7 ?l7 ?c7 ?k7 ?a8 ?b8 ?l8 ?c8 ?k8 ?a9 ?b9 ?l9 ?c9 ?k9 ?a10 ?l10 ?c10 ?k10 ?a11 ?b11 ?l11 ?c11 ?k11 ?a12 ?b12 ?d12 ?e12 ?l12 ?c12 ?k12 ?a13 ?l13 ?c13 ?k13 ?a14 ?b14 ?l14 ?c14 ?k14 ?a15 ?b15 ?l15 ?c15 ?k15 ?a16 ?b16 ?l16 ?c16 ?k16 ?a17 ?b17 ?l17 ?c17 ?k17 ?a18 ?b18 ?l18 ?c18 ?k18 ?a19 ?l19 ?c19 ?k19 ?a20 ?l20 ?c20 ?k20 ?a21 ?b21 ?l21 ?c21 ?k21 ?a22 ?l22 ?c22 ?k22 ?z0 ?z1 ?z2 ?z3 ?z4 ?z5 ?z6 ?z7 ?z8 ?z9 ?z10 ?z11 ?z12 ?z13 ?yEncoder0 ?yEncoder1 ?yEncoder2 ?yEncoder3 ?xEncoder0 ?xEncoder1 ?xEncoder2 ?xEncoder3 ?yDecoder0 ?yDecoder1 ?yDecoder2 ?yDecoder3 ?xDecoder0 ?xDecoder1 ?xDecoder2 ?xDecoder3 ?xDecoder4 ?exOutOfRange ?ekOutOfRange ?ebOutOfRange ?etOutOfRange ?exCodecError ?ekCodecError ?ebCodecError ?etCodecError ?exBadOctets ?ekBadOctets ?ebBadOctets ?etBadOctets ?eiOutOfRangeOutOfRange ?esOutOfRangeOutOfRange ?eiOutOfRangeCodecError ?esOutOfRangeCodecError ?enOutOfRangeBadOctets ?ejOutOfRangeBadOctets ?etOutOfRangeBadOctets ?c1OutOfRange ?c2OutOfRange ?c3OutOfRange ?c4OutOfRange ?c5OutOfRange ?c6OutOfRange ?c7OutOfRange
    (case wEncoder => k_is)
    (case wDecoder => k_is)
    (case vCodecError => k_is)
    (case vOutOfRange => k_is)
    (case vBadOctets => k_is)
    (case a0 => k_is)
    (case l0 => k_is)
    (case c0 => k_is)
    (case k0 => k_is)
    (case a1 => k_is)
    (case l1 => k_is)
    (case c1 => k_is)
    (case k1 => k_is)
    (case a2 => k_is)
    (case b2 => k_is)
    (case d2 => k_is)
    (case e2 => k_is)
    (case l2 => k_is)
    (case c2 => k_is)
    (case k2 => k_is)
    (case a3 => k_is)
    (case l3 => k_is)
    (case c3 => k_is)
    (case k3 => k_is)
    (case a4 => k_is)
    (case l4 => k_is)
    (case c4 => k_is)
    (case k4 => k_is)
    (case a5 => k_is)
    (case l5 => k_is)
    (case c5 => k_is)
    (case k5 => k_is)
    (case a6 => k_is)
    (case b6 => k_is)
    (case l6 => k_is)
    (case c6 => k_is)
    (case k6 => k_is)
    (case a7 => k_is)
    (case b7 => k_is)
    (case l7 => k_is)
    (case c7 => k_is)
    (case k7 => k_is)
    (case a8 => k_is)
    (case b8 => k_is)
    (case l8 => k_is)
    (case c8 => k_is)
    (case k8 => k_is)
    (case a9 => k_is)
    (case b9 => k_is)
    (case l9 => k_is)
    (case c9 => k_is)
    (case k9 => k_is)
    (case a10 => k_is)
    (case l10 => k_is)
    (case c10 => k_is)
    (case k10 => k_is)
    (case a11 => k_is)
    (case b11 => k_is)
    (case l11 => k_is)
    (case c11 => k_is)
    (case k11 => k_is)
    (case a12 => k_is)
    (case b12 => k_is)
    (case d12 => k_is)
    (case e12 => k_is)
    (case l12 => k_is)
    (case c12 => k_is)
    (case k12 => k_is)
    (case a13 => k_is)
    (case l13 => k_is)
    (case c13 => k_is)
    (case k13 => k_is)
    (case a14 => k_is)
    (case b14 => k_is)
    (case l14 => k_is)
    (case c14 => k_is)
    (case k14 => k_is)
    (case a15 => k_is)
    (case b15 => k_is)
    (case l15 => k_is)
    (case c15 => k_is)
    (case k15 => k_is)
    (case a16 => k_is)
    (case b16 => k_is)
    (case l16 => k_is)
    (case c16 => k_is)
    (case k16 => k_is)
    (case a17 => k_is)
    (case b17 => k_is)
    (case l17 => k_is)
    (case c17 => k_is)
    (case k17 => k_is)
    (case a18 => k_is)
    (case b18 => k_is)
    (case l18 => k_is)
    (case c18 => k_is)
    (case k18 => k_is)
    (case a19 => k_is)
    (case l19 => k_is)
    (case c19 => k_is)
    (case k19 => k_is)
    (case a20 => k_is)
    (case l20 => k_is)
    (case c20 => k_is)
    (case k20 => k_is)
    (case a21 => k_is)
    (case b21 => k_is)
    (case l21 => k_is)
    (case c21 => k_is)
    (case k21 => k_is)
    (case a22 => k_is)
    (case l22 => k_is)
    (case c22 => k_is)
    (case k22 => k_is)
    (case z0 => k_is)
    (case z1 => k_is)
    (case z2 => k_is)
    (case z3 => k_is)
    (case z4 => k_is)
    (case z5 => k_is)
    (case z6 => k_is)
    (case z7 => k_is)
    (case z8 => k_is)
    (case z9 => k_is)
    (case z10 => k_is)
    (case z11 => k_is)
    (case z12 => k_is)
    (case z13 => k_is)
    (case yEncoder0 => k_is)
    (case yEncoder1 => k_is)
    (case yEncoder2 => k_is)
    (case yEncoder3 => k_is)
    (case xEncoder0 => k_is)
    (case xEncoder1 => k_is)
    (case xEncoder2 => k_is)
    (case xEncoder3 => k_is)
    (case yDecoder0 => k_is)
    (case yDecoder1 => k_is)
    (case yDecoder2 => k_is)
    (case yDecoder3 => k_is)
    (case xDecoder0 => k_is)
    (case xDecoder1 => k_is)
    (case xDecoder2 => k_is)
    (case xDecoder3 => k_is)
    (case xDecoder4 => k_is)
    (case exOutOfRange => k_exc)
    (case ekOutOfRange => k_is)
    (case ebOutOfRange => k_is)
    (case etOutOfRange => k_is)
    (case exCodecError => k_exc)
    (case ekCodecError => k_is)
    (case ebCodecError => k_is)
    (case etCodecError => k_is)
    (case exBadOctets => k_exc)
    (case ekBadOctets => k_is)
    (case ebBadOctets => k_is)
    (case etBadOctets => k_is)
    (case eiOutOfRangeOutOfRange => k_is)
    (case esOutOfRangeOutOfRange => first | rfl | k_is)
    (case eiOutOfRangeCodecError => k_is)
    (case esOutOfRangeCodecError => first | rfl | k_is)
    (case enOutOfRangeBadOctets => rfl)
    (case ejOutOfRangeBadOctets => k_is)
    (case etOutOfRangeBadOctets => k_is)
    (case c1OutOfRange => k_is)
    (case c2OutOfRange => k_is)
    (case c3OutOfRange => k_is)
    (case c4OutOfRange => k_is)
    (case c5OutOfRange => k_is)
    (case c6OutOfRange => k_is)
    (case c7OutOfRange => k_is)
