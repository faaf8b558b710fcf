import PyProof.Rows.All
import Wide.All
import OpenK.AllK
import Wide.FinOn
import HandS.ForMost
import HandS.Codes
import HandS.Steps
import HandS.IsInst
import HandS.Property
import HandS.Wide
import HandS.WideBits
import HandS.Exc
import HandS.Defaults
import HandS.ExcOwn
import HandS.TryOnly
import HandS.WordsExc
import HandS.ExcIs
import HandS.MakeKwOnly
import HandS.RaiseMore
import HandS.Style
import HandS.Zip
import HandS.Iter
import HandS.Walk
import HandS.More
import HandS.SetFor
import HandS.Strs
import PySem.Challenge.RW_thaumatrope_k24_headers_refused
set_option Elab.async false
set_option linter.all false
set_option maxRecDepth 100000
set_option maxHeartbeats 8000000
namespace Vx
open PySem PySem.Spec PyProof.Rows L2

/-! ### heaps -/
def SameX (m : Addr) (H H' : Hp) : Prop := ∀ b o, H b = some o → b ≠ m → H' b = some o
theorem gen_new {H H' : Hp} {p : Addr} {o : HO} (n : H p = none) (h : upd H p o = H') : Same H H' ∧ H' p = some o := by
  subst h
  exact ⟨fun b u e => by rw [upd_ne (ne_of_none e n)]; exact e, upd_same⟩
theorem gen_mut {H H' : Hp} {m : Addr} {o : HO} (h : upd H m o = H') : SameX m H H' ∧ H' m = some o := by
  subst h
  exact ⟨fun b u e n => by rw [upd_ne n]; exact e, upd_same⟩
theorem same_mut {H0 H H' : Hp} {m : Addr} (B : Same H0 H) (x : SameX m H H') (f : H0 m = none) : Same H0 H' :=
  fun b o e => x b o (B b o e) (ne_of_none e f)
theorem map_get {xs : List Int} {i : Nat} {x : V} (h : (xs.map V.int)[i]? = some x) : ∃ o, xs[i]? = some o ∧ x = .int o := by
  rw [List.getElem?_map] at h
  cases e : xs[i]? with
  | none => rw [e] at h; cases h
  | some z => rw [e] at h; exact ⟨z, rfl, (Option.some.inj h).symm⟩
theorem get_len {α : Type} {xs : List α} {i : Nat} {x : α} (h : xs[i]? = some x) : i < xs.length := (List.getElem?_eq_some_iff.mp h).1
theorem eq_int {Q : VK} {H : Hp} {a b : Int} (h : Q (.int a) H) (e : a = b) : Q (.int b) H := e ▸ h
theorem eq_bl {Q : VK} {H : Hp} {a b : Bool} (h : Q (.bl a) H) (e : a = b) : Q (.bl b) H := e ▸ h
theorem small {n : Nat} (h : n ≤ 1000000) : n < sizeLine := Nat.lt_of_le_of_lt h (by decide)
theorem smallE {n : Nat} (h : n ≤ 1000000) : n ≤ sizeLine := Nat.le_of_lt (small h)
theorem snoc_int {xs : List Int} {y : Int} {H : Hp} {p : Addr} (h : H p = some (.lst (xs.map V.int ++ [V.int y]))) : H p = some (.lst ((xs ++ [y]).map V.int)) := by
  rw [List.map_append]; exact h
theorem cat_int {xs ys : List Int} {H : Hp} {p : Addr} (h : H p = some (.lst (xs.map V.int ++ ys.map V.int))) : H p = some (.lst ((xs ++ ys).map V.int)) := by
  rw [List.map_append]; exact h
theorem cast_lst {xs ys : List Int} {H : Hp} {p : Addr} (h : H p = some (.lst (xs.map V.int))) (e : xs = ys) : H p = some (.lst (ys.map V.int)) := e ▸ h

/-! ### tests -/
theorem dT {p : Prop} [Decidable p] (h : decide p = true) : p := of_decide_eq_true h
theorem dF {p : Prop} [Decidable p] (h : ¬ decide p = true) : ¬ p := fun x => h (decide_eq_true x)
theorem iteD {p A B : Prop} [Decidable p] (h1 : p → A) (h2 : ¬ p → B) : if decide p = true then A else B := by
  by_cases h : p
  · rw [if_pos (decide_eq_true h)]; exact h1 h
  · rw [if_neg (fun x => h (of_decide_eq_true x))]; exact h2 h
theorem iteN {p A B : Prop} [Decidable p] (h1 : ¬ p → A) (h2 : p → B) : if (!decide p) = true then A else B := by
  by_cases h : p
  · rw [decide_eq_true h]; exact iteF (h2 h)
  · rw [decide_eq_false h]; exact iteT (h1 h)
theorem iteB {b : Bool} {A B : Prop} (h1 : b = true → A) (h2 : b = false → B) : if b = true then A else B := by
  cases b with
  | true => exact iteT (h1 rfl)
  | false => exact iteF (h2 rfl)
theorem iteBN {b : Bool} {A B : Prop} (h1 : b = false → A) (h2 : b = true → B) : if (!b) = true then A else B := by
  cases b with
  | true => exact iteF (h2 rfl)
  | false => exact iteT (h1 rfl)
theorem iteDT {p A B : Prop} [Decidable p] (h : p) (k : A) : if decide p = true then A else B := by
  rw [if_pos (decide_eq_true h)]; exact k
theorem iteDF {p A B : Prop} [Decidable p] (h : ¬ p) (k : B) : if decide p = true then A else B := by
  rw [if_neg (fun x => h (of_decide_eq_true x))]; exact k
theorem iteNT {p A B : Prop} [Decidable p] (h : ¬ p) (k : A) : if (!decide p) = true then A else B := iteN (fun _ => k) (fun x => (h x).elim)
theorem iteNF {p A B : Prop} [Decidable p] (h : p) (k : B) : if (!decide p) = true then A else B := iteN (fun x => (x h).elim) (fun _ => k)

/-! ### equality of lists of ints -/
theorem eqvAll_ints : ∀ xs ys : List Int, PyData.eqvAll (xs.map PyData.int) (ys.map PyData.int) = decide (xs = ys)
  | [], [] => by simp [PyData.eqvAll]
  | [], y :: ys => by simp [PyData.eqvAll]
  | x :: xs, [] => by simp [PyData.eqvAll]
  | x :: xs, y :: ys => by
    have ih := eqvAll_ints xs ys
    simp only [List.map_cons, PyData.eqvAll, PyData.eqv, ih]
    by_cases h : x = y <;> by_cases h2 : xs = ys <;> simp [h, h2]
end Vx

namespace Vx
open PySem PySem.Spec PyProof.Rows L2
section
variable {X : Cx}
def rEqLi (K : PySem.W.Frag) : R2 := fun x y H Q => ∃ (a b : Addr) (xs ys : List Int), x = .ref a ∧ y = .ref b ∧ SqL K H a (xs.map V.int) ∧ SqL K H b (ys.map V.int) ∧ Q (.bl (decide (xs = ys))) H
def rNeLi (K : PySem.W.Frag) : R2 := fun x y H Q => ∃ (a b : Addr) (xs ys : List Int), x = .ref a ∧ y = .ref b ∧ SqL K H a (xs.map V.int) ∧ SqL K H b (ys.map V.int) ∧ Q (.bl (!decide (xs = ys))) H
theorem dpAll_ints {K : PySem.W.Frag} {H : Hp} : ∀ xs : List Int, DpAll K H (xs.map V.int) (xs.map PyData.int)
  | [] => .nil
  | x :: xs => .cons (.int x) (dpAll_ints xs)
theorem dp_ints {K : PySem.W.Frag} {H : Hp} {a : Addr} {xs : List Int} (h : SqL K H a (xs.map V.int)) : Dp K H (.ref a) (.list (xs.map PyData.int)) := .lst h (dpAll_ints xs)
theorem canLay_ints : ∀ xs : List Int, PyData.canLayAll0 (xs.map PyData.int) = true
  | [] => by simp [PyData.canLayAll0]
  | x :: xs => by simp [PyData.canLayAll0, PyData.canLay0, canLay_ints xs]
theorem depth_ints : ∀ xs : List Int, PyData.depthAll (xs.map PyData.int) = 0
  | [] => by simp [PyData.depthAll]
  | x :: xs => by simp [PyData.depthAll, PyData.depth, depth_ints xs]
theorem shaped_ints (xs : List Int) : SeqAt.shaped (.list (xs.map PyData.int)) = true := by
  unfold SeqAt.shaped
  simp [PyData.canLay0, canLay_ints, PyData.depth, depth_ints]
theorem eqv_ints (xs ys : List Int) : PyData.eqv (.list (xs.map PyData.int)) (.list (ys.map PyData.int)) = decide (xs = ys) := by
  simp only [PyData.eqv]
  exact eqvAll_ints xs ys
theorem op_eqLi (hu : X.A.units + 64 < cLine) : OpR X (compareOp .Eq) (rEqLi X.K) := by
  intro pins s σ H x y v u Q I rx ry h
  obtain ⟨a, b, xs, ys, rfl, rfl, h1, h2, q⟩ := h
  exact op_eqD hu pins s σ H _ _ v u Q I rx ry ⟨_, _, dp_ints h1, dp_ints h2, shaped_ints xs, shaped_ints ys, by rw [eqv_ints]; exact q⟩
theorem op_neLi (hu : X.A.units + 64 < cLine) : OpR X (compareOp .NotEq) (rNeLi X.K) := by
  intro pins s σ H x y v u Q I rx ry h
  obtain ⟨a, b, xs, ys, rfl, rfl, h1, h2, q⟩ := h
  exact op_neD hu pins s σ H _ _ v u Q I rx ry ⟨_, _, dp_ints h1, dp_ints h2, shaped_ints xs, shaped_ints ys, by rw [eqv_ints]; exact q⟩

/-! ### items, slices, repetition, comprehensions of ints -/
def itI (xs : List Int) (i : Int) : Int := (atI xs i).getD 0
theorem atI_int {xs : List Int} {i : Int} (h : -(xs.length : Int) ≤ i ∧ i < xs.length) : atI (xs.map V.int) i = some (.int (itI xs i)) := by
  unfold itI atI
  rw [List.length_map]
  have hk : ∃ j, ixN xs.length i = some j ∧ j < xs.length := by
    unfold ixN
    by_cases h0 : 0 ≤ i
    · refine ⟨i.toNat, ?_, by omega⟩
      rw [if_pos h0, if_pos h.2]
    · refine ⟨(i + xs.length).toNat, ?_, by omega⟩
      rw [if_neg h0, if_pos h.1]
  obtain ⟨j, e, hj⟩ := hk
  rw [e]
  show (xs.map V.int)[j]? = some (V.int ((xs[j]?).getD 0))
  rw [List.getElem?_map, List.getElem?_eq_getElem hj] <;> rfl
def cutI (xs : List Int) (lo hi : Option Int) : List Int := (xs.drop (HT.sIx xs.length 0 lo)).take (HT.sIx xs.length xs.length hi - HT.sIx xs.length 0 lo)
theorem cut_int {xs : List Int} {lo hi : Option Int} {H : Hp} {p : Addr} (h : H p = some (.lst (cutV (xs.map V.int) lo hi))) : H p = some (.lst ((cutI xs lo hi).map V.int)) := by
  rw [h]
  unfold cutV cutI
  rw [List.length_map, List.map_take, List.map_drop]
def rep (xs : List Int) (k : Int) : List Int := (List.replicate k.toNat xs).flatten
theorem rep_int {xs : List Int} {k : Int} {H : Hp} {p : Addr} (h : H p = some (.lst (List.replicate k.toNat (xs.map V.int)).flatten)) : H p = some (.lst ((rep xs k).map V.int)) := by
  rw [h]
  unfold rep
  rw [List.map_flatten, List.map_replicate]
theorem divW_lit {i j : Int} (h : 0 < j) (h2 : j.natAbs.log2 < 9000) : CDivW i j := ⟨h, h2⟩
theorem divW_small {i j : Int} (h : 0 < j) (h2 : j < 2 ^ 128) : CDivW i j := wide_div h (show j.natAbs < 2 ^ 128 by omega) (by decide) (by decide)
theorem comp_list {xs : List Int} {i : Nat} {x y : Int} {f : Int → Int} {H : Hp} {D : Addr} (hi : xs[i]? = some x) (h : H D = some (.lst (((xs.take i).map f).map V.int ++ [V.int y]))) (e : f x = y) : H D = some (.lst (((xs.take (i + 1)).map f).map V.int)) := by
  rw [h, ← e, List.take_succ, hi, List.map_append, List.map_append] <;> rfl
theorem comp_done {xs : List Int} {f : Int → Int} {H : Hp} {D : Addr} (h : H D = some (.lst (((xs.take (xs.map V.int).length).map f).map V.int))) : H D = some (.lst ((xs.map f).map V.int)) := by
  rw [List.length_map, List.take_length] at h
  exact h
theorem comp_range {i : Nat} {y : Int} {f : Nat → Int} {H : Hp} {D : Addr} (h : H D = some (.lst (((List.range i).map f).map V.int ++ [V.int y]))) (e : f i = y) : H D = some (.lst (((List.range (i + 1)).map f).map V.int)) := by
  rw [h, ← e, List.range_succ, List.map_append, List.map_append] <;> rfl
theorem iteBT {b : Bool} {A B : Prop} (h : b = true) (k : A) : if b = true then A else B := by rw [if_pos h]; exact k
theorem iteBF {b : Bool} {A B : Prop} (h : b = false) (k : B) : if b = true then A else B := by rw [if_neg (by rw [h]; decide)]; exact k
theorem take_succ_get {α : Type} {xs : List α} {i : Nat} {x : α} (hi : xs[i]? = some x) : xs.take (i + 1) = xs.take i ++ [x] := by rw [List.take_succ, hi] <;> rfl
end

/-! ### defs of the module, as callers see them -/
section
variable {P : Program} {w : World} {K : PySem.W.Frag} {mg : Str → Option Value} {base : Heap}
structure DefIn (K : PySem.W.Frag) (mg : Str → Option Value) (x : Str) (st : Stmt) (ps : List Str) : Prop where
  ex : ∃ (f : Addr) (fd : FuncData), Fun K x x st f fd ∧ mg x = some (.ref f) ∧ Binds K fd ps []
structure Cal (P : Program) (w : World) (K : PySem.W.Frag) (mg : Str → Option Value) (base : Heap) (k : Nat) (x : Str) (sp : Sp) : Prop where
  ex : ∃ (f : Addr) (fd : FuncData) (ps : List Str), FnOk P w K mg base CX0 k f fd ps sp ∧ mg x = some (.ref f) ∧ PySem.W.keepIn K (.ref f) = true ∧ Binds K fd ps []
theorem DefIn.ok {x : Str} {st : Stmt} {N ps : List Str} {k : Nat} {sp : Sp} (D : DefIn K mg x st ps) (S : FnScope N ps (defScope st)) (len : ∀ vs H Q E, sp vs H Q E → vs.length = ps.length)
    (hbody : ∀ (f : Addr) (cdv : Value) (A : Around) (outer : List Env) (s : Shared) (H : Hp) (vs : List V) (Q : VK) (E : XK), Room k (A.deeper (envOfC x (defScope st) s.heap.objs.size f cdv)) → sp vs H Q E →
      ∃ t, PSs (cxOf CX0 P w K mg base N x (defScope st) f cdv A outer s H E).nox (defBody st) t ∧ t { nx := fun _ H' => Q .non H', rt := Q } (start N vs) H) : Cal P w K mg base (k + 1) x sp := by
  obtain ⟨f, fd, F, hm, b⟩ := D.ex
  exact ⟨f, fd, ps, F.ok S len (fun cdv A outer s H vs Q E hr h => hbody f cdv A outer s H vs Q E hr h), hm, F.kp, b⟩
end
section
variable {X : Cx} {k j : Nat} {x : Str} {sp : Sp} {p pos : Pos} {e : Expr} {es : List Expr} {t : TA}
theorem vx_call (c : Cal X.prog X.w X.K X.mg X.base k x sp) (hr : Room j X.A) (hk : k ≤ j) (hg : Gl X x) (ha : PA X (e :: es) t)
    (hdb : (x == ("__debug__" : Str)) = false := by decide) (he : starEach (e :: es) X.env = (false, eval e X.env) :: starEach es X.env := by rfl) (hpl : (backTo pos (starEach es X.env)).any (·.1) = false := by rfl) :
    PE X (.Call (.Name x p) (e :: es) [] pos) (tCall sp [] E0 t) := by
  obtain ⟨f, fd, ps, F, hm, kp, b⟩ := c.ex
  exact pe_call F (hr.mono hk) hg hm kp b .nil pass0 ha hdb he hpl
end
end Vx

namespace Vx
open PySem PySem.Spec PyProof.Rows L2
section
variable {σ : L2.St} {H : Hp} {ta tb : TE} {x y z : V} {t : TT}
theorem vv_and {a b : Bool} (h1 : Val ta σ H (.bl a)) (h2 : Val tb σ H (.bl b)) : Val (tAndV ta tb) σ H (.bl (a && b)) := fun Q q => h1 _ ⟨a, rfl, by
  cases a with
  | true => exact iteT (h2 Q q)
  | false => exact iteF q⟩
theorem vv_or {a b : Bool} (h1 : Val ta σ H (.bl a)) (h2 : Val tb σ H (.bl b)) : Val (tOrV ta tb) σ H (.bl (a || b)) := fun Q q => h1 _ ⟨a, rfl, by
  cases a with
  | true => exact iteT q
  | false => exact iteF (h2 Q q)⟩
theorem vv_not {a : Bool} (h1 : Val ta σ H (.bl a)) : Val (tNotV ta) σ H (.bl (!a)) := fun Q q => h1 _ ⟨a, rfl, q⟩
theorem vv_un {r : V → Hp → VK → Prop} (ha : Val ta σ H x) (hr : ∀ Q : VK, Q z H → r x H Q) : Val (tUn r ta) σ H z := fun Q q => ha _ (hr Q q)
theorem vv_cmp {p : Int → Int → Bool} (ha : Val ta σ H x) (hb : Val tb σ H y) (hr : ∀ Q : VK, Q z H → ∃ i j, x = .int i ∧ y = .int j ∧ Q (.bl (p i j)) H) : Val (tCmp p ta tb) σ H z := fun Q q => ha _ (hb _ (hr Q q))
theorem vv_call1 {r : List V → Hp → VK → Prop} (ha : Val ta σ H x) (hr : ∀ Q : VK, Q z H → r [x] H Q) : Val (tCB r (tCons ta tNil)) σ H z := fun Q q => ha _ (hr Q q)
theorem vt_cmp {b : Bool} (h : Val ta σ H (.bl b)) : Ans (tB ta) σ H b := fun Q q => h _ ⟨b, rfl, q⟩
theorem vt_val {b : Bool} (h : Val ta σ H (.bl b)) : Ans (tB ta) σ H b := fun Q q => h _ ⟨b, rfl, q⟩
theorem vt_int {i : Int} {K : PySem.W.Frag} (h : Val ta σ H (.int i)) : Ans (fun σ H Q => ta σ H fun x H' => ∃ k, TruV K x H' k ∧ Q k H') σ H (i != 0) := fun Q q => h _ ⟨_, rfl, q⟩
theorem vv_if {p : Prop} [Decidable p] {a b : Int} (ht : Ans t σ H (decide p)) (hx : Val ta σ H (.int a)) (hy : Val tb σ H (.int b)) : Val (tIf t ta tb) σ H (.int (if p then a else b)) := fun Q q => ht _ (by
  by_cases h : p
  · rw [if_pos h] at q; exact iteDT h (hx Q q)
  · rw [if_neg h] at q; exact iteDF h (hy Q q))
theorem vv_ifb {c : Bool} {a b : Int} (ht : Ans t σ H c) (hx : Val ta σ H (.int a)) (hy : Val tb σ H (.int b)) : Val (tIf t ta tb) σ H (.int (if c = true then a else b)) := fun Q q => ht _ (by
  cases c with
  | true => exact iteT (hx Q q)
  | false => exact iteF (hy Q q))
end
end Vx

namespace Vx
open PySem PySem.Spec PyProof.Rows L2
def rLenLi (K : PySem.W.Frag) : List V → Hp → VK → Prop := fun xs H Q => ∃ (p : Addr) (ns : List Int), xs = [.ref p] ∧ SqL K H p (ns.map V.int) ∧ Q (.int (ns.length : Int)) H
theorem call_lenLi {X : Cx} : CallR X (.builtin "len") (rLenLi X.K) := by
  intro pins s σ H xs us Q I r h
  obtain ⟨p, ns, rfl, hs, q⟩ := h
  exact call_len_seq pins s σ H _ us Q I r ⟨p, _, rfl, Or.inl hs, by rw [List.length_map]; exact q⟩
end Vx

namespace Vx
open PySem PySem.Spec PyProof.Rows L2
section
variable {X : Cx} {K : PySem.W.Frag}
theorem ix_listK (hK : X.K = K := by rfl) : IxR X (rIxL K) := hK ▸ ix_list
theorem sl_listK (hK : X.K = K := by rfl) : SlR X (rSlL K) := hK ▸ sl_list
theorem call_lenLiK (hK : X.K = K := by rfl) : CallR X (.builtin "len") (rLenLi K) := hK ▸ call_lenLi
theorem op_eqLiK (hu : X.A.units + 64 < cLine) (hK : X.K = K := by rfl) : OpR X (compareOp .Eq) (rEqLi K) := hK ▸ op_eqLi hu
theorem op_neLiK (hu : X.A.units + 64 < cLine) (hK : X.K = K := by rfl) : OpR X (compareOp .NotEq) (rNeLi K) := hK ▸ op_neLi hu
theorem pi_listK {tg l : Expr} {tl : TE} (hl : PE X l tl) (hK : X.K = K := by rfl) : PI X tg l (iList K tl) := hK ▸ pi_list hl
theorem cr_sumK (hc : X.calm = true) (hK : X.K = K := by rfl) : CallR X (.builtin "sum") (rSum K) := hK ▸ cr_sum hc
theorem cr_maxK (hc : X.calm = true) (hK : X.K = K := by rfl) : CallR X (.builtin "max") (rMax K) := hK ▸ cr_max hc
theorem cr_minK (hc : X.calm = true) (hK : X.K = K := by rfl) : CallR X (.builtin "min") (rMin K) := hK ▸ cr_min hc
end
end Vx

namespace Vx
open PySem PySem.Spec PyProof.Rows L2
theorem tyes_go {σ : L2.St} {H : Hp} {f g : Hp → Prop} (h : f H) : tYes σ H (fun b H3 => if b = true then f H3 else g H3) := by
  show if true = true then f H else g H
  exact iteT h
end Vx

/-! # second part: data of any depth, the stable heap G, the owned addresses O -/
namespace Vx
open PySem PySem.Spec PyProof.Rows L2
mutual
inductive Rp (H : Hp) : V → PyData → Prop
  | non : Rp H .non .none
  | bl (b : Bool) : Rp H (.bl b) (.bool b)
  | int (i : Int) : Rp H (.int i) (.int i)
  | str (x : Str) : Rp H (.str x) (.str x)
  | lst {a : Addr} {xs : List V} {ds : List PyData} : H a = some (.lst xs) → RpAll H xs ds → Rp H (.ref a) (.list ds)
  | tup {a : Addr} {xs : List V} {ds : List PyData} : H a = some (.tup xs) → RpAll H xs ds → Rp H (.ref a) (.tuple ds)
inductive RpAll (H : Hp) : List V → List PyData → Prop
  | nil : RpAll H [] []
  | cons {v : V} {vs : List V} {d : PyData} {ds : List PyData} : Rp H v d → RpAll H vs ds → RpAll H (v :: vs) (d :: ds)
end
mutual
theorem Rp.mono {H H' : Hp} (e : Same H H') : ∀ {v : V} {d : PyData}, Rp H v d → Rp H' v d
  | _, _, .non => .non
  | _, _, .bl b => .bl b
  | _, _, .int i => .int i
  | _, _, .str x => .str x
  | _, _, .lst h r => .lst (e _ _ h) (RpAll.mono e r)
  | _, _, .tup h r => .tup (e _ _ h) (RpAll.mono e r)
theorem RpAll.mono {H H' : Hp} (e : Same H H') : ∀ {vs : List V} {ds : List PyData}, RpAll H vs ds → RpAll H' vs ds
  | _, _, .nil => .nil
  | _, _, .cons a b => .cons (Rp.mono e a) (RpAll.mono e b)
end
mutual
theorem Rp.dp {K : PySem.W.Frag} {H : Hp} : ∀ {v : V} {d : PyData}, Rp H v d → Dp K H v d
  | _, _, .non => .non
  | _, _, .bl b => .bl b
  | _, _, .int i => .int i
  | _, _, .str x => .str x
  | _, _, .lst h r => .lst (SqL.of h) (RpAll.dp r)
  | _, _, .tup h r => .tup (SqT.of h) (RpAll.dp r)
theorem RpAll.dp {K : PySem.W.Frag} {H : Hp} : ∀ {vs : List V} {ds : List PyData}, RpAll H vs ds → DpAll K H vs ds
  | _, _, .nil => .nil
  | _, _, .cons a b => .cons (Rp.dp a) (RpAll.dp b)
end
theorem RpAll.append {H : Hp} : ∀ {xs ys : List V} {ds es : List PyData}, RpAll H xs ds → RpAll H ys es → RpAll H (xs ++ ys) (ds ++ es)
  | _, _, _, _, .nil, s => s
  | _, _, _, _, .cons r t, s => .cons r (RpAll.append t s)
theorem RpAll.ints {H : Hp} : ∀ xs : List Int, RpAll H (xs.map V.int) (xs.map PyData.int)
  | [] => .nil
  | x :: xs => .cons (.int x) (RpAll.ints xs)
theorem RpAll.bls {H : Hp} : ∀ xs : List Bool, RpAll H (xs.map V.bl) (xs.map PyData.bool)
  | [] => .nil
  | x :: xs => .cons (.bl x) (RpAll.bls xs)
theorem RpAll.one {H : Hp} {v : V} {d : PyData} (h : Rp H v d) : RpAll H [v] [d] := .cons h .nil
theorem RpAll.len {H : Hp} : ∀ {vs : List V} {ds : List PyData}, RpAll H vs ds → vs.length = ds.length
  | _, _, .nil => rfl
  | _, _, .cons _ t => by rw [List.length_cons, List.length_cons, RpAll.len t]
theorem RpAll.at {H : Hp} : ∀ {vs : List V} {ds : List PyData} {i : Nat} {v : V}, RpAll H vs ds → vs[i]? = some v → ∃ d, ds[i]? = some d ∧ Rp H v d
  | _, _, _, _, .nil, h => by simp at h
  | _, _, 0, _, .cons r _, h => by
    simp at h
    subst h
    exact ⟨_, rfl, r⟩
  | _, _, i + 1, _, .cons _ t, h => by
    obtain ⟨d, h1, h2⟩ := RpAll.at (i := i) t (by simpa using h)
    exact ⟨d, by simpa using h1, h2⟩
theorem RpAll.at' {H : Hp} : ∀ {vs : List V} {ds : List PyData} {i : Nat} {d : PyData}, RpAll H vs ds → ds[i]? = some d → ∃ v, vs[i]? = some v ∧ Rp H v d
  | _, _, _, _, .nil, h => by simp at h
  | _, _, 0, _, .cons r _, h => by
    simp at h
    subst h
    exact ⟨_, rfl, r⟩
  | _, _, i + 1, _, .cons _ t, h => by
    obtain ⟨v, h1, h2⟩ := RpAll.at' (i := i) t (by simpa using h)
    exact ⟨v, by simpa using h1, h2⟩
theorem RpAll.take {H : Hp} : ∀ (n : Nat) {vs : List V} {ds : List PyData}, RpAll H vs ds → RpAll H (vs.take n) (ds.take n)
  | 0, _, _, _ => by simpa using RpAll.nil
  | n + 1, _, _, .nil => by simpa using RpAll.nil
  | n + 1, _, _, .cons r t => .cons r (RpAll.take n t)
theorem RpAll.drop {H : Hp} : ∀ (n : Nat) {vs : List V} {ds : List PyData}, RpAll H vs ds → RpAll H (vs.drop n) (ds.drop n)
  | 0, _, _, r => r
  | n + 1, _, _, .nil => by simpa using RpAll.nil
  | n + 1, _, _, .cons r t => RpAll.drop n t
theorem RpAll.set {H : Hp} {v : V} {d : PyData} (h : Rp H v d) : ∀ (n : Nat) {vs : List V} {ds : List PyData}, RpAll H vs ds → RpAll H (vs.set n v) (ds.set n d)
  | _, _, _, .nil => .nil
  | 0, _, _, .cons _ t => .cons h t
  | n + 1, _, _, .cons r t => .cons r (RpAll.set h n t)
theorem RpAll.rep {H : Hp} {vs : List V} {ds : List PyData} (h : RpAll H vs ds) : ∀ n : Nat, RpAll H (List.replicate n vs).flatten (List.replicate n ds).flatten
  | 0 => by simpa using RpAll.nil
  | n + 1 => by
    rw [List.replicate_succ, List.flatten_cons, List.replicate_succ, List.flatten_cons]
    exact RpAll.append h (RpAll.rep h n)
theorem RpAll.get {α : Type} {f : α → PyData} {H : Hp} {vs : List V} {xs : List α} {i : Nat} {v : V} (r : RpAll H vs (xs.map f)) (h : vs[i]? = some v) : ∃ x, xs[i]? = some x ∧ Rp H v (f x) := by
  obtain ⟨d, h1, h2⟩ := RpAll.at r h
  rw [List.getElem?_map] at h1
  cases e : xs[i]? with
  | none => rw [e] at h1; cases h1
  | some x =>
    rw [e] at h1
    have : f x = d := Option.some.inj h1
    exact ⟨x, rfl, this ▸ h2⟩
/-- the item at an index, data -/
theorem RpAll.ix {α : Type} {f : α → PyData} {H : Hp} {vs : List V} {xs : List α} {k : Int} (r : RpAll H vs (xs.map f)) (h : -(xs.length : Int) ≤ k ∧ k < xs.length) : ∃ v x, atI vs k = some v ∧ atI xs k = some x ∧ Rp H v (f x) := by
  have hl : vs.length = xs.length := by rw [r.len, List.length_map]
  have hk : ∃ j, ixN xs.length k = some j ∧ j < xs.length := by
    unfold ixN
    by_cases h0 : 0 ≤ k
    · refine ⟨k.toNat, ?_, by omega⟩
      rw [if_pos h0, if_pos h.2]
    · refine ⟨(k + xs.length).toNat, ?_, by omega⟩
      rw [if_neg h0, if_pos h.1]
  obtain ⟨j, e, hj⟩ := hk
  have hx := List.getElem?_eq_getElem hj
  obtain ⟨v, h1, h2⟩ := RpAll.at' (i := j) (d := f xs[j]) r (by rw [List.getElem?_map, hx] <;> rfl)
  refine ⟨v, xs[j], ?_, ?_, h2⟩
  · unfold atI
    rw [hl, e]
    exact h1
  · unfold atI
    rw [e]
    exact hx

/-! ### types -/
def encL {α : Type} (f : α → PyData) (xs : List α) : PyData := .list (xs.map f)
def encT2 {α β : Type} (f : α → PyData) (g : β → PyData) (p : α × β) : PyData := .tuple [f p.1, g p.2]
def encT3 {α β γ : Type} (f : α → PyData) (g : β → PyData) (h : γ → PyData) (p : α × β × γ) : PyData := .tuple [f p.1, g p.2.1, h p.2.2]
def encT4 {α β γ δ : Type} (f : α → PyData) (g : β → PyData) (h : γ → PyData) (i : δ → PyData) (p : α × β × γ × δ) : PyData := .tuple [f p.1, g p.2.1, h p.2.2.1, i p.2.2.2]
structure EncOk {α : Type} [DecidableEq α] (n : Nat) (f : α → PyData) : Prop where
  lay : ∀ x, PyData.canLay0 (f x) = true
  dep : ∀ x, PyData.depth (f x) ≤ n
  eqv : ∀ x y, PyData.eqv (f x) (f y) = decide (x = y)
theorem encOk_int : EncOk 0 PyData.int := ⟨fun _ => by simp [PyData.canLay0], fun _ => by simp [PyData.depth], fun x y => by simp [PyData.eqv]; by_cases h : x = y <;> simp [h]⟩
theorem encOk_bool : EncOk 0 PyData.bool := ⟨fun _ => by simp [PyData.canLay0], fun _ => by simp [PyData.depth], fun x y => by cases x <;> cases y <;> simp [PyData.eqv]⟩
section
variable {α β γ δ : Type} [DecidableEq α] [DecidableEq β] [DecidableEq γ] [DecidableEq δ] {n m l o : Nat} {f : α → PyData} {g : β → PyData} {h : γ → PyData} {i : δ → PyData}
theorem lay_map (ok : EncOk n f) : ∀ xs : List α, PyData.canLayAll0 (xs.map f) = true
  | [] => by simp [PyData.canLayAll0]
  | x :: xs => by simp [PyData.canLayAll0, ok.lay x, lay_map ok xs]
theorem dep_map (ok : EncOk n f) : ∀ xs : List α, PyData.depthAll (xs.map f) ≤ n
  | [] => by simp [PyData.depthAll]
  | x :: xs => by
    have h1 := ok.dep x
    have h2 := dep_map ok xs
    simp only [List.map_cons, PyData.depthAll]
    omega
theorem eqv_map (ok : EncOk n f) : ∀ xs ys : List α, PyData.eqvAll (xs.map f) (ys.map f) = decide (xs = ys)
  | [], [] => by simp [PyData.eqvAll]
  | [], y :: ys => by simp [PyData.eqvAll]
  | x :: xs, [] => by simp [PyData.eqvAll]
  | x :: xs, y :: ys => by
    have ih := eqv_map ok xs ys
    simp only [List.map_cons, PyData.eqvAll, ok.eqv, ih]
    by_cases h : x = y <;> by_cases h2 : xs = ys <;> simp [h, h2]
theorem encOk_L (ok : EncOk n f) : EncOk (n + 1) (encL f) := ⟨fun xs => by simp [encL, PyData.canLay0, lay_map ok], fun xs => by
  have := dep_map ok xs
  simp only [encL, PyData.depth]
  omega, fun xs ys => by simp only [encL, PyData.eqv]; exact eqv_map ok xs ys⟩
theorem encOk_T2 (ok : EncOk n f) (ok2 : EncOk m g) : EncOk (max n m + 1) (encT2 f g) := ⟨fun x => by simp [encT2, PyData.canLay0, PyData.canLayAll0, ok.lay, ok2.lay], fun x => by
  have h1 := ok.dep x.1
  have h2 := ok2.dep x.2
  simp only [encT2, PyData.depth, PyData.depthAll]
  omega, fun x y => by
  obtain ⟨a, b⟩ := x
  obtain ⟨c, d⟩ := y
  simp only [encT2, PyData.eqv, PyData.eqvAll, ok.eqv, ok2.eqv, Prod.mk.injEq]
  by_cases h1 : a = c <;> by_cases h2 : b = d <;> simp [h1, h2]⟩
theorem encOk_T3 (ok : EncOk n f) (ok2 : EncOk m g) (ok3 : EncOk l h) : EncOk (max n (max m l) + 1) (encT3 f g h) := ⟨fun x => by simp [encT3, PyData.canLay0, PyData.canLayAll0, ok.lay, ok2.lay, ok3.lay], fun x => by
  have h1 := ok.dep x.1
  have h2 := ok2.dep x.2.1
  have h3 := ok3.dep x.2.2
  simp only [encT3, PyData.depth, PyData.depthAll]
  omega, fun x y => by
  obtain ⟨a, b, e⟩ := x
  obtain ⟨c, d, e'⟩ := y
  simp only [encT3, PyData.eqv, PyData.eqvAll, ok.eqv, ok2.eqv, ok3.eqv, Prod.mk.injEq]
  by_cases h1 : a = c <;> by_cases h2 : b = d <;> by_cases h3 : e = e' <;> simp [h1, h2, h3]⟩
theorem encOk_T4 (ok : EncOk n f) (ok2 : EncOk m g) (ok3 : EncOk l h) (ok4 : EncOk o i) : EncOk (max n (max m (max l o)) + 1) (encT4 f g h i) := ⟨fun x => by simp [encT4, PyData.canLay0, PyData.canLayAll0, ok.lay, ok2.lay, ok3.lay, ok4.lay], fun x => by
  have h1 := ok.dep x.1
  have h2 := ok2.dep x.2.1
  have h3 := ok3.dep x.2.2.1
  have h4 := ok4.dep x.2.2.2
  simp only [encT4, PyData.depth, PyData.depthAll]
  omega, fun x y => by
  obtain ⟨a, b, e, u⟩ := x
  obtain ⟨c, d, e', u'⟩ := y
  simp only [encT4, PyData.eqv, PyData.eqvAll, ok.eqv, ok2.eqv, ok3.eqv, ok4.eqv, Prod.mk.injEq]
  by_cases h1 : a = c <;> by_cases h2 : b = d <;> by_cases h3 : e = e' <;> by_cases h4 : u = u' <;> simp [h1, h2, h3, h4]⟩
end
section
variable {X : Cx} {α : Type} [DecidableEq α] {n : Nat} {f : α → PyData}
def rEqT (f : α → PyData) : R2 := fun x y H Q => ∃ (a b : α), Rp H x (f a) ∧ Rp H y (f b) ∧ Q (.bl (decide (a = b))) H
def rNeT (f : α → PyData) : R2 := fun x y H Q => ∃ (a b : α), Rp H x (f a) ∧ Rp H y (f b) ∧ Q (.bl (!decide (a = b))) H
theorem shaped_of (ok : EncOk n f) (hn : n ≤ 64) (a : α) : SeqAt.shaped (f a) = true := by
  unfold SeqAt.shaped
  have h := ok.dep a
  rw [ok.lay]
  simp
  omega
theorem op_eqT (ok : EncOk n f) (hu : X.A.units + 64 < cLine) (hn : n ≤ 64 := by decide) : OpR X (compareOp .Eq) (rEqT f) := by
  intro pins s σ H x y v u Q I rx ry h
  obtain ⟨a, b, h1, h2, q⟩ := h
  exact op_eqD hu pins s σ H _ _ v u Q I rx ry ⟨_, _, h1.dp, h2.dp, shaped_of ok hn a, shaped_of ok hn b, by rw [ok.eqv]; exact q⟩
theorem op_neT (ok : EncOk n f) (hu : X.A.units + 64 < cLine) (hn : n ≤ 64 := by decide) : OpR X (compareOp .NotEq) (rNeT f) := by
  intro pins s σ H x y v u Q I rx ry h
  obtain ⟨a, b, h1, h2, q⟩ := h
  exact op_neD hu pins s σ H _ _ v u Q I rx ry ⟨_, _, h1.dp, h2.dp, shaped_of ok hn a, shaped_of ok hn b, by rw [ok.eqv]; exact q⟩
end
section
variable {H : Hp} {v : V} {α β γ δ : Type} {f : α → PyData} {g : β → PyData} {h : γ → PyData} {i : δ → PyData}
theorem rp_int {x : Int} (r : Rp H v (.int x)) : v = .int x := by cases r; rfl
theorem rp_bool {x : Bool} (r : Rp H v (.bool x)) : v = .bl x := by cases r; rfl
theorem rp_str {x : Str} (r : Rp H v (.str x)) : v = .str x := by cases r; rfl
theorem rp_list {xs : List α} (r : Rp H v (encL f xs)) : ∃ a vs, v = .ref a ∧ H a = some (.lst vs) ∧ RpAll H vs (xs.map f) := by
  unfold encL at r
  cases r with
  | lst h1 h2 => exact ⟨_, _, rfl, h1, h2⟩
theorem rpAll_ints : ∀ {vs : List V} {xs : List Int}, RpAll H vs (xs.map PyData.int) → vs = xs.map V.int
  | _, [], .nil => rfl
  | _, x :: xs, .cons r t => by rw [rp_int r, rpAll_ints t] <;> rfl
theorem rp_ints {xs : List Int} (r : Rp H v (encL PyData.int xs)) : ∃ a, v = .ref a ∧ H a = some (.lst (xs.map V.int)) := by
  obtain ⟨a, vs, e, h1, h2⟩ := rp_list r
  rw [rpAll_ints h2] at h1
  exact ⟨a, e, h1⟩
theorem rp_tup2 {x : α × β} (r : Rp H v (encT2 f g x)) : ∃ a v1 v2, v = .ref a ∧ H a = some (.tup [v1, v2]) ∧ Rp H v1 (f x.1) ∧ Rp H v2 (g x.2) := by
  unfold encT2 at r
  cases r with
  | tup h1 h2 =>
    cases h2 with
    | cons a b =>
      cases b with
      | cons b c =>
        cases c
        exact ⟨_, _, _, rfl, h1, a, b⟩
theorem rp_tup3 {x : α × β × γ} (r : Rp H v (encT3 f g h x)) : ∃ a v1 v2 v3, v = .ref a ∧ H a = some (.tup [v1, v2, v3]) ∧ Rp H v1 (f x.1) ∧ Rp H v2 (g x.2.1) ∧ Rp H v3 (h x.2.2) := by
  unfold encT3 at r
  cases r with
  | tup h1 h2 =>
    cases h2 with
    | cons a b =>
      cases b with
      | cons b c =>
        cases c with
        | cons c d =>
          cases d
          exact ⟨_, _, _, _, rfl, h1, a, b, c⟩
theorem rp_mk_list {a : Addr} {vs : List V} {xs : List α} (h1 : H a = some (.lst vs)) (h2 : RpAll H vs (xs.map f)) : Rp H (.ref a) (encL f xs) := .lst h1 h2
theorem rp_mk_ints {a : Addr} {xs : List Int} (h1 : H a = some (.lst (xs.map V.int))) : Rp H (.ref a) (encL PyData.int xs) := .lst h1 (RpAll.ints xs)
theorem rp_mk2 {a : Addr} {v1 v2 : V} {x : α} {y : β} (h1 : H a = some (.tup [v1, v2])) (r1 : Rp H v1 (f x)) (r2 : Rp H v2 (g y)) : Rp H (.ref a) (encT2 f g (x, y)) := .tup h1 (.cons r1 (.cons r2 .nil))
theorem rp_mk3 {a : Addr} {v1 v2 v3 : V} {x : α} {y : β} {z : γ} (h1 : H a = some (.tup [v1, v2, v3])) (r1 : Rp H v1 (f x)) (r2 : Rp H v2 (g y)) (r3 : Rp H v3 (h z)) : Rp H (.ref a) (encT3 f g h (x, y, z)) := .tup h1 (.cons r1 (.cons r2 (.cons r3 .nil)))
end

/-! ### the two heaps -/
def SameXs (L : List Addr) (H H' : Hp) : Prop := ∀ b o, H b = some o → b ∉ L → H' b = some o
theorem SameXs.of {H H' : Hp} {m : Addr} (x : SameX m H H') : SameXs [m] H H' := fun b o e n => x b o e (fun z => n (by rw [z]; exact List.mem_cons_self))
theorem ni1 {b m : Addr} (h : b ≠ m) : b ∉ [m] := by simpa using h
theorem ni2 {b m n : Addr} (h : b ≠ m) (h2 : b ≠ n) : b ∉ [m, n] := by simp [h, h2]
theorem ni3 {b m n o : Addr} (h : b ≠ m) (h2 : b ≠ n) (h3 : b ≠ o) : b ∉ [m, n, o] := by simp [h, h2, h3]
theorem ni4 {b m n o p : Addr} (h : b ≠ m) (h2 : b ≠ n) (h3 : b ≠ o) (h4 : b ≠ p) : b ∉ [m, n, o, p] := by simp [h, h2, h3, h4]
def hideL (L : List Addr) (H : Hp) : Hp := fun b => if b ∈ L then none else H b
theorem hideL_same (L : List Addr) (H : Hp) : Same (hideL L H) H := fun b o e => by
  unfold hideL at e
  split at e
  · cases e
  · exact e
theorem hideL_in {L : List Addr} {H : Hp} {b : Addr} (h : b ∈ L) : hideL L H b = none := if_pos h
theorem hideL_out {L : List Addr} {H : Hp} {b : Addr} (h : b ∉ L) : hideL L H b = H b := if_neg h
/-- M: owned from outside; H0, G0: at the entry; G: what stays as it is; O: what may change -/
structure Sep (M : List Addr) (H0 G0 G H : Hp) (O : List Addr) : Prop where
  base : SameXs M H0 H
  pm : ∀ a ∈ M, H a ≠ none
  sG : Same G H
  g0 : Same G0 G
  gn : ∀ b, H0 b ≠ none → G0 b = none → G b = none
  ow : ∀ a ∈ O, G a = none ∧ H a ≠ none ∧ (a ∈ M ∨ H0 a = none)
theorem all_nil {P : Addr → Prop} : ∀ x ∈ ([] : List Addr), P x := fun x h => by cases h
theorem all_cons {P : Addr → Prop} {a : Addr} {l : List Addr} (h : P a) (t : ∀ x ∈ l, P x) : ∀ x ∈ a :: l, P x := fun x hx => by
  cases hx with
  | head => exact h
  | tail _ hx => exact t x hx
theorem some_ne {H : Hp} {a : Addr} {o : HO} (h : H a = some o) : H a ≠ none := by
  rw [h]
  exact fun z => nomatch z
theorem same_ne {H H' : Hp} {a : Addr} (e : Same H H') (h : H a ≠ none) : H' a ≠ none := by
  cases q : H a with
  | none => exact absurd q h
  | some o => exact some_ne (e a o q)
section
variable {M : List Addr} {H0 G0 G H H' : Hp} {O : List Addr} {p m : Addr} {o : HO}
theorem Sep.start (M : List Addr) (H : Hp) (hM : ∀ a ∈ M, H a ≠ none) : Sep M H (hideL M H) (hideL M H) H M :=
  ⟨fun _ _ e _ => e, hM, hideL_same M H, Same.refl _, fun _ _ e => e, fun a ha => ⟨hideL_in ha, hM a ha, .inl ha⟩⟩
theorem Sep.startG {G H : Hp} (e : Same G H) : Sep [] H G G H [] := ⟨fun _ _ e _ => e, all_nil, e, Same.refl _, fun _ _ e => e, fun a ha => by cases ha⟩
theorem Sep.start0 (H : Hp) : Sep [] H H H H [] := Sep.startG (Same.refl H)
theorem Sep.b0 (S : Sep [] H0 G0 G H O) : Same H0 H := fun b o e => S.base b o e List.not_mem_nil
theorem Sep.free (S : Sep M H0 G0 G H O) {q : Addr} (n : H q = none) : H0 q = none := by
  cases e : H0 q with
  | none => rfl
  | some o =>
    by_cases h : q ∈ M
    · exact absurd n (S.pm q h)
    · rw [S.base q o e h] at n
      cases n
theorem Sep.same (S : Sep M H0 G0 G H O) (e : Same H H') : Sep M H0 G0 G H' O :=
  ⟨fun b o h n => e b o (S.base b o h n), fun a ha => same_ne e (S.pm a ha), S.sG.trans e, S.g0, S.gn, fun a ha => ⟨(S.ow a ha).1, same_ne e (S.ow a ha).2.1, (S.ow a ha).2.2⟩⟩
theorem Sep.gfree (S : Sep M H0 G0 G H O) {q : Addr} (n : H q = none) : G q = none := by
  cases e : G q with
  | none => rfl
  | some o => rw [S.sG q o e] at n; cases n
theorem Sep.new (S : Sep M H0 G0 G H O) (n : H p = none) (e : Same H H') (h : H' p = some o) (hm : H0 p = none) : Sep M H0 G0 G H' (p :: O) := by
  have S1 := S.same e
  refine ⟨S1.base, S1.pm, S1.sG, S1.g0, S1.gn, fun a ha => ?_⟩
  cases ha with
  | head => exact ⟨S.gfree n, some_ne h, .inr hm⟩
  | tail _ ha => exact S1.ow a ha
theorem Sep.grow (S : Sep M H0 G0 G H O) (n : H p = none) (e : Same H H') (h : H' p = some o) (hm : H0 p = none) : ∃ G', Same G G' ∧ G' p = some o ∧ Sep M H0 G0 G' H' O := by
  have S1 := S.same e
  have ng := S.gfree n
  refine ⟨upd G p o, fun b u q => by rw [upd_ne (ne_of_none q ng)]; exact q, upd_same, S1.base, S1.pm, fun b u q => ?_, fun b u q => ?_, fun b hb gb => ?_, fun a ha => ?_⟩
  · by_cases z : b = p
    · subst z
      rw [upd_same] at q
      exact q ▸ h
    · rw [upd_ne z] at q
      exact S1.sG b u q
  · have := S.g0 b u q
    rw [upd_ne (ne_of_none this ng)]
    exact this
  · by_cases z : b = p
    · subst z
      exact absurd hm hb
    · rw [upd_ne z]
      exact S.gn b hb gb
  · have hne : a ≠ p := fun z => (S.ow a ha).2.1 (by rw [z]; exact n)
    rw [upd_ne hne]
    exact S1.ow a ha
theorem Sep.mut (S : Sep M H0 G0 G H O) {L : List Addr} (x : SameXs L H H') (hL : ∀ a ∈ L, a ∈ O) (hs : ∀ a ∈ L, H' a ≠ none) : Sep M H0 G0 G H' O := by
  have keep : ∀ a, H a ≠ none → H' a ≠ none := fun a h => by
    by_cases hb : a ∈ L
    · exact hs a hb
    · cases q : H a with
      | none => exact absurd q h
      | some o => exact some_ne (x a o q hb)
  refine ⟨fun b o e n => ?_, fun a ha => keep a (S.pm a ha), fun b o e => ?_, S.g0, S.gn, fun a ha => ⟨(S.ow a ha).1, keep a (S.ow a ha).2.1, (S.ow a ha).2.2⟩⟩
  · refine x b o (S.base b o e n) fun hb => ?_
    rcases (S.ow b (hL b hb)).2.2 with z | z
    · exact n z
    · rw [e] at z; cases z
  · refine x b o (S.sG b o e) fun hb => ?_
    have := (S.ow b (hL b hb)).1
    rw [e] at this
    cases this
theorem Sep.mut1 (S : Sep M H0 G0 G H O) (x : SameX m H H') (hm : m ∈ O) (h : H' m = some o) : Sep M H0 G0 G H' O :=
  S.mut (SameXs.of x) (all_cons hm all_nil) (all_cons (some_ne h) all_nil)
theorem Sep.sub (S : Sep M H0 G0 G H O) {O' : List Addr} (h : ∀ a ∈ O', a ∈ O) : Sep M H0 G0 G H O' := ⟨S.base, S.pm, S.sG, S.g0, S.gn, fun a ha => S.ow a (h a ha)⟩
/-- what was owned and is to stay as it is from now on -/
theorem Sep.freeze (S : Sep M H0 G0 G H O) {O' : List Addr} (hp : p ∈ O) (h : H p = some o) (hm : H0 p = none) (hO : ∀ a ∈ O', a ∈ O ∧ a ≠ p) : ∃ G', Same G G' ∧ G' p = some o ∧ Sep M H0 G0 G' H O' := by
  have ng := (S.ow p hp).1
  refine ⟨upd G p o, fun b u q => by rw [upd_ne (ne_of_none q ng)]; exact q, upd_same, S.base, S.pm, fun b u q => ?_, fun b u q => ?_, fun b hb gb => ?_, fun a ha => ?_⟩
  · by_cases z : b = p
    · subst z
      rw [upd_same] at q
      exact q ▸ h
    · rw [upd_ne z] at q
      exact S.sG b u q
  · have := S.g0 b u q
    rw [upd_ne (ne_of_none this ng)]
    exact this
  · by_cases z : b = p
    · subst z
      exact absurd hm hb
    · rw [upd_ne z]
      exact S.gn b hb gb
  · rw [upd_ne (hO a ha).2]
    exact S.ow a (hO a ha).1
/-- a callee that hands on data in a stable heap of its own -/
theorem Sep.step (S : Sep M H0 G0 G H O) {G' : Hp} (e : Same H H') (eG : Same G G') (sG : Same G' H') (hn : ∀ b, H b ≠ none → G b = none → G' b = none) : Sep M H0 G0 G' H' O := by
  have S1 := S.same e
  refine ⟨S1.base, S1.pm, sG, S.g0.trans eG, fun b hb gb => ?_, fun a ha => ⟨hn a (S.ow a ha).2.1 (S.ow a ha).1, (S1.ow a ha).2⟩⟩
  refine hn b (fun z => ?_) (S.gn b hb gb)
  exact hb (S.free z)
theorem Sep.hid (S : Sep M H0 G0 G H O) {L : List Addr} (h : ∀ a ∈ L, a ∈ O) : Same G (hideL L H) := fun b o e => by
  rw [hideL_out fun z => by
    have := (S.ow b (h b z)).1
    rw [e] at this
    cases this]
  exact S.sG b o e
end
end Vx

namespace Vx
open PySem PySem.Spec PyProof.Rows L2
/-! ### lists of plain things (f : V.int, V.bl, V.str) -/
section
variable {α : Type} {f : α → V} {H : Hp} {p : Addr}
theorem cat_map {xs ys : List α} (h : H p = some (.lst (xs.map f ++ ys.map f))) : H p = some (.lst ((xs ++ ys).map f)) := by
  rw [List.map_append]; exact h
theorem snoc_map {xs : List α} {y : α} (h : H p = some (.lst (xs.map f ++ [f y]))) : H p = some (.lst ((xs ++ [y]).map f)) := by
  rw [List.map_append]; exact h
def repL (xs : List α) (k : Int) : List α := (List.replicate k.toNat xs).flatten
theorem rep_map {xs : List α} {k : Int} (h : H p = some (.lst (List.replicate k.toNat (xs.map f)).flatten)) : H p = some (.lst ((repL xs k).map f)) := by
  rw [h]
  unfold repL
  rw [List.map_flatten, List.map_replicate]
def cutL (xs : List α) (lo hi : Option Int) : List α := (xs.drop (HT.sIx xs.length 0 lo)).take (HT.sIx xs.length xs.length hi - HT.sIx xs.length 0 lo)
theorem cut_map {xs : List α} {lo hi : Option Int} (h : H p = some (.lst (cutV (xs.map f) lo hi))) : H p = some (.lst ((cutL xs lo hi).map f)) := by
  rw [h]
  unfold cutV cutL
  rw [List.length_map, List.map_take, List.map_drop]
theorem cast_map {xs ys : List α} (h : H p = some (.lst (xs.map f))) (e : xs = ys) : H p = some (.lst (ys.map f)) := e ▸ h
theorem drop_map {xs : List α} (h : H p = some (.lst (xs.map f).dropLast)) : H p = some (.lst (xs.dropLast.map f)) := by
  rw [h, List.map_dropLast]
theorem ixN_some {n : Nat} {k : Int} (h : -(n : Int) ≤ k ∧ k < n) : ∃ j, ixN n k = some j ∧ j < n := by
  unfold ixN
  by_cases h0 : 0 ≤ k
  · exact ⟨k.toNat, by rw [if_pos h0, if_pos h.2], by omega⟩
  · exact ⟨(k + n).toNat, by rw [if_neg h0, if_pos h.1], by omega⟩
def itD [Inhabited α] (xs : List α) (k : Int) : α := (atI xs k).getD default
theorem atI_map [Inhabited α] {xs : List α} {k : Int} (h : -(xs.length : Int) ≤ k ∧ k < xs.length) : atI (xs.map f) k = some (f (itD xs k)) := by
  obtain ⟨j, e, hj⟩ := ixN_some h
  unfold itD atI
  rw [List.length_map, e]
  show (xs.map f)[j]? = some (f ((xs[j]?).getD default))
  rw [List.getElem?_map, List.getElem?_eq_getElem hj] <;> rfl
def setL (xs : List α) (k : Int) (y : α) : List α := xs.set ((ixN xs.length k).getD 0) y
theorem ixN_map {xs : List α} {k : Int} (h : -(xs.length : Int) ≤ k ∧ k < xs.length) : ixN (xs.map f).length k = some ((ixN xs.length k).getD 0) := by
  obtain ⟨j, e, hj⟩ := ixN_some h
  rw [List.length_map, e] <;> rfl
theorem set_map {xs : List α} {k : Int} {y : α} (h : H p = some (.lst ((xs.map f).set ((ixN xs.length k).getD 0) (f y)))) : H p = some (.lst ((setL xs k y).map f)) := by
  rw [h]
  unfold setL
  rw [List.map_set]
def lastD [Inhabited α] (xs : List α) : α := xs.getLastD default
theorem pop_map [Inhabited α] {xs : List α} (h : xs ≠ []) : (xs.map f)[(xs.map f).length - 1]? = some (f (lastD xs)) := by
  rw [← List.getLast?_eq_getElem?, List.getLast?_map]
  unfold lastD
  cases e : xs.getLast? with
  | none => exact absurd (List.getLast?_eq_none_iff.mp e) h
  | some y =>
    rw [List.getLastD_eq_getLast?, e] <;> rfl
end
/-! ### lists of data -/
section
variable {α β : Type} {f : α → PyData} {g : β → PyData} {G : Hp} {vs ws : List V} {xs ys : List α}
theorem app_map (a : RpAll G vs (xs.map f)) (b : RpAll G ws (ys.map f)) : RpAll G (vs ++ ws) ((xs ++ ys).map f) := by
  rw [List.map_append]; exact a.append b
theorem one_map {v : V} {y : α} (a : RpAll G vs (xs.map f)) (b : Rp G v (f y)) : RpAll G (vs ++ [v]) ((xs ++ [y]).map f) := by
  rw [List.map_append]; exact a.append (.one b)
theorem rep_all (k : Int) (a : RpAll G vs (xs.map f)) : RpAll G (List.replicate k.toNat vs).flatten ((repL xs k).map f) := by
  unfold repL
  rw [List.map_flatten, List.map_replicate]
  exact a.rep _
theorem cut_all (lo hi : Option Int) (a : RpAll G vs (xs.map f)) : RpAll G (cutV vs lo hi) ((cutL xs lo hi).map f) := by
  unfold cutV cutL
  rw [a.len, List.length_map, List.map_take, List.map_drop]
  exact (a.drop _).take _
theorem rp_cast {v : V} {d e : PyData} (r : Rp G v d) (h : d = e) : Rp G v e := h ▸ r
theorem comp_listD {i : Nat} {x : α} {y : β} {v : V} {h : α → β} (hi : xs[i]? = some x) (a : RpAll G vs (((xs.take i).map h).map g)) (r : Rp G v (g y)) (e : h x = y) : RpAll G (vs ++ [v]) (((xs.take (i + 1)).map h).map g) := by
  rw [take_succ_get hi, List.map_append, List.map_append]
  exact a.append (.one (e ▸ r))
theorem comp_rangeD {i : Nat} {y : β} {v : V} {h : Nat → β} (a : RpAll G vs (((List.range i).map h).map g)) (r : Rp G v (g y)) (e : h i = y) : RpAll G (vs ++ [v]) (((List.range (i + 1)).map h).map g) := by
  rw [List.range_succ, List.map_append, List.map_append]
  exact a.append (.one (e ▸ r))
theorem comp_doneD {n : Nat} {h : List α → List β} (hl : n = xs.length) (a : RpAll G vs ((h (xs.take n)).map g)) : RpAll G vs ((h xs).map g) := by
  rw [hl, List.take_length] at a
  exact a
theorem comp_listFD {i : Nat} {x : α} {y : β} {v : V} {h : α → β} {q : α → Bool} (hi : xs[i]? = some x) (hq : q x = true) (a : RpAll G vs ((((xs.take i).filter q).map h).map g)) (r : Rp G v (g y)) (e : h x = y) : RpAll G (vs ++ [v]) ((((xs.take (i + 1)).filter q).map h).map g) := by
  rw [take_succ_get hi, List.filter_append, List.filter_cons, if_pos hq, List.map_append, List.map_append]
  exact a.append (.one (e ▸ r))
theorem skip_listD {i : Nat} {x : α} {h : α → β} {q : α → Bool} (hi : xs[i]? = some x) (hq : q x = false) (a : RpAll G vs ((((xs.take i).filter q).map h).map g)) : RpAll G vs ((((xs.take (i + 1)).filter q).map h).map g) := by
  rw [take_succ_get hi, List.filter_append, List.filter_cons, if_neg (by rw [hq]; decide), List.filter_nil, List.append_nil]
  exact a
end
section
variable {α β : Type} {f : β → V} {H : Hp} {D : Addr} {xs : List α}
theorem compM_list {i : Nat} {x : α} {y : β} {h : α → β} (hi : xs[i]? = some x) (a : H D = some (.lst (((xs.take i).map h).map f ++ [f y]))) (e : h x = y) : H D = some (.lst (((xs.take (i + 1)).map h).map f)) := by
  rw [a, ← e, take_succ_get hi, List.map_append, List.map_append] <;> rfl
theorem compM_range {i : Nat} {y : β} {h : Nat → β} (a : H D = some (.lst (((List.range i).map h).map f ++ [f y]))) (e : h i = y) : H D = some (.lst (((List.range (i + 1)).map h).map f)) := by
  rw [a, ← e, List.range_succ, List.map_append, List.map_append] <;> rfl
theorem compM_done {n : Nat} {h : List α → List β} (hl : n = xs.length) (a : H D = some (.lst ((h (xs.take n)).map f))) : H D = some (.lst ((h xs).map f)) := by
  rw [hl, List.take_length] at a
  exact a
theorem compM_listF {i : Nat} {x : α} {y : β} {h : α → β} {q : α → Bool} (hi : xs[i]? = some x) (hq : q x = true) (a : H D = some (.lst ((((xs.take i).filter q).map h).map f ++ [f y]))) (e : h x = y) : H D = some (.lst ((((xs.take (i + 1)).filter q).map h).map f)) := by
  rw [a, ← e, take_succ_get hi, List.filter_append, List.filter_cons, if_pos hq, List.map_append, List.map_append] <;> rfl
theorem skipM_list {i : Nat} {x : α} {h : α → β} {q : α → Bool} (hi : xs[i]? = some x) (hq : q x = false) (a : H D = some (.lst ((((xs.take i).filter q).map h).map f))) : H D = some (.lst ((((xs.take (i + 1)).filter q).map h).map f)) := by
  rw [a, take_succ_get hi, List.filter_append, List.filter_cons, if_neg (by rw [hq]; decide), List.filter_nil, List.append_nil]
theorem compM_rangeF {i : Nat} {y : β} {h : Nat → β} {q : Nat → Bool} (hq : q i = true) (a : H D = some (.lst ((((List.range i).filter q).map h).map f ++ [f y]))) (e : h i = y) : H D = some (.lst ((((List.range (i + 1)).filter q).map h).map f)) := by
  rw [a, ← e, List.range_succ, List.filter_append, List.filter_cons, if_pos hq, List.map_append, List.map_append] <;> rfl
theorem skipM_range {i : Nat} {h : Nat → β} {q : Nat → Bool} (hq : q i = false) (a : H D = some (.lst ((((List.range i).filter q).map h).map f))) : H D = some (.lst ((((List.range (i + 1)).filter q).map h).map f)) := by
  rw [a, List.range_succ, List.filter_append, List.filter_cons, if_neg (by rw [hq]; decide), List.filter_nil, List.append_nil]
end
/-! ### more rules -/
section
variable {X : Cx} {K : PySem.W.Frag}
theorem ix_tupK (hK : X.K = K := by rfl) : IxR X (rIxT K) := hK ▸ ix_tup
def rLenLK (K : PySem.W.Frag) : List V → Hp → VK → Prop := fun xs H Q => ∃ (p : Addr) (vs : List V) (n : Nat), xs = [.ref p] ∧ SqL K H p vs ∧ vs.length = n ∧ Q (.int (n : Int)) H
theorem call_lenLK (hK : X.K = K := by rfl) : CallR X (.builtin "len") (rLenLK K) := by
  subst hK
  intro pins s σ H xs us Q I r h
  obtain ⟨p, vs, n, rfl, hs, hn, q⟩ := h
  exact call_len_seq pins s σ H _ us Q I r ⟨p, _, rfl, Or.inl hs, by rw [hn]; exact q⟩
def rListLK (K : PySem.W.Frag) : List V → Hp → VK → Prop := fun xs H Q => ∃ (p : Addr) (vs : List V), xs = [.ref p] ∧ SqL K H p vs ∧ ∀ l, H l = none → Q (.ref l) (upd H l (.lst vs))
theorem call_listLK (hK : X.K = K := by rfl) : CallR X (.type "list") (rListLK K) := by
  subst hK
  intro pins s σ H xs us Q I r h
  obtain ⟨p, vs, rfl, hs, q⟩ := h
  exact call_list_of pins s σ H _ us Q I r ⟨p, _, rfl, Or.inl hs, q⟩
theorem cr_anyK (hc : X.calm = true) (hK : X.K = K := by rfl) : CallR X (.builtin "any") (rAny K) := hK ▸ cr_any hc
theorem cr_allK (hc : X.calm = true) (hK : X.K = K := by rfl) : CallR X (.builtin "all") (rAll K) := hK ▸ cr_all hc
theorem pi_tupK {tg l : Expr} {tl : TE} (hl : PE X l tl) (hK : X.K = K := by rfl) : PI X tg l (iTup K tl) := hK ▸ pi_tup hl
theorem pip {op : Operator} {r : R2} (h : OpR X (inplaceOp op) r) : PIp X op r := fun pins s σ H x y v u Q I rx ry q => h pins s σ H x y v u Q I rx ry q
/-- an item at a place from 0 on, by itself (ahead of o[i] op= e) -/
def rIxP (K : PySem.W.Frag) : R2 := fun x y H Q => ∃ (p : Addr) (xs : List V) (k : Int) (v : V), x = .ref p ∧ y = .int k ∧ SqL K H p xs ∧ 0 ≤ k ∧ k < 2 ^ 62 ∧ atI xs k = some v ∧ Q v H
theorem pget_list (hK : X.K = K := by rfl) : PGet X (rIxP K) := by
  subst hK
  intro pins s σ H o i ov iv Q I ro ri h
  obtain ⟨p, xs, k, v, rfl, rfl, hq, h0, h62, ha, q⟩ := h
  cases ro
  obtain ⟨t, rfl⟩ := ri
  obtain ⟨its, r, pl, hz⟩ := I.list hq
  obtain ⟨j, h1, h2, h3, h4, h5⟩ := atI_get ha
  obtain ⟨w, ew, rw'⟩ := r.get h2
  have hj : k.toNat = j := by
    rw [seqIndex_of h0 h5] at h1
    exact Option.some.inj h1
  exact getItem_listL pl.isList h0 (by omega) (by rw [hj]; simpa using ew) ⟨v, H, I, rw', q⟩
theorem tru_map {α : Type} [DecidableEq α] {f : α → V} {xs : List α} : (!decide (xs = [])) = !(xs.map f).isEmpty := by
  cases xs <;> simp
end
end Vx

namespace Vx
open PySem PySem.Spec PyProof.Rows L2
/-! ### objects -/
section
variable {M : List Addr} {H0 G0 G H H' : Hp} {O : List Addr} {p m : Addr} {o : HO}
theorem gen_obj {x dx : Addr} {o1 o2 : HO} (nx : H x = none) (nd : H dx = none) (ne : dx ≠ x) (h : upd (upd H dx o1) x o2 = H') : Same H H' ∧ H' x = some o2 := by
  subst h
  exact ⟨fun b u e => by rw [upd_ne (ne_of_none e nx), upd_ne (ne_of_none e nd)]; exact e, upd_same⟩
theorem sameX_of {m : Addr} (x : SameXs [m] H H') : SameX m H H' := fun b o e n => x b o e (by simpa using n)
theorem g_ne {a b : Addr} (h : G a = some o) (S : Sep M H0 G0 G H O) (hb : b ∈ O) : a ≠ b := fun z => by
  have := (S.ow b hb).1
  rw [← z, h] at this
  cases this
/-- an object whose making has laid some lists -/
theorem Sep.mutnew (S : Sep M H0 G0 G H O) {L : List Addr} (x : SameXs L H H') (hL : ∀ a ∈ L, a ∈ O) (hs : ∀ a ∈ L, H' a ≠ none) (hn : H p = none) (hp : H' p ≠ none) (h0 : H0 p = none) : Sep M H0 G0 G H' (p :: O) := by
  have S1 := S.mut x hL hs
  refine ⟨S1.base, S1.pm, S1.sG, S1.g0, S1.gn, all_cons ⟨S.gfree hn, hp, .inr h0⟩ S1.ow⟩
theorem Sep.init (S : Sep M H0 G0 G H O) (x : SameX m H H') (hm : m ∈ O) (h : H' m = some o) (L : List Addr) (hL : ∀ a ∈ L, H a = none ∧ H' a ≠ none ∧ H0 a = none) : Sep M H0 G0 G H' (L ++ O) := by
  have S1 := S.mut1 x hm h
  refine ⟨S1.base, S1.pm, S1.sG, S1.g0, S1.gn, fun a ha => ?_⟩
  rcases List.mem_append.mp ha with z | z
  · obtain ⟨h1, h2, h3⟩ := hL a z
    exact ⟨S.gfree h1, h2, .inr h3⟩
  · exact S1.ow a z
end
section
variable {P : Program} {w : World} {K : PySem.W.Frag} {mg : Str → Option Value} {base : Heap}
structure MethIn (K : PySem.W.Frag) (C : Addr) (q m : Str) (st : Stmt) (ps : List Str) : Prop where
  ex : ∃ (f : Addr) (fd : FuncData), Fun K m q st f fd ∧ Meth K C m f ∧ Binds K fd ps []
structure PropIn (K : PySem.W.Frag) (C : Addr) (q m : Str) (st : Stmt) (ps : List Str) : Prop where
  ex : ∃ (r f : Addr) (fd : FuncData), Fun K m q st f fd ∧ PropOf K C m r f ∧ Binds K fd ps []
structure InitIn (K : PySem.W.Frag) (mg : Str → Option Value) (C : Addr) (cn q : Str) (st : Stmt) (ps : List Str) : Prop where
  ex : ∃ (f : Addr) (fd : FuncData), Fun K "__init__" q st f fd ∧ Mk K C f ∧ mg cn = some (.ref C) ∧ Binds K fd ps []
structure MetC (P : Program) (w : World) (K : PySem.W.Frag) (mg : Str → Option Value) (base : Heap) (k : Nat) (C : Addr) (m : Str) (sp : Sp) : Prop where
  ex : ∃ (f : Addr) (fd : FuncData) (ps : List Str), Cls K C ∧ Meth K C m f ∧ FnOk P w K mg base CX0 k f fd ps sp ∧ Binds K fd ps []
structure PropC (P : Program) (w : World) (K : PySem.W.Frag) (mg : Str → Option Value) (base : Heap) (k : Nat) (C : Addr) (m : Str) (sp : Sp) : Prop where
  ex : ∃ (q f : Addr) (fd : FuncData) (ps : List Str), Cls K C ∧ PropOf K C m q f ∧ FnOk P w K mg base CX0 k f fd ps sp ∧ Binds K fd ps []
structure MakC (P : Program) (w : World) (K : PySem.W.Frag) (mg : Str → Option Value) (base : Heap) (k : Nat) (cn : Str) (C : Addr) (sp : Sp) : Prop where
  ex : ∃ (f : Addr) (fd : FuncData) (ps : List Str), Mk K C f ∧ FnOk P w K mg base CX0 k f fd ps sp ∧ mg cn = some (.ref C) ∧ Binds K fd ps []
abbrev Body (P : Program) (w : World) (K : PySem.W.Frag) (mg : Str → Option Value) (base : Heap) (x : Str) (st : Stmt) (N : List Str) (k : Nat) (sp : Sp) : Prop :=
  ∀ (f : Addr) (cdv : Value) (A : Around) (outer : List Env) (s : Shared) (H : Hp) (vs : List V) (Q : VK) (E : XK), Room k (A.deeper (envOfC x (defScope st) s.heap.objs.size f cdv)) → sp vs H Q E →
    ∃ t, PSs (cxOf CX0 P w K mg base N x (defScope st) f cdv A outer s H E).nox (defBody st) t ∧ t { nx := fun _ H' => Q .non H', rt := Q } (start N vs) H
theorem MethIn.ok {C : Addr} {q m : Str} {st : Stmt} {N ps : List Str} {k : Nat} {sp : Sp} (D : MethIn K C q m st ps) (c : Cls K C) (S : FnScope N ps (defScope st)) (len : ∀ vs H Q E, sp vs H Q E → vs.length = ps.length)
    (hbody : Body P w K mg base q st N k sp) : MetC P w K mg base (k + 1) C m sp := by
  obtain ⟨f, fd, F, me, b⟩ := D.ex
  exact ⟨f, fd, ps, c, me, F.ok S len (fun cdv A outer s H vs Q E hr h => hbody f cdv A outer s H vs Q E hr h), b⟩
theorem PropIn.ok {C : Addr} {q m : Str} {st : Stmt} {N ps : List Str} {k : Nat} {sp : Sp} (D : PropIn K C q m st ps) (c : Cls K C) (S : FnScope N ps (defScope st)) (len : ∀ vs H Q E, sp vs H Q E → vs.length = ps.length)
    (hbody : Body P w K mg base q st N k sp) : PropC P w K mg base (k + 1) C m sp := by
  obtain ⟨r, f, fd, F, me, b⟩ := D.ex
  exact ⟨r, f, fd, ps, c, me, F.ok S len (fun cdv A outer s H vs Q E hr h => hbody f cdv A outer s H vs Q E hr h), b⟩
theorem InitIn.ok {C : Addr} {cn q : Str} {st : Stmt} {N ps : List Str} {k : Nat} {sp : Sp} (D : InitIn K mg C cn q st ps) (S : FnScope N ps (defScope st)) (len : ∀ vs H Q E, sp vs H Q E → vs.length = ps.length)
    (hbody : Body P w K mg base q st N k sp) : MakC P w K mg base (k + 1) cn C sp := by
  obtain ⟨f, fd, F, me, hm, b⟩ := D.ex
  exact ⟨f, fd, ps, me, F.ok S len (fun cdv A outer s H vs Q E hr h => hbody f cdv A outer s H vs Q E hr h), hm, b⟩
end
section
variable {X : Cx} {k j : Nat} {C : Addr} {x m : Str} {sp : Sp} {p pos apos : Pos} {e o : Expr} {es : List Expr} {ta : TE} {t : TA}
theorem vx_call0 (c : Cal X.prog X.w X.K X.mg X.base k x sp) (hr : Room j X.A) (hk : k ≤ j) (hg : Gl X x) (hdb : (x == ("__debug__" : Str)) = false := by decide) : PE X (.Call (.Name x p) [] [] pos) (tCall sp [] E0 tNil) := by
  obtain ⟨f, fd, ps, F, hm, kp, b⟩ := c.ex
  exact pe_call0 F (hr.mono hk) hg hm kp b .nil pass0 hdb
theorem vx_make (c : MakC X.prog X.w X.K X.mg X.base k x C sp) (hr : Room j X.A) (hk : k + 1 ≤ j) (hg : Gl X x) (ha : PA X (e :: es) t)
    (hdb : (x == ("__debug__" : Str)) = false := by decide) (he : starEach (e :: es) X.env = (false, eval e X.env) :: starEach es X.env := by rfl) (hpl : (backTo pos (starEach es X.env)).any (·.1) = false := by rfl) :
    PE X (.Call (.Name x p) (e :: es) [] pos) (tMake C sp [] E0 t) := by
  obtain ⟨f, fd, ps, M, F, hm, b⟩ := c.ex
  exact pe_make M F (hr.mono hk) hg hm b .nil pass0 ha hdb he hpl
theorem vx_make0 (c : MakC X.prog X.w X.K X.mg X.base k x C sp) (hr : Room j X.A) (hk : k + 1 ≤ j) (hg : Gl X x) (hdb : (x == ("__debug__" : Str)) = false := by decide) :
    PE X (.Call (.Name x p) [] [] pos) (tMake C sp [] E0 tNil) := by
  obtain ⟨f, fd, ps, M, F, hm, b⟩ := c.ex
  exact pe_make0 M F (hr.mono hk) hg hm b .nil pass0 hdb
theorem vx_meth {pl : Sem Bool} (c : MetC X.prog X.w X.K X.mg X.base k C m sp) (hr : Room j X.A) (hk : k ≤ j) (he : PE X o ta) (ha : PA X (e :: es) t)
    (hst : starEach (e :: es) X.env = (false, eval e X.env) :: starEach es X.env := by rfl) (hpl : (backTo pos (starEach es X.env)).any (·.1) = false := by rfl)
    (ht : eval (.Call (.Attribute o m apos) (e :: es) [] pos) X.env = (do
      let ov ← eval o X.env
      standAt apos.atName
      let (f, first) ← holding [ov] (getMethod ov m pl)
      callWith pos f first (backTo pos (starEach (e :: es) X.env)) (backToKw pos (keywordEach [] X.env))) := by rfl) :
    PE X (.Call (.Attribute o m apos) (e :: es) [] pos) (tMeth C m sp [] E0 ta t) := by
  obtain ⟨f, fd, ps, hc, hm, F, b⟩ := c.ex
  exact pe_meth he hc hm F (hr.mono hk) b .nil pass0 ha hst hpl ht
theorem vx_meth0 {pl : Sem Bool} (c : MetC X.prog X.w X.K X.mg X.base k C m sp) (hr : Room j X.A) (hk : k ≤ j) (he : PE X o ta)
    (ht : eval (.Call (.Attribute o m apos) [] [] pos) X.env = (do
      let ov ← eval o X.env
      standAt apos.atName
      let (f, first) ← holding [ov] (getMethod ov m pl)
      callWith pos f first (backTo pos (starEach [] X.env)) (backToKw pos (keywordEach [] X.env))) := by rfl) :
    PE X (.Call (.Attribute o m apos) [] [] pos) (tMeth C m sp [] E0 ta tNil) := by
  obtain ⟨f, fd, ps, hc, hm, F, b⟩ := c.ex
  exact pe_meth0 he hc hm F (hr.mono hk) b .nil pass0 ht
theorem vx_prop (c : PropC X.prog X.w X.K X.mg X.base k C m sp) (hr : Room j X.A) (hk : k + 1 ≤ j) (he : PE X o ta) (hab : attributeBase o m X.env (eval o X.env) = eval o X.env) : PE X (.Attribute o m pos) (tProp C sp [] E0 ta) := by
  obtain ⟨q, f, fd, ps, hc, hp, F, b⟩ := c.ex
  exact pe_prop he hc hp F (hr.mono hk) b .nil pass0 hab
end
theorem iteBNT {b : Bool} {A B : Prop} (h : b = false) (k : A) : if (!b) = true then A else B := by rw [h]; exact iteT k
theorem iteNN {b : Bool} {A B : Prop} (h : if b = true then A else B) : if (!!b) = true then A else B := by rw [Bool.not_not]; exact h
theorem iteBNF {b : Bool} {A B : Prop} (h : b = true) (k : B) : if (!b) = true then A else B := by rw [h]; exact iteF k
theorem shl_side {i j : Int} (h0 : 0 ≤ j) (h1 : j ≤ 4096) (h2 : -(2 ^ 4096) < i) (h3 : i < 2 ^ 4096) : CShl i j := by
  obtain ⟨k, rfl⟩ := Int.eq_ofNat_of_zero_le h0
  exact shl_ok (n := 4096) (by omega) (by omega)
end Vx

namespace Vx
open PySem PySem.Spec PyProof.Rows L2
section
variable {X : Cx} {K : PySem.W.Frag}
theorem fldK {e : Expr} {f : Str} {pos : Pos} {ta : TE} (he : PE X e ta) (hb : attributeBase e f X.env (eval e X.env) = eval e X.env := by rfl) (hK : X.K = K := by rfl) : PE X (.Attribute e f pos) (tFld K ta f) := hK ▸ pe_fld he hb
theorem pg_tupK {es : List Expr} {k : Nat} {t : TGs} {n : Nat} {pos : Pos} (h : PGs X es t) (hc : X.calm = true := by rfl)
    (hn : (assignEach es X.env).length = n := by rfl) (hst : (assignEach es X.env).findIdx? (·.1) = none := by rfl) (hK : X.K = K := by rfl) : PG X (.Tuple es k pos) (gTup K n t) := hK ▸ pg_tup hc h hn hst
end
end Vx

namespace Vx
open PySem PySem.Spec PyProof.Rows L2
section
variable {α β : Type} {f : α → PyData} {g : β → PyData} {fv : α → V} {gv : β → V} {G : Hp} {vs ws : List V} {xs : List α} {ys : List β}
theorem big1 {n : Nat} (h : n ≤ 1000000) : n ≤ sizeLine := smallE h
theorem cat_len (a : RpAll G vs (xs.map f)) (b : RpAll G ws (ys.map g)) (h : xs.length + ys.length ≤ 1000000) : vs.length + ws.length ≤ sizeLine := by
  rw [a.len, b.len, List.length_map, List.length_map]; exact smallE h
theorem cat_lenM (h : xs.length + ys.length ≤ 1000000) : (xs.map fv).length + (ys.map gv).length ≤ sizeLine := by
  rw [List.length_map, List.length_map]; exact smallE h
theorem rep_len {k : Nat} (a : RpAll G vs (xs.map f)) (h : xs.length * k ≤ 1000000) : vs.length * k ≤ sizeLine := by
  rw [a.len, List.length_map]; exact smallE h
theorem rep_lenM {k : Nat} (h : xs.length * k ≤ 1000000) : (xs.map fv).length * k ≤ sizeLine := by
  rw [List.length_map]; exact smallE h
theorem app_len (a : RpAll G vs (xs.map f)) (h : xs.length ≤ 1000000) : vs.length < sizeLine := by
  rw [a.len, List.length_map]; exact small h
theorem app_lenM (h : xs.length ≤ 1000000) : (xs.map fv).length < sizeLine := by
  rw [List.length_map]; exact small h
theorem cutL_len {α : Type} (xs : List α) (lo hi : Option Int) : (cutL xs lo hi).length ≤ xs.length := by
  unfold cutL
  rw [List.length_take, List.length_drop]
  omega
theorem repL_len {α : Type} (xs : List α) (k : Int) : (repL xs k).length = k.toNat * xs.length := by
  unfold repL
  simp
end
end Vx
/-! # promises of defs that know that nothing is being shown (so that repr may be called) -/
namespace Vx
open PySem PySem.Spec PyProof.Rows L2
structure RoomG (k : Nat) (A : Around) : Prop extends Room k A where
  gd : A.guards = some []
theorem RoomG.low {j k : Nat} {A : Around} (r : RoomG k A) (h : j ≤ k) : RoomG j A := ⟨r.toRoom.mono h, r.gd⟩
theorem RoomG.one {k : Nat} {A : Around} (r : RoomG (k + 1) A) : RoomG k A.in1 := ⟨r.toRoom.in1, r.gd⟩
theorem make_gd {A : Around} (C : Addr) (us : List Value) (kw : List (Str × Value)) (h : A.guards = some []) : (A.under (.builtin "type.__call__" ⟨.ref C :: us, kw⟩)).guards = some [] := by
  obtain ⟨hd, d, fr, gs, u⟩ := A
  subst h
  simp [Around.under, Code.guards, Code.isGuard, guardIds, pushGuards]
theorem RoomG.made {k : Nat} {A : Around} (r : RoomG (k + 1) A) (C : Addr) (us : List Value) (kw : List (Str × Value)) : RoomG k (A.under (.builtin "type.__call__" ⟨.ref C :: us, kw⟩)) := ⟨r.toRoom.make C us kw, make_gd C us kw r.gd⟩
structure FnG (P : Program) (w : World) (K : PySem.W.Frag) (mg : Str → Option Value) (base : Heap) (cx : CXT) (k : Nat) (f : Addr) (fd : FuncData) (ps : List Str) (sp : Sp) : Prop where
  len : ∀ vs H Q E, sp vs H Q E → vs.length = ps.length
  run : ∀ (A : Around) (outer : List Env) (s : Shared) (H : Hp) (args : Args) (us : List Value) (vs : List V) (Q : VK) (E : XK), RoomG k A → Env0 P w K mg base A outer s H → BindsTo s fd args (ps.zip us) → Vals vs us → sp vs H Q E → codeAny (model P w) A (.call (.ref f) args) (CR cx outer P w H s Q E) s
section
variable {P : Program} {w : World} {K : PySem.W.Frag} {mg : Str → Option Value} {base : Heap} {cx : CXT} {j k : Nat} {f : Addr} {fd : FuncData} {ps : List Str} {sp sp' : Sp}
theorem FnG.imp (F : FnG P w K mg base cx k f fd ps sp) (h : ∀ vs H Q E, sp' vs H Q E → sp vs H Q E) : FnG P w K mg base cx k f fd ps sp' := ⟨fun vs H Q E q => F.len vs H Q E (h vs H Q E q), fun A o s H a us vs Q E r e b v q => F.run A o s H a us vs Q E r e b v (h vs H Q E q)⟩
/-- the body's promise is the def's -/
theorem FnG.body {x qual : Str} {params : Arguments} {body : List Stmt} {scope : Scope} {dvs : List V} {kws : List (Str × V)} {N : List Str} (F : FunD K x qual params body scope dvs kws f fd) (S : FnScope N ps scope) (len : ∀ vs H Q E, sp vs H Q E → vs.length = ps.length)
    (hb : ∀ (cdv : Value) (A : Around) (outer : List Env) (s : Shared) (H : Hp) (vs : List V) (Q : VK) (E : XK), RoomG k (A.deeper (envOfC qual scope s.heap.objs.size f cdv)) → sp vs H Q E →
      ∃ t, PSs (cxOf cx P w K mg base N qual scope f cdv A outer s H E) body t ∧ t { nx := fun _ H' => Q .non H', rt := Q } (start N vs) H) : FnG P w K mg base cx (k + 1) f fd ps sp := by
  obtain ⟨oc, od, dV, kV, doc, pm, an, cdv, ct, osl, rfl, lk, code, _, _⟩ := F.ex
  constructor
  · exact len
  · intro A outer s H args us vs Q E room env binds vals prom
    have nvs := len vs H Q E prom
    have kin : K.In s.heap := env.mod.kin.keeps fun b o q => (env.bs b o q).1
    have nolim : s.heap.NoLimit := env.mod.nolimit.keeps fun b o q => (env.bs b o q).1
    have kinds : ∀ q ∈ ps.zip us, scope.names.lookup q.1 = some .local ∨ (scope.names.lookup q.1 = some .cell ∧ ((cellsFrom (s.heap.objs.size + 1) scope.names []).lookup q.1).isSome = true) := by
      rintro ⟨n, v⟩ hq
      cases S.par n (List.of_mem_zip hq).1 with
      | inl z => exact .inl z
      | inr z => exact .inr ⟨z, PySem.W.cellsFrom_some _ _ _ (.inl z)⟩
    refine codeAny_call_function room.toRoom.depth (kin _ _ lk) rfl S.co S.gen rfl (PySem.W.codeRec_of kin code) (binds _ _ _ _ ?_)
    refine wpAny_newFunctionEnv_cells S.kind kinds ?_
    rintro _ rfl s1 made
    refine ⟨nolim.keeps made.toInCall.keep, codeAny_func ?_⟩
    obtain ⟨t, pss, start_⟩ := hb cdv A outer s H vs Q E ⟨room.toRoom.deeper _, room.gd⟩ prom
    have inv := inv_start (CX := cx) (E := E) S room.hd env nvs vals made
    have close : ∀ {τ : L2.St} {H2 : Hp} {v : V} {u : Value} {s2 : Shared}, Inv (cxOf cx P w K mg base N qual scope f cdv A outer s H E) [] τ H2 s2 → RelV v u → Q v H2 → CE outer P w H s Q u s2 := fun inv2 rel q => ⟨_, _, inv2.os, inv2.bare, inv2.base, inv2.hok, rel, q⟩
    refine wpAny_mono (pss.run [] s1 (start N vs) H _ inv start_) ?_ fun _ _ z => z
    intro flow s2 out
    cases flow with
    | next =>
      obtain ⟨τ, H2, inv2, q⟩ := out
      exact close (v := .non) (u := .none) inv2 rfl q
    | ret u =>
      obtain ⟨v, τ, H2, inv2, rel, q⟩ := out
      exact close inv2 rel q
    | brk =>
      obtain ⟨_, _, _, q⟩ := out
      exact q.elim
    | cont =>
      obtain ⟨_, _, _, q⟩ := out
      exact q.elim
/-- the same of a body that nothing leaves -/
theorem FnG.bodyN {x qual : Str} {params : Arguments} {body : List Stmt} {scope : Scope} {dvs : List V} {kws : List (Str × V)} {N : List Str} (F : FunD K x qual params body scope dvs kws f fd) (S : FnScope N ps scope) (len : ∀ vs H Q E, sp vs H Q E → vs.length = ps.length)
    (hb : ∀ (cdv : Value) (A : Around) (outer : List Env) (s : Shared) (H : Hp) (vs : List V) (Q : VK) (E : XK), RoomG k (A.deeper (envOfC qual scope s.heap.objs.size f cdv)) → sp vs H Q E →
      ∃ t, PSs (cxOf CX0 P w K mg base N qual scope f cdv A outer s H E).nox body t ∧ t { nx := fun _ H' => Q .non H', rt := Q } (start N vs) H) : FnG P w K mg base CX0 (k + 1) f fd ps sp :=
  FnG.body F S len fun cdv A outer s H vs Q E r p => by
    obtain ⟨t, h, q⟩ := hb cdv A outer s H vs Q E r p
    exact ⟨t, h.nox, q⟩
end
/-- where a law's call begins: an abstract heap that tells the script at most -/
theorem law_start {P : Program} {w : World} {K : PySem.W.Frag} {mg mb : Str → Option Value} {a : Addr} {s : Shared} {vs : List Value} {ns : List Int} (kin : K.In s.heap) (top : s.heap.Ns mainGlobals mg) (blt : s.heap.Ns builtinsNs mb) (boot : ∀ y : Str, y ≠ "__name__" → mb y = bootBuiltins y)
    (lim : s.heap.NoLimit) (gens : s.gens = #[]) (script : s.heap.get? a = some { cls := .type "list", data := .seq vs.toArray }) (whole : IntsAre vs ns) (short : ns.length ≤ sizeLine) :
    ∃ (H : Hp) (base : Heap), SqL K H a (ns.map V.int) ∧ K.In base ∧ base.Ns mainGlobals mg ∧ Env0 P w K mg base callerA [] s H ∧
      ∀ (Z : V → Prop) (u : Value) (s2 : Shared), CE [] P w H s (fun v _ => Z v) u s2 → (∃ v, RelV v u ∧ Z v) ∧ OldK s.heap s2.heap ∧ s2.os = s.os ∧ AllBare s2.gens := by
  have rel := vals_ints whole
  have lenV := whole.length
  -- any H that tells no more than the script, and that only where the written part does not hold it, will do
  have fits : ∀ H : Hp, (∀ b, H b = none ∨ ∃ o xs, H b = some (.frz o (.lst xs))) → SqL K H a (ns.map V.int) → HOk P w H s.heap → (∀ b, b ≠ a → H b = none) → (∀ o, K.lookup a = some o → H a = none) →
      ∃ (H : Hp) (base : Heap), SqL K H a (ns.map V.int) ∧ K.In base ∧ base.Ns mainGlobals mg ∧ Env0 P w K mg base callerA [] s H ∧
        ∀ (Z : V → Prop) (u : Value) (s2 : Shared), CE [] P w H s (fun v _ => Z v) u s2 → (∃ v, RelV v u ∧ Z v) ∧ OldK s.heap s2.heap ∧ s2.os = s.os ∧ AllBare s2.gens := by
    intro H only seq ok else_ apart
    have dictFree : ∀ (b : Addr) (o : Obj) (es : Array DictEntry) (n : Nat), s.heap.get? b = some o → o.data = .dict es n → H b = none := by
      intro b o es n e d
      by_cases z : b = a
      · subst z
        rw [script] at e
        injection e with e
        subst e
        cases d
      · exact else_ b z
    have nsOf : ∀ {b : Addr} {m : Str → Option Value}, s.heap.Ns b m → (hidT s.heap H).Ns b m := by
      rintro b m ⟨o, es, n, e, d, r⟩
      exact ⟨o, es, n, hidT_get e (dictFree b o es n e d), d, r⟩
    have kinB : K.In (hidT s.heap H) := by
      intro b o e
      refine hidT_get (kin b o e) ?_
      by_cases z : b = a
      · subst z
        exact apart o e
      · exact else_ b z
    obtain ⟨mc, lim1, lim2⟩ := lim
    refine ⟨H, hidT s.heap H, seq, kinB, nsOf top, ⟨rfl, ⟨kinB, nsOf top, ⟨mb, nsOf blt, boot⟩, mc, nsOf lim1, lim2⟩, fun b o e => of_hidT e, Nat.le_of_eq (hidT_size _ _), trivial, fun b hb => (nomatch (show b ∈ ([] : List Addr) from hb)), ok, .of_eq gens⟩, ?_⟩
    rintro Z u s2 ⟨v, H2, os, bare, un, ok2, r, z⟩
    refine ⟨⟨v, r, z⟩, OldK.of_keep fun b o e => ?_, os, bare⟩
    rcases only b with n | ⟨o1, xs, n⟩
    · exact un.keep b o e n (fun y => nomatch (show b ∈ ([] : List Addr) from y)) (fun y => nomatch y)
    · obtain ⟨e1, _⟩ := ok b _ n
      obtain ⟨e2, _⟩ := ok2 b _ (un.frzs b o1 _ n)
      rw [e] at e1
      injection e1 with e1
      subst e1
      exact e2
  cases kl : K.lookup a with
  | some o =>
    have e := kin a o kl
    rw [script] at e
    injection e with e
    subst e
    exact fits (fun _ => none) (fun _ => .inl rfl) (.inr ⟨_, vs.toArray, _, kl, rfl, rfl, rfl, by rw [List.size_toArray, lenV]; exact short, by simpa using rel⟩) (fun _ _ z => nomatch z) (fun _ _ => rfl) fun _ _ => rfl
  | none =>
    refine fits (fun b => if b = a then some (.frz { cls := .type "list", data := .seq vs.toArray } (.lst (ns.map V.int))) else none) ?_ (.inl (.inr ⟨_, if_pos rfl⟩)) ?_ (fun b n => if_neg n) fun o z => ?_
    · intro b
      by_cases z : b = a
      · exact .inr ⟨_, _, if_pos z⟩
      · exact .inl (if_neg z)
    · intro b u q
      by_cases z : b = a
      · subst z
        have q := (if_pos rfl).symm.trans q
        injection q with q
        subst q
        exact ⟨script, by rw [List.length_map]; exact short, vs, _, rel, script⟩
      · have q := (if_neg z).symm.trans q
        cases q
    · rw [kl] at z
      cases z
/-- the goal that the head leaves, from the law's promise; the script's numbers have at most 2 ^ 20 bits -/
theorem walkG {l : PySem.W.OpenLaw} {n k : Nat} {q : Program} {loose : List Str} {XP : (Str → Option Value) → Heap → Prop} {YP : World → Heap → Prop} {d : DefRec} {K : Params → PySem.W.Frag} {x : Str} (hn : l.most = some n) (hn2 : n ≤ sizeLine) (hdf : d.params.defaults = []) (room : Room k callerA)
    (hY : ∀ (w : World) (h : Heap), YP w h → (K w.params).In h)
    (F : ∀ (w : World) (mg : Str → Option Value) (fa : Addr) (h : Heap), (K w.params).In h → h.Ns mainGlobals mg → mg d.name = some (.ref fa) →
      ∃ fd : FuncData, (∀ (s : Shared) (u : Value), BindsTo s fd ⟨[u], []⟩ [(x, u)]) ∧ ∀ base : Heap, (K w.params).In base → base.Ns mainGlobals mg → FnG l.prog w (K w.params) mg base CX0 k fa fd [x] (fun vs H Q _ => ∃ (a : Addr) (ns : List Int), vs = [.ref a] ∧ SqL (K w.params) H a (ns.map V.int) ∧ ns.length ≤ n ∧ ∀ H', Q (.bl true) H')) :
    PySem.W.WalkO q loose XP YP l.row.toRowW d [] (fun f vs => PySem.call f vs) := by
  refine Att.attach_call hn hdf ?_
  intro w s₀ s₁ mg mb fa o pm cd doc a vs ns G Y _ _ _ hmg script whole short gens
  have kin := hY w _ Y
  obtain ⟨fd, bind, prom⟩ := F w mg fa _ kin G.T.g hmg
  obtain ⟨H, base, seq, kinB, nsB, env, fin⟩ := law_start (P := l.prog) (w := w) kin G.T.g G.T.b G.T.builtins G.T.nolimit gens script whole (Nat.le_trans short hn2)
  refine codeAny_mono ((prom base kinB nsB).run callerA [] s₁ H ⟨[.ref a], []⟩ [.ref a] [.ref a] (fun v _ => v = .bl true) (fun _ _ _ => False) ⟨room, rfl⟩ env (bind s₁ (.ref a)) (.cons rfl .nil) ⟨a, ns, rfl, seq, short, fun _ => rfl⟩) ?_
  intro r s2 out
  cases r with
  | error e => exact out.elim
  | ok flow =>
    cases flow with
    | ret u =>
      obtain ⟨⟨v, rv, z⟩, h1, h2, h3⟩ := fin (fun v => v = .bl true) u s2 out
      subst z
      obtain rfl : u = Value.bool true := rv
      exact ⟨rfl, h1, h2, h3⟩
    | next => exact out.elim
    | brk => exact out.elim
    | cont => exact out.elim
end Vx
/-! # third part: what a def computes, as a plain function with refusals -/
namespace Vx
open PySem PySem.Spec PyProof.Rows L2
inductive Rx (α : Type) where
  | ok (a : α)
  | er (e : Nat)
  | bad
def Rx.bind {α β : Type} (m : Rx α) (f : α → Rx β) : Rx β :=
  match m with
  | .ok a => f a
  | .er e => .er e
  | .bad => .bad
/-- what is wanted of an outcome -/
@[irreducible] def cW {α : Type} (m : Rx α) (K : α → Prop) (E : Nat → Prop) : Prop :=
  match m with
  | .ok a => K a
  | .er e => E e
  | .bad => False
def grd {α : Type} (p : Prop) [Decidable p] (m : Rx α) : Rx α := if p then m else .bad
/-- within a comprehension nothing may be raised -/
def noEr {α : Type} (m : Rx α) : Rx α :=
  match m with
  | .ok a => .ok a
  | _ => .bad
/-- what the clause does not name may not come -/
def tryR {α β : Type} (m : Rx α) (cs : List Nat) (f : α → Rx β) (h : Nat → Rx β) : Rx β :=
  match m with
  | .ok a => f a
  | .er e => if e ∈ cs then h e else .bad
  | .bad => .bad
def bnd {α β : Type} (a : α) (f : α → Rx β) : Rx β := f a
inductive Lp (σ ρ : Type) where
  | go (s : σ)
  | bk (s : σ)
  | rt (r : ρ)
def Lp.aft {σ ρ τ : Type} (l : Lp σ ρ) (kr : ρ → Rx τ) (k : σ → Rx τ) : Rx τ :=
  match l with
  | .go s => k s
  | .bk s => k s
  | .rt r => kr r
def forS {σ α : Type} : List α → σ → (σ → α → Rx σ) → Rx σ
  | [], s, _ => .ok s
  | x :: r, s, f => (f s x).bind fun s' => forS r s' f
def forR {σ α ρ : Type} : List α → σ → (σ → α → Rx (Lp σ ρ)) → Rx (Lp σ ρ)
  | [], s, _ => .ok (.go s)
  | x :: r, s, f => (f s x).bind fun l =>
    match l with
    | .go s' => forR r s' f
    | .bk s' => .ok (.go s')
    | .rt v => .ok (.rt v)
def whileR {σ ρ : Type} : Nat → σ → (σ → Rx (Lp σ ρ)) → Rx (Lp σ ρ)
  | 0, _, _ => .bad
  | n + 1, s, f => (f s).bind fun l =>
    match l with
    | .go s' => whileR n s' f
    | .bk s' => .ok (.go s')
    | .rt v => .ok (.rt v)
def mapA {α β : Type} : List α → List β → (α → Rx β) → Rx (List β)
  | [], acc, _ => .ok acc
  | x :: r, acc, f => grd (acc.length ≤ 1000000) ((f x).bind fun y => mapA r (acc ++ [y]) f)
def mapF {α β : Type} : List α → List β → (α → Rx (Option β)) → Rx (List β)
  | [], acc, _ => .ok acc
  | x :: r, acc, f => grd (acc.length ≤ 1000000) ((f x).bind fun y =>
    match y with
    | some z => mapF r (acc ++ [z]) f
    | none => mapF r acc f)
section
variable {α β γ σ ρ τ : Type} {K : α → Prop} {E : Nat → Prop}
theorem cW_ok {a : α} (h : cW (.ok a) K E) : K a := by
  unfold cW at h
  exact h
theorem cW_er {e : Nat} (h : cW (.er e : Rx α) K E) : E e := by
  unfold cW at h
  exact h
theorem cW_bad {C : Prop} (h : cW (.bad : Rx α) K E) : C := by
  unfold cW at h
  exact h.elim
theorem cW_mk {a : α} (h : K a) : cW (.ok a) K E := by
  unfold cW
  exact h
theorem cW_mkE {e : Nat} (h : E e) : cW (.er e : Rx α) K E := by
  unfold cW
  exact h
theorem cW_gen {m : Rx α} (h : cW m K E) : ∃ (K' : α → Prop) (E' : Nat → Prop), (∀ v, K' v → K v) ∧ (∀ e, E' e → E e) ∧ cW m K' E' := ⟨K, E, fun _ x => x, fun _ x => x, h⟩
theorem cW_grd {p : Prop} {dp : Decidable p} {m : Rx α} (h : cW (grd p m) K E) : p ∧ cW m K E := by
  unfold grd at h
  split at h
  · exact ⟨‹p›, h⟩
  · exact cW_bad h
theorem cW_pos {p : Prop} {dp : Decidable p} {a b : Rx α} (c : p) (h : cW (if p then a else b) K E) : cW a K E := by rwa [if_pos c] at h
theorem cW_neg {p : Prop} {dp : Decidable p} {a b : Rx α} (c : ¬ p) (h : cW (if p then a else b) K E) : cW b K E := by rwa [if_neg c] at h
theorem cW_call {m : Rx β} {f : β → Rx α} {K2 : β → Prop} {E2 : Nat → Prop} (h : cW (m.bind f) K E) (ho : ∀ v, cW (f v) K E → K2 v) (he : ∀ e, E e → E2 e) : cW m K2 E2 := by
  cases m with
  | ok a => exact cW_mk (ho a h)
  | er e => exact cW_mkE (he e (cW_er (α := α) h))
  | bad => exact cW_bad (α := α) h
theorem cW_push {m : Rx β} {f : β → Rx α} (h : cW (m.bind f) K E) : ∃ K2 : β → Prop, (∀ v, K2 v → cW (f v) K E) ∧ cW m K2 E := ⟨fun v => cW (f v) K E, fun _ x => x, cW_call h (fun _ x => x) fun _ x => x⟩
theorem cW_name {m : Rx α} (h : cW m K E) : ∃ K' : α → Prop, (∀ v, K' v → K v) ∧ cW m K' E := ⟨K, fun _ x => x, h⟩
theorem cW_noEr {m : Rx α} (h : cW (noEr m) K E) : cW m K (fun _ => False) := by
  cases m with
  | ok a => exact cW_mk (cW_ok (α := α) h)
  | er e => exact cW_bad (α := α) h
  | bad => exact cW_bad (α := α) h
theorem cW_try {m : Rx β} {cs : List Nat} {f : β → Rx α} {g : Nat → Rx α} {K2 : β → Prop} {E2 : Nat → Prop} (h : cW (tryR m cs f g) K E) (ho : ∀ v, cW (f v) K E → K2 v) (hc : ∀ e, e ∈ cs → cW (g e) K E → E2 e) : cW m K2 E2 := by
  cases m with
  | ok a => exact cW_mk (ho a h)
  | er e =>
    have h2 : cW (if e ∈ cs then g e else .bad) K E := h
    by_cases q : e ∈ cs
    · exact cW_mkE (hc e q (cW_pos q h2))
    · exact cW_bad (cW_neg q h2)
  | bad => exact cW_bad (α := α) h
theorem cW_bnd {a : β} {f : β → Rx α} (h : cW (bnd a f) K E) : cW (f a) K E := h
theorem cW_negB {b : Bool} {x y : Rx α} (c : b = false) (h : cW (if b = true then x else y) K E) : cW y K E := cW_neg (by rw [c]; decide) h
theorem cW_forS {xs : List β} {i : Nat} {x : β} {s : α} {f : α → β → Rx α} (hx : xs[i]? = some x) (h : cW (forS (xs.drop i) s f) K E) : cW (f s x) (fun s' => cW (forS (xs.drop (i + 1)) s' f) K E) E := by
  rw [List.drop_eq_getElem?_toList_append, hx] at h
  exact cW_call h (fun _ z => z) fun _ z => z
theorem cW_forS0 {xs : List β} {n : Nat} {s : α} {f : α → β → Rx α} (hn : n = xs.length) (h : cW (forS (xs.drop n) s f) K E) : K s := by
  subst hn
  rw [List.drop_length] at h
  exact cW_ok h
theorem cW_forR {K : Lp σ ρ → Prop} {xs : List β} {i : Nat} {x : β} {s : σ} {f : σ → β → Rx (Lp σ ρ)} (hx : xs[i]? = some x) (h : cW (forR (xs.drop i) s f) K E) :
    cW (f s x) (fun l => match l with | .go s' => cW (forR (xs.drop (i + 1)) s' f) K E | .bk s' => K (.go s') | .rt v => K (.rt v)) E := by
  rw [List.drop_eq_getElem?_toList_append, hx] at h
  refine cW_call h (fun l z => ?_) fun _ z => z
  cases l with
  | go s' => exact z
  | bk s' => exact cW_ok (K := K) (a := .go s') z
  | rt v => exact cW_ok (K := K) (a := .rt v) z
theorem cW_forR0 {K : Lp σ ρ → Prop} {xs : List β} {n : Nat} {s : σ} {f : σ → β → Rx (Lp σ ρ)} (hn : n = xs.length) (h : cW (forR (xs.drop n) s f) K E) : K (.go s) := by
  subst hn
  rw [List.drop_length] at h
  exact cW_ok h
theorem cW_whileR {K : Lp σ ρ → Prop} {m : Nat} {s : σ} {f : σ → Rx (Lp σ ρ)} (h : cW (whileR m s f) K E) :
    ∃ n, m = n + 1 ∧ cW (f s) (fun l => match l with | .go s' => cW (whileR n s' f) K E | .bk s' => K (.go s') | .rt v => K (.rt v)) E := by
  cases m with
  | zero => exact cW_bad h
  | succ n =>
    refine ⟨n, rfl, cW_call h (fun l z => ?_) fun _ z => z⟩
    cases l with
    | go s' => exact z
    | bk s' => exact cW_ok (K := K) (a := .go s') z
    | rt v => exact cW_ok (K := K) (a := .rt v) z
theorem cW_mapA {K : List α → Prop} {xs : List β} {acc : List α} {i : Nat} {x : β} {f : β → Rx α} (hx : xs[i]? = some x) (h : cW (mapA (xs.drop i) acc f) K E) :
    acc.length ≤ 1000000 ∧ cW (f x) (fun y => cW (mapA (xs.drop (i + 1)) (acc ++ [y]) f) K E) E := by
  rw [List.drop_eq_getElem?_toList_append, hx] at h
  obtain ⟨z, h⟩ := cW_grd h
  exact ⟨z, cW_call h (fun _ z => z) fun _ z => z⟩
theorem cW_mapA0 {K : List α → Prop} {xs : List β} {acc : List α} {n : Nat} {f : β → Rx α} (hn : n = xs.length) (h : cW (mapA (xs.drop n) acc f) K E) : K acc := by
  subst hn
  rw [List.drop_length] at h
  exact cW_ok h
theorem cW_mapF {K : List α → Prop} {xs : List β} {acc : List α} {i : Nat} {x : β} {f : β → Rx (Option α)} (hx : xs[i]? = some x) (h : cW (mapF (xs.drop i) acc f) K E) :
    acc.length ≤ 1000000 ∧ cW (f x) (fun y => match y with | some z => cW (mapF (xs.drop (i + 1)) (acc ++ [z]) f) K E | none => cW (mapF (xs.drop (i + 1)) acc f) K E) E := by
  rw [List.drop_eq_getElem?_toList_append, hx] at h
  obtain ⟨z, h⟩ := cW_grd h
  refine ⟨z, cW_call h (fun y z => ?_) fun _ z => z⟩
  cases y with
  | none => exact z
  | some w => exact z
theorem cW_mapF0 {K : List α → Prop} {xs : List β} {acc : List α} {n : Nat} {f : β → Rx (Option α)} (hn : n = xs.length) (h : cW (mapF (xs.drop n) acc f) K E) : K acc := by
  subst hn
  rw [List.drop_length] at h
  exact cW_ok h
end
/-- the numbers of a range -/
def rng (lo : Int) (n : Nat) : List Int := (List.range n).map fun (j : Nat) => lo + (j : Int)
theorem rng_get {lo : Int} {n i : Nat} (h : i < n) : (rng lo n)[i]? = some (lo + (i : Int)) := by
  unfold rng
  rw [List.getElem?_map, List.getElem?_range h] <;> rfl
theorem rng_len (lo : Int) (n : Nat) : (rng lo n).length = n := by
  unfold rng
  rw [List.length_map, List.length_range]

def rngD (lo : Int) (n : Nat) : List Int := (List.range n).map fun (j : Nat) => lo + (j : Int) * (-1)
theorem rngD_get {lo : Int} {n i : Nat} (h : i < n) : (rngD lo n)[i]? = some (lo + (i : Int) * (-1)) := by
  unfold rngD
  rw [List.getElem?_map, List.getElem?_range h] <;> rfl
theorem rngD_len (lo : Int) (n : Nat) : (rngD lo n).length = n := by
  unfold rngD
  rw [List.length_map, List.length_range]

/-! ### calls that may raise -/
/-- what a call with n values and keywords ks gives the parameters -/
structure Bnd (K : PySem.W.Frag) (fd : FuncData) (ps : List Str) (n : Nat) (ks : List Str) (g : List V → List V → List V) : Prop where
  to : ∀ (s : Shared) (us ws : List Value) (vs zs : List V), K.In s.heap → vs.length = n → zs.length = ks.length → Vals vs us → Vals zs ws → ∃ vv : List Value, BindsTo s fd ⟨us, ks.zip ws⟩ (ps.zip vv) ∧ Vals (g vs zs) vv
theorem Bnd.of_kbn {K : PySem.W.Frag} {fd : FuncData} {ps ks : List Str} {n : Nat} {g : List Value → List Value → List Value} {gV : List V → List V → List V} (b : KBn K fd ps n ks g gV) : Bnd K fd ps n ks gV :=
  ⟨fun s us ws vs zs X l1 l2 r rz => ⟨g us ws, b.to s us ws X (r.length.symm.trans l1) (rz.length.symm.trans l2), b.rel r rz⟩⟩
theorem Bnd.all {K : PySem.W.Frag} {fd : FuncData} {ps ks : List Str} {n : Nat} {g : List V → List V → List V} (h : ∀ (us ws : List Value) (vs zs : List V), vs.length = n → zs.length = ks.length → Vals vs us → Vals zs ws →
    ∃ vv : List Value, bindArgs fd ⟨us, ks.zip ws⟩ = pure (ps.zip vv) ∧ Vals (g vs zs) vv) : Bnd K fd ps n ks g :=
  ⟨fun s us ws vs zs _ l1 l2 r rz => by
    obtain ⟨vv, e, q⟩ := h us ws vs zs l1 l2 r rz
    exact ⟨vv, BindsTo.of_eq e, q⟩⟩
abbrev Pat := Nat × List Str × (List V → List V → List V)
def Bnd1 (K : PySem.W.Frag) (fd : FuncData) (ps : List Str) (p : Pat) : Prop := Bnd K fd ps p.1 p.2.1 p.2.2
section
variable {P : Program} {w : World} {K : PySem.W.Frag} {mg : Str → Option Value} {base : Heap}
/-- a def of the top, with the ways it is called -/
structure DefX (K : PySem.W.Frag) (mg : Str → Option Value) (x : Str) (st : Stmt) (ps : List Str) (pats : List Pat) : Prop where
  ex : ∃ (f : Addr) (fd : FuncData) (dvs : List V) (kws : List (Str × V)), FunD K x x (defArgs st) (defBody st) (defScope st) dvs kws f fd ∧ mg x = some (.ref f) ∧ ∀ p ∈ pats, Bnd1 K fd ps p
structure CalX (P : Program) (w : World) (K : PySem.W.Frag) (mg : Str → Option Value) (base : Heap) (k : Nat) (x : Str) (sp : Sp) (pats : List Pat) : Prop where
  ex : ∃ (f : Addr) (fd : FuncData) (ps : List Str), FnG P w K mg base (L2.CX P w) k f fd ps sp ∧ mg x = some (.ref f) ∧ PySem.W.keepIn K (.ref f) = true ∧ ∀ p ∈ pats, Bnd1 K fd ps p
abbrev BodyX (P : Program) (w : World) (K : PySem.W.Frag) (mg : Str → Option Value) (base : Heap) (x : Str) (st : Stmt) (N : List Str) (k : Nat) (sp : Sp) : Prop :=
  ∀ (f : Addr) (cdv : Value) (A : Around) (outer : List Env) (s : Shared) (H : Hp) (vs : List V) (Q : VK) (E : XK), RoomG k (A.deeper (envOfC x (defScope st) s.heap.objs.size f cdv)) → sp vs H Q E →
    ∃ t, PSs (cxOf (L2.CX P w) P w K mg base N x (defScope st) f cdv A outer s H E) (defBody st) t ∧ t { nx := fun _ H' => Q .non H', rt := Q } (start N vs) H
theorem DefX.ok {x : Str} {st : Stmt} {N ps : List Str} {pats : List Pat} {k : Nat} {sp : Sp} (D : DefX K mg x st ps pats) (S : FnScope N ps (defScope st)) (len : ∀ vs H Q E, sp vs H Q E → vs.length = ps.length)
    (hbody : BodyX P w K mg base x st N k sp) : CalX P w K mg base (k + 1) x sp pats := by
  obtain ⟨f, fd, dvs, kws, F, hm, b⟩ := D.ex
  exact ⟨f, fd, ps, FnG.body F S len (fun cdv A outer s H vs Q E hr h => hbody f cdv A outer s H vs Q E hr h), hm, F.kp, b⟩
end
section
variable {X : Cx} {k j n : Nat} {f : Addr} {fd : FuncData} {ps ks : List Str} {g : List V → List V → List V} {sp : Sp} {x : Str} {pos p : Pos} {e : Expr} {es : List Expr} {kws : List Keyword} {t tk : TA} {W : WX}
theorem run_X {pins : List (Addr × Obj)} {σ : L2.St} {H : Hp} {s : Shared} {Q : VK} {us ws : List Value} {vs zs : List V} (F : FnG X.prog X.w X.K X.mg X.base (L2.CX X.prog X.w) k f fd ps sp) (hr : RoomG k X.A) (hb : Bnd X.K fd ps n ks g) (tkW : Takes X W)
    (I : Inv X pins σ H s) (r : Vals vs us) (rz : Vals zs ws) (l1 : vs.length = n) (l2 : zs.length = ks.length) (h : sp (g vs zs) H Q (WE W σ)) :
    wpAny (model X.prog X.w) X.A (call (.ref f) us (ks.zip ws)) (EP X pins σ Q) X.xe s := by
  obtain ⟨vv, b, r2⟩ := hb.to s us ws vs zs I.kIn l1 l2 r rz
  refine wpAny_call (codeAny_mono (F.run X.A X.stack s H ⟨us, ks.zip ws⟩ vv (g vs zs) Q (WE W σ) hr I.env0 b r2 h) fun rr s' hq => ?_)
  cases rr with
  | error er => exact passAt tkW σ pins H s er s' I hq
  | ok fl =>
    cases fl with
    | ret u => exact I.after hq
    | next => exact hq.elim
    | brk => exact hq.elim
    | cont => exact hq.elim
/-- f(e, .., k = v, ..) -/
def tCallX (n m : Nat) (sp : Sp) (g : List V → List V → List V) (W : WX) (t tk : TA) : TE := fun σ H Q => t σ H fun vs H1 => tk σ H1 fun zs H2 => vs.length = n ∧ zs.length = m ∧ sp (g vs zs) H2 Q (WE W σ)
theorem vx_callX {pats : List Pat} (c : CalX X.prog X.w X.K X.mg X.base k x sp pats) (pt : Pat) (hpt : pt ∈ pats) (hr : RoomG j X.A) (hk : k ≤ j) (tkW : Takes X W) (hg : Gl X x) (ha : PA X (e :: es) t) (hkw : PK X kws tk)
    (hall : (backToKw pos (keywordEach kws X.env)).all (·.1.isSome) = true := by rfl) (hks : (backToKw pos (keywordEach kws X.env)).filterMap (·.1) = pt.2.1 := by rfl)
    (hdb : (x == ("__debug__" : Str)) = false := by decide) (he : starEach (e :: es) X.env = (false, eval e X.env) :: starEach es X.env := by rfl)
    (hpl : ((backTo pos (starEach (e :: es) X.env)).any (·.1) || (backToKw pos (keywordEach kws X.env)).any (·.1.isNone)) = false := by rfl) :
    PE X (.Call (.Name x p) (e :: es) kws pos) (tCallX pt.1 pt.2.1.length sp pt.2.2 W t tk) := by
  obtain ⟨f, fd, ps, F, hm, kp, b⟩ := c.ex
  refine ⟨fun pins s σ H Q I h => ?_⟩
  refine wpAny_Call_Name_kw (ld_glob I hg hm ?_ hdb)
  refine PySem.W.callWith_KW (h₀ := X.base) I.ok.mod.kin kp hall (thn (ha.run pos pins s σ H _ I h) fun us s1 ⟨vs, H1, I1, r, q⟩ => ?_) hpl he
  refine thn (hkw.run pos pins s1 σ H1 _ I1 q) fun ws s2 ⟨zs, H2, I2, rz, l1, l2, q2⟩ => ⟨I2.kIn, ?_⟩
  rw [hks]
  exact run_X F (hr.low hk) (b pt hpt) tkW I2 r rz l1 l2 q2
theorem vx_callX0 {pats : List Pat} (c : CalX X.prog X.w X.K X.mg X.base k x sp pats) (pt : Pat) (hpt : pt ∈ pats) (hr : RoomG j X.A) (hk : k ≤ j) (tkW : Takes X W) (hg : Gl X x) (hks : pt.2.1 = [] := by rfl)
    (hdb : (x == ("__debug__" : Str)) = false := by decide) : PE X (.Call (.Name x p) [] [] pos) (tCallX pt.1 pt.2.1.length sp pt.2.2 W tNil tNil) := by
  obtain ⟨f, fd, ps, F, hm, kp, b⟩ := c.ex
  refine ⟨fun pins s σ H Q I h => ?_⟩
  refine wpAny_Call_Name_kw (ld_glob I hg hm ?_ hdb)
  obtain ⟨l1, l2, q2⟩ := h
  have hz := run_X (us := []) (ws := []) F (hr.low hk) (b pt hpt) tkW I .nil .nil l1 l2 q2
  rw [hks] at hz
  exact PySem.W.callWith_K0 I.kIn kp hz
end
/-! ### borrowed things -/
theorem Sep.bM {M : List Addr} {H0 G0 G H : Hp} {O : List (Addr)} (S : Sep M H0 G0 G H O) : Same (hideL M H0) H := fun b o e => by
  by_cases h : b ∈ M
  · rw [hideL_in h] at e
    cases e
  · rw [hideL_out h] at e
    exact S.base b o e h
theorem b_ne {M : List Addr} {H0 G0 G H : Hp} {O : List Addr} {a b : Addr} {o : HO} (h : (hideL M H0) a = some o) (S : Sep M H0 G0 G H O) (hb : b ∈ O) : a ≠ b := fun z => by
  subst z
  rcases (S.ow a hb).2.2 with q | q
  · rw [hideL_in q] at h
    cases h
  · by_cases hM : a ∈ M
    · rw [hideL_in hM] at h
      cases h
    · rw [hideL_out hM, q] at h
      cases h
theorem hide0 {H : Hp} : hideL [] H = H := by
  funext b
  unfold hideL
  rw [if_neg List.not_mem_nil]
theorem hide_nil {H : Hp} {a : Addr} {o : HO} (h : H a = some o) : (hideL [] H) a = some o := by
  rw [hide0]
  exact h
theorem Rp.hide_nil {H : Hp} {v : V} {d : PyData} (h : Rp H v d) : Rp (hideL [] H) v d := by
  rw [hide0]
  exact h
theorem Sep.startM {M : List Addr} {G H : Hp} (e : Same G H) (hM : ∀ a ∈ M, H a ≠ none) (hG : ∀ a ∈ M, G a = none) : Sep M H G G H M :=
  ⟨fun _ _ e _ => e, hM, e, Same.refl _, fun _ _ e => e, fun a ha => ⟨hG a ha, hM a ha, .inl ha⟩⟩
theorem Sep.gno {M : List Addr} {H0 G0 G H : Hp} {O L : List Addr} (S : Sep M H0 G0 G H O) (h : ∀ a ∈ L, a ∈ O) : ∀ a ∈ L, G a = none := fun a ha => (S.ow a (h a ha)).1
theorem RpAll.ixD {α : Type} [Inhabited α] {f : α → PyData} {H : Hp} {vs : List V} {xs : List α} {k : Int} (r : RpAll H vs (xs.map f)) (h : -(xs.length : Int) ≤ k ∧ k < xs.length) : ∃ v, atI vs k = some v ∧ Rp H v (f (itD xs k)) := by
  obtain ⟨v, x, h1, h2, h3⟩ := RpAll.ix r h
  refine ⟨v, h1, ?_⟩
  unfold itD
  rw [h2]
  exact h3
theorem tru_all {α : Type} [DecidableEq α] {f : α → PyData} {H : Hp} {vs : List V} {xs : List α} (r : RpAll H vs (xs.map f)) : (!decide (xs = [])) = !vs.isEmpty := by
  have h := r.len
  rw [List.length_map] at h
  cases xs <;> cases vs <;> simp_all
theorem ix_nn {α : Type} {xs : List α} {k : Int} (h0 : 0 ≤ k) (h1 : k < xs.length) : -(xs.length : Int) ≤ k ∧ k < xs.length := ⟨by omega, h1⟩
theorem all_nilQ {α : Type} {P : α → Prop} : ∀ x ∈ ([] : List α), P x := fun x h => by cases h
theorem all_consQ {α : Type} {P : α → Prop} {a : α} {l : List α} (h : P a) (t : ∀ x ∈ l, P x) : ∀ x ∈ a :: l, P x := fun x hx => by
  rcases List.mem_cons.mp hx with rfl | hx
  · exact h
  · exact t x hx
theorem mem_one {a b : Nat} (h : a ∈ [b]) : a = b := by simpa using h
theorem mem_cons2 {a b : Nat} {l : List Nat} (h : a ∈ b :: l) : a = b ∨ a ∈ l := List.mem_cons.mp h
theorem len0 {α : Type} {l : List α} (h : l.length = 0) : l = [] := List.length_eq_zero_iff.mp h
theorem len1 {α : Type} {l : List α} (h : l.length = 1) : ∃ a, l = [a] := List.length_eq_one_iff.mp h
theorem len_s {α : Type} {l : List α} {n : Nat} (h : l.length = n + 1) : ∃ a r, l = a :: r ∧ r.length = n := by
  cases l with
  | nil => cases h
  | cons a r => exact ⟨a, r, rfl, Nat.succ.inj h⟩
theorem len2 {α : Type} {l : List α} (h : l.length = 2) : ∃ a b, l = [a, b] := by
  obtain ⟨a, r, rfl, h2⟩ := len_s h
  obtain ⟨b, rfl⟩ := len1 h2
  exact ⟨a, b, rfl⟩
theorem len3 {α : Type} {l : List α} (h : l.length = 3) : ∃ a b c, l = [a, b, c] := by
  obtain ⟨a, r, rfl, h2⟩ := len_s h
  obtain ⟨b, c, rfl⟩ := len2 h2
  exact ⟨a, b, c, rfl⟩
theorem len4 {α : Type} {l : List α} (h : l.length = 4) : ∃ a b c d, l = [a, b, c, d] := by
  obtain ⟨a, r, rfl, h2⟩ := len_s h
  obtain ⟨b, c, d, rfl⟩ := len3 h2
  exact ⟨a, b, c, d, rfl⟩
theorem len5 {α : Type} {l : List α} (h : l.length = 5) : ∃ a b c d e, l = [a, b, c, d, e] := by
  obtain ⟨a, r, rfl, h2⟩ := len_s h
  obtain ⟨b, c, d, e, rfl⟩ := len4 h2
  exact ⟨a, b, c, d, e, rfl⟩
theorem len6 {α : Type} {l : List α} (h : l.length = 6) : ∃ a b c d e f, l = [a, b, c, d, e, f] := by
  obtain ⟨a, r, rfl, h2⟩ := len_s h
  obtain ⟨b, c, d, e, f, rfl⟩ := len5 h2
  exact ⟨a, b, c, d, e, f, rfl⟩
theorem len7 {α : Type} {l : List α} (h : l.length = 7) : ∃ a b c d e f g, l = [a, b, c, d, e, f, g] := by
  obtain ⟨a, r, rfl, h2⟩ := len_s h
  obtain ⟨b, c, d, e, f, g, rfl⟩ := len6 h2
  exact ⟨a, b, c, d, e, f, g, rfl⟩
def rLenTK (K : PySem.W.Frag) : List V → Hp → VK → Prop := fun xs H Q => ∃ (p : Addr) (vs : List V) (n : Nat), xs = [.ref p] ∧ SqT K H p vs ∧ vs.length = n ∧ Q (.int (n : Int)) H
theorem call_lenTK {X : Cx} {K : PySem.W.Frag} (hK : X.K = K := by rfl) : CallR X (.builtin "len") (rLenTK K) := by
  subst hK
  intro pins s σ H xs us Q I r h
  obtain ⟨p, vs, n, rfl, hs, hn, q⟩ := h
  exact call_len_seq pins s σ H _ us Q I r ⟨p, _, rfl, Or.inr hs, by rw [hn]; exact q⟩
theorem exm_mk {K : PySem.W.Frag} {S C : Addr} (h1 : PySem.W.subIn K (.ref C) (.type "BaseException") = some true) (h2 : PySem.W.isClsIn K C = true) (h3 : PySem.W.typeIn K (.ref C) = some (.type "type")) (h4 : PySem.W.subIn K (.ref S) (.ref C) = some true) :
    PySem.W.exmOne K (.ref S) (.ref C) = some true := by
  unfold PySem.W.isClsIn at h2
  unfold PySem.W.exmOne
  unfold PySem.W.kitCls
  simp only [h1, h2, h3, h4, beq_self_eq_true, Bool.and_self, if_true]
theorem kit_mk {K : PySem.W.Frag} {S C : Addr} (h2 : PySem.W.isClsIn K C = true) (h3 : PySem.W.typeIn K (.ref C) = some (.type "type")) (h4 : PySem.W.subIn K (.ref S) (.ref C) = some true) :
    PySem.W.kitOne K (.ref S) (.ref C) = some true := by
  unfold PySem.W.isClsIn at h2
  unfold PySem.W.kitOne
  split
  · rfl
  · unfold PySem.W.kitCls
    simp only [h2, h3, h4, beq_self_eq_true, Bool.and_self, if_true]
/-- isinstance(e, C) of the exception in hand -/
def rIsX (K : PySem.W.Frag) (a : Addr) (cls : Value) (d : Option Addr) : List V → Hp → VK → Prop := fun xs H Q => ∃ (D C : Addr) (b : Bool), cls = .ref D ∧ d = none ∧ ExcC K D ∧ xs = [.ref a, .ref C] ∧ PySem.W.kitOne K (.ref D) (.ref C) = some b ∧ Q (.bl b) H
theorem call_isX {X : Cx} {K : PySem.W.Frag} {a : Addr} {cls : Value} {d : Option Addr} {oe : Obj} {pn : List (Addr × Obj)} (hz : Zc cls d oe) (hf : ∃ vs, oe.data = .fields vs) (hK : X.K = K := by rfl) : CallR (X.suite a ((a, oe) :: pn)) (.builtin "isinstance") (rIsX K a cls d) := by
  subst hK
  intro pins s σ H xs us Q I r h
  obtain ⟨D, C, b, rfl, rfl, c, rfl, e, q⟩ := h
  exact call_isE c hz hf pins s σ H _ us Q I r ⟨_, _, b, rfl, fun u z => z, e, q⟩
/-! ### unpacking a list -/
section
variable {X : Cx} {K : PySem.W.Frag} {pos : Pos}
theorem pg_seqK {es : List Expr} {k : Nat} {t : TGs} {n : Nat} (h : PGs X es t) (hc : X.calm = true := by rfl) (hK : X.K = K := by rfl)
    (hn : (assignEach es X.env).length = n := by rfl) (hst : (assignEach es X.env).findIdx? (·.1) = none := by rfl) : PG X (.Tuple es k pos) (gLst K n t) := hK ▸ pg_lst hc h hn hst
end
theorem SqL.cast {K : PySem.W.Frag} {H : Hp} {a : Addr} {xs ys : List V} (h : SqL K H a xs) (e : xs = ys) : SqL K H a ys := e ▸ h
section
variable {α : Type} [Inhabited α] {f : α → V}
theorem unp2 {xs : List α} (h : xs.length = 2) : xs.map f = [f (itD xs 0), f (itD xs 1)] := by
  obtain ⟨a, b, rfl⟩ := len2 h
  rfl
theorem unp3 {xs : List α} (h : xs.length = 3) : xs.map f = [f (itD xs 0), f (itD xs 1), f (itD xs 2)] := by
  obtain ⟨a, b, c, rfl⟩ := len3 h
  rfl
theorem unp4 {xs : List α} (h : xs.length = 4) : xs.map f = [f (itD xs 0), f (itD xs 1), f (itD xs 2), f (itD xs 3)] := by
  obtain ⟨a, b, c, d, rfl⟩ := len4 h
  rfl
theorem unp6 {xs : List α} (h : xs.length = 6) : xs.map f = [f (itD xs 0), f (itD xs 1), f (itD xs 2), f (itD xs 3), f (itD xs 4), f (itD xs 5)] := by
  obtain ⟨a, b, c, d, e, g, rfl⟩ := len6 h
  rfl
theorem unp8 {xs : List α} (h : xs.length = 8) : xs.map f = [f (itD xs 0), f (itD xs 1), f (itD xs 2), f (itD xs 3), f (itD xs 4), f (itD xs 5), f (itD xs 6), f (itD xs 7)] := by
  obtain ⟨a, r, rfl, h2⟩ := len_s h
  obtain ⟨b, c, d, e, g, i, j, rfl⟩ := len7 h2
  rfl
end
/-! ### classes -/
section
variable {P : Program} {w : World} {K : PySem.W.Frag} {mg : Str → Option Value} {base : Heap}
structure MethX (K : PySem.W.Frag) (C : Addr) (q m : Str) (st : Stmt) (ps : List Str) (pats : List Pat) : Prop where
  ex : ∃ (f : Addr) (fd : FuncData) (dvs : List V) (kws : List (Str × V)), FunD K m q (defArgs st) (defBody st) (defScope st) dvs kws f fd ∧ Meth K C m f ∧ ∀ p ∈ pats, Bnd1 K fd ps p
structure InitX (K : PySem.W.Frag) (mg : Str → Option Value) (C : Addr) (cn q : Str) (st : Stmt) (ps : List Str) (pats : List Pat) : Prop where
  ex : ∃ (f : Addr) (fd : FuncData) (dvs : List V) (kws : List (Str × V)), FunD K "__init__" q (defArgs st) (defBody st) (defScope st) dvs kws f fd ∧ Mk K C f ∧ mg cn = some (.ref C) ∧ ∀ p ∈ pats, Bnd1 K fd ps p
structure PropX (K : PySem.W.Frag) (C : Addr) (q m : Str) (st : Stmt) (ps : List Str) (pats : List Pat) : Prop where
  ex : ∃ (r f : Addr) (fd : FuncData) (dvs : List V) (kws : List (Str × V)), FunD K m q (defArgs st) (defBody st) (defScope st) dvs kws f fd ∧ PropOf K C m r f ∧ Binds K fd ps []
structure MetX (P : Program) (w : World) (K : PySem.W.Frag) (mg : Str → Option Value) (base : Heap) (k : Nat) (C : Addr) (m : Str) (sp : Sp) (pats : List Pat) : Prop where
  ex : ∃ (f : Addr) (fd : FuncData) (ps : List Str), Cls K C ∧ Meth K C m f ∧ FnG P w K mg base (L2.CX P w) k f fd ps sp ∧ ∀ p ∈ pats, Bnd1 K fd ps p
structure PropY (P : Program) (w : World) (K : PySem.W.Frag) (mg : Str → Option Value) (base : Heap) (k : Nat) (C : Addr) (m : Str) (sp : Sp) (pats : List Pat) : Prop where
  ex : ∃ (q f : Addr) (fd : FuncData) (ps : List Str), Cls K C ∧ PropOf K C m q f ∧ FnG P w K mg base (L2.CX P w) k f fd ps sp ∧ Binds K fd ps []
structure MakX (P : Program) (w : World) (K : PySem.W.Frag) (mg : Str → Option Value) (base : Heap) (k : Nat) (cn : Str) (C : Addr) (sp : Sp) (pats : List Pat) : Prop where
  ex : ∃ (f : Addr) (fd : FuncData) (ps : List Str), Mk K C f ∧ FnG P w K mg base (L2.CX P w) k f fd ps sp ∧ mg cn = some (.ref C) ∧ ∀ p ∈ pats, Bnd1 K fd ps p
theorem MethX.ok {C : Addr} {q m : Str} {st : Stmt} {N ps : List Str} {pats : List Pat} {k : Nat} {sp : Sp} (D : MethX K C q m st ps pats) (c : Cls K C) (S : FnScope N ps (defScope st)) (len : ∀ vs H Q E, sp vs H Q E → vs.length = ps.length)
    (hbody : BodyX P w K mg base q st N k sp) : MetX P w K mg base (k + 1) C m sp pats := by
  obtain ⟨f, fd, dvs, kws, F, me, b⟩ := D.ex
  exact ⟨f, fd, ps, c, me, FnG.body F S len (fun cdv A outer s H vs Q E hr h => hbody f cdv A outer s H vs Q E hr h), b⟩
theorem PropX.ok {C : Addr} {q m : Str} {st : Stmt} {N ps : List Str} {pats : List Pat} {k : Nat} {sp : Sp} (D : PropX K C q m st ps pats) (c : Cls K C) (S : FnScope N ps (defScope st)) (len : ∀ vs H Q E, sp vs H Q E → vs.length = ps.length)
    (hbody : BodyX P w K mg base q st N k sp) : PropY P w K mg base (k + 1) C m sp pats := by
  obtain ⟨r, f, fd, dvs, kws, F, me, b⟩ := D.ex
  exact ⟨r, f, fd, ps, c, me, FnG.body F S len (fun cdv A outer s H vs Q E hr h => hbody f cdv A outer s H vs Q E hr h), b⟩
theorem InitX.ok {C : Addr} {cn q : Str} {st : Stmt} {N ps : List Str} {pats : List Pat} {k : Nat} {sp : Sp} (D : InitX K mg C cn q st ps pats) (S : FnScope N ps (defScope st)) (len : ∀ vs H Q E, sp vs H Q E → vs.length = ps.length)
    (hbody : BodyX P w K mg base q st N k sp) : MakX P w K mg base (k + 1) cn C sp pats := by
  obtain ⟨f, fd, dvs, kws, F, me, hm, b⟩ := D.ex
  exact ⟨f, fd, ps, me, FnG.body F S len (fun cdv A outer s H vs Q E hr h => hbody f cdv A outer s H vs Q E hr h), hm, b⟩
end
theorem cW_callN {α β : Type} {m : Rx β} {f : β → Rx α} {K : α → Prop} {E : Nat → Prop} {K2 : β → Prop} {E2 : Nat → Prop} (h : cW ((noEr m).bind f) K E) (ho : ∀ v, cW (f v) K E → K2 v) (_ : True) : cW m K2 E2 := by
  cases m with
  | ok a => exact cW_mk (ho a h)
  | er e => exact cW_bad (α := α) h
  | bad => exact cW_bad (α := α) h
section
variable {X : Cx} {k j n : Nat} {f C : Addr} {fd : FuncData} {ps ks : List Str} {g : List V → List V → List V} {sp : Sp} {x m : Str} {pos p apos : Pos} {e o : Expr} {es : List Expr} {kws : List Keyword} {ta : TE} {t tk : TA} {W : WX}
theorem run_mkX {pins : List (Addr × Obj)} {σ : L2.St} {H : Hp} {s : Shared} {Q : VK} {us ws : List Value} {vs zs : List V} (M : Mk X.K C f) (F : FnG X.prog X.w X.K X.mg X.base (L2.CX X.prog X.w) k f fd ps sp) (hr : RoomG (k + 1) X.A) (hb : Bnd X.K fd ps n ks g) (tkW : Takes X W)
    (I : Inv X pins σ H s) (r : Vals vs us) (rz : Vals zs ws) (l1 : vs.length + 1 = n) (l2 : zs.length = ks.length)
    (h : ∀ x dx, H x = none → H dx = none → dx ≠ x → sp (g (.ref x :: vs) zs) (upd (upd H dx (.own x)) x (.ins C dx [])) (fun v H2 => v = .non ∧ Q (.ref x) H2) (WE W σ)) :
    wpAny (model X.prog X.w) X.A (call (.ref C) us (ks.zip ws)) (EP X pins σ Q) X.xe s := by
  have hq := h (s.heap.objs.size + 1) s.heap.objs.size (I.hok.fresh (Nat.le_succ _)) (I.hok.fresh (Nat.le_refl _)) (Nat.ne_of_lt (Nat.lt_succ_self _))
  have I2 := Inv.made (C := C) I
  have r1 : Vals (V.ref (s.heap.objs.size + 1) :: vs) (Value.ref (s.heap.objs.size + 1) :: us) := .cons rfl r
  obtain ⟨vv, b, r2⟩ := hb.to _ (Value.ref (s.heap.objs.size + 1) :: us) ws (V.ref (s.heap.objs.size + 1) :: vs) zs I2.kIn (by rw [List.length_cons, l1]) l2 r1 rz
  refine wpAny_call (make_map (f := f) I.kIn M.makes M.init (beq_iff_eq.mp M.fn) (codeAny_mono (F.run _ X.stack _ _ ⟨Value.ref (s.heap.objs.size + 1) :: us, ks.zip ws⟩ vv _ _ (WE W σ) (hr.made C us (ks.zip ws))
    (I2.env0.make C us (ks.zip ws)) b r2 hq) fun r s' hq' => ?_))
  cases r with
  | error e => exact passAt tkW σ pins _ _ e s' I2 hq'
  | ok fl =>
    cases fl with
    | ret u =>
      obtain ⟨v, H', I3, rv, ev, q3⟩ := I2.after hq'
      subst ev
      exact ⟨rv, ⟨V.ref (s.heap.objs.size + 1), H', I3, rfl, q3⟩⟩
    | next => exact False.elim hq'
    | brk => exact False.elim hq'
    | cont => exact False.elim hq'
/-- C(e, .., k = v, ..) -/
def tMakeX (C : Addr) (n m : Nat) (sp : Sp) (g : List V → List V → List V) (W : WX) (t tk : TA) : TE := fun σ H Q => t σ H fun vs H1 => tk σ H1 fun zs H2 => vs.length + 1 = n ∧ zs.length = m ∧ ∀ x dx, H2 x = none → H2 dx = none → dx ≠ x →
  sp (g (.ref x :: vs) zs) (upd (upd H2 dx (.own x)) x (.ins C dx [])) (fun v H3 => v = .non ∧ Q (.ref x) H3) (WE W σ)
theorem vx_makeX {pats : List Pat} (c : MakX X.prog X.w X.K X.mg X.base k x C sp pats) (pt : Pat) (hpt : pt ∈ pats) (hr : RoomG j X.A) (hk : k + 1 ≤ j) (tkW : Takes X W) (hg : Gl X x) (ha : PA X (e :: es) t) (hkw : PK X kws tk)
    (hall : (backToKw pos (keywordEach kws X.env)).all (·.1.isSome) = true := by rfl) (hks : (backToKw pos (keywordEach kws X.env)).filterMap (·.1) = pt.2.1 := by rfl) (hdb : (x == ("__debug__" : Str)) = false := by decide)
    (he : starEach (e :: es) X.env = (false, eval e X.env) :: starEach es X.env := by rfl) (hpl : ((backTo pos (starEach (e :: es) X.env)).any (·.1) || (backToKw pos (keywordEach kws X.env)).any (·.1.isNone)) = false := by rfl) :
    PE X (.Call (.Name x p) (e :: es) kws pos) (tMakeX C pt.1 pt.2.1.length sp pt.2.2 W t tk) := by
  obtain ⟨f, fd, ps, M, F, hm, b⟩ := c.ex
  refine ⟨fun pins s σ H Q I h => ?_⟩
  refine wpAny_Call_Name_kw (ld_glob I hg hm ?_ hdb)
  refine PySem.W.callWith_KW (h₀ := X.base) I.ok.mod.kin M.kp hall (thn (ha.run pos pins s σ H _ I h) fun us s1 ⟨vs, H1, I1, r, q⟩ => ?_) hpl he
  refine thn (hkw.run pos pins s1 σ H1 _ I1 q) fun ws s2 ⟨zs, H2, I2, rz, l1, l2, q2⟩ => ⟨I2.kIn, ?_⟩
  rw [hks]
  exact run_mkX M F (hr.low hk) (b pt hpt) tkW I2 r rz l1 l2 q2
theorem vx_makeX0 {pats : List Pat} (c : MakX X.prog X.w X.K X.mg X.base k x C sp pats) (pt : Pat) (hpt : pt ∈ pats) (hr : RoomG j X.A) (hk : k + 1 ≤ j) (tkW : Takes X W) (hg : Gl X x) (hks : pt.2.1 = [] := by rfl)
    (hdb : (x == ("__debug__" : Str)) = false := by decide) : PE X (.Call (.Name x p) [] [] pos) (tMakeX C pt.1 pt.2.1.length sp pt.2.2 W tNil tNil) := by
  obtain ⟨f, fd, ps, M, F, hm, b⟩ := c.ex
  refine ⟨fun pins s σ H Q I h => ?_⟩
  refine wpAny_Call_Name_kw (ld_glob I hg hm ?_ hdb)
  obtain ⟨l1, l2, q2⟩ := h
  have hz := run_mkX (us := []) (ws := []) M F (hr.low hk) (b pt hpt) tkW I .nil .nil l1 l2 q2
  rw [hks] at hz
  exact PySem.W.callWith_K0 I.kIn M.kp hz
/-- o.m(e, .., k = v, ..) -/
def tMethX (C : Addr) (m : Str) (n mm : Nat) (sp : Sp) (g : List V → List V → List V) (W : WX) (ta : TE) (t tk : TA) : TE := fun σ H Q => ta σ H fun x H1 => ∃ a dx fs, x = .ref a ∧ H1 a = some (.ins C dx fs) ∧ fs.lookup m = none ∧
  t σ H1 fun vs H2 => tk σ H2 fun zs H3 => (x :: vs).length = n ∧ zs.length = mm ∧ sp (g (x :: vs) zs) H3 Q (WE W σ)
theorem vx_methX {pats : List Pat} {pl : Sem Bool} (c : MetX X.prog X.w X.K X.mg X.base k C m sp pats) (pt : Pat) (hpt : pt ∈ pats) (hr : RoomG j X.A) (hk : k ≤ j) (tkW : Takes X W) (he : PE X o ta) (ha : PA X (e :: es) t) (hkw : PK X kws tk)
    (hall : (backToKw pos (keywordEach kws X.env)).all (·.1.isSome) = true := by rfl) (hks : (backToKw pos (keywordEach kws X.env)).filterMap (·.1) = pt.2.1 := by rfl)
    (hst : starEach (e :: es) X.env = (false, eval e X.env) :: starEach es X.env := by rfl) (hpl : ((backTo pos (starEach (e :: es) X.env)).any (·.1) || (backToKw pos (keywordEach kws X.env)).any (·.1.isNone)) = false := by rfl)
    (ht : eval (.Call (.Attribute o m apos) (e :: es) kws pos) X.env = (do
      let ov ← eval o X.env
      standAt apos.atName
      let (f, first) ← holding [ov] (getMethod ov m pl)
      callWith pos f first (backTo pos (starEach (e :: es) X.env)) (backToKw pos (keywordEach kws X.env))) := by rfl) :
    PE X (.Call (.Attribute o m apos) (e :: es) kws pos) (tMethX C m pt.1 pt.2.1.length sp pt.2.2 W ta t tk) := by
  obtain ⟨f, fd, ps, hc, hm, F, b⟩ := c.ex
  refine ⟨fun pins s σ H Q I h => ?_⟩
  refine PySem.W.methodCall_KW (pl := pl) (thn (he.run pins s σ H _ I h) fun u s1 ⟨x, H1, I1, rx, a, dx, fs, ex, ea, l, q⟩ => ?_) ht
  subst ex
  obtain rfl : u = Value.ref a := rx
  refine getmeth_ok I1 ea hc hm l ?_
  refine PySem.W.callWith_KW (first := [.ref a]) (h₀ := X.base) I.ok.mod.kin hm.kp hall (thn (ha.run pos pins s1 σ H1 _ I1 q) fun us s2 ⟨vs, H2, I2, r, q2⟩ => ?_) hpl hst
  refine thn (hkw.run pos pins s2 σ H2 _ I2 q2) fun ws s3 ⟨zs, H3, I3, rz, l1, l2, q3⟩ => ⟨I3.kIn, ?_⟩
  rw [hks]
  exact run_X (us := .ref a :: us) (vs := .ref a :: vs) F (hr.low hk) (b pt hpt) tkW I3 (.cons rfl r) rz l1 l2 q3
theorem vx_methX0 {pats : List Pat} {pl : Sem Bool} (c : MetX X.prog X.w X.K X.mg X.base k C m sp pats) (pt : Pat) (hpt : pt ∈ pats) (hr : RoomG j X.A) (hk : k ≤ j) (tkW : Takes X W) (he : PE X o ta) (hks : pt.2.1 = [] := by rfl)
    (ht : eval (.Call (.Attribute o m apos) [] [] pos) X.env = (do
      let ov ← eval o X.env
      standAt apos.atName
      let (f, first) ← holding [ov] (getMethod ov m pl)
      callWith pos f first (backTo pos (starEach [] X.env)) (backToKw pos (keywordEach [] X.env))) := by rfl) :
    PE X (.Call (.Attribute o m apos) [] [] pos) (tMethX C m pt.1 pt.2.1.length sp pt.2.2 W ta tNil tNil) := by
  obtain ⟨f, fd, ps, hc, hm, F, b⟩ := c.ex
  refine ⟨fun pins s σ H Q I h => ?_⟩
  refine PySem.W.methodCall_KW (pl := pl) (thn (he.run pins s σ H _ I h) fun u s1 ⟨x, H1, I1, rx, a, dx, fs, ex, ea, l, q⟩ => ?_) ht
  subst ex
  obtain rfl : u = Value.ref a := rx
  refine getmeth_ok I1 ea hc hm l ?_
  obtain ⟨l1, l2, q3⟩ := q
  have hz := run_X (us := [.ref a]) (vs := [.ref a]) (ws := []) F (hr.low hk) (b pt hpt) tkW I1 (.cons rfl .nil) .nil l1 l2 q3
  rw [hks] at hz
  exact PySem.W.callWith_K0 (first := [.ref a]) I1.kIn hm.kp hz
theorem vx_propX {pats : List Pat} (c : PropY X.prog X.w X.K X.mg X.base k C m sp pats) (hr : RoomG j X.A) (hk : k + 1 ≤ j) (he : PE X o ta) (hab : attributeBase o m X.env (eval o X.env) = eval o X.env := by rfl) : PE X (.Attribute o m pos) (tProp C sp [] E0 ta) := by
  obtain ⟨q, f, fd, ps, cls, prop, F, bind⟩ := c.ex
  constructor
  intro pins s σ H Q I h
  refine attr_of hab (thn (he.run pins s σ H _ I h) ?_)
  rintro u s1 ⟨x, H1, I1, rx, a, dx, fs, rfl, ea, prom⟩
  cases rx
  obtain ⟨mA, O, _⟩ := ins_get I1.hok ea
  obtain ⟨od, J, _⟩ := O.look
  obtain ⟨rest, rec_⟩ := prop.rec_
  have short : [Value.ref a].length = ps.length := (F.len _ _ _ _ prom).symm ▸ rfl
  have isCls : (PySem.W.clsIn X.K C).isSome = true := by
    obtain ⟨cd, e, _⟩ := PySem.W.any_some cls.hd
    rw [e]
    rfl
  refine PySem.W.get_bind I1.kIn J (PySem.W.plainGet_of (cls.get m)).1 (PySem.W.findObj_data isCls prop.at_ prop.get prop.tak) (PySem.W.plainGet_of (cls.get m)).2 (wpAny_call (PySem.W.prop_get (s := { s1 with toks := s1.toks + 1 }) I1.kIn rec_ ?_))
  have I2 := I1.tok (s1.toks + 1)
  refine codeAny_mono (F.run X.A.in1 X.stack _ H1 ⟨[.ref a], []⟩ [.ref a] [.ref a] Q E0 (hr.low hk).one I2.env0.in1 (by simpa using bind _ [.ref a] I2.kIn (by simpa using short)) (.cons rfl .nil) prom) ?_
  intro r s2 out
  cases r with
  | error er => exact (passL (X := X.nox) pins σ H1 _ er s2 (I2.wish _) out).elim
  | ok flow =>
    cases flow with
    | ret v =>
      obtain ⟨y, H2, I3, ry, qy⟩ := I2.after out
      have given := PySem.W.handedOut_of (handed_of ry)
      show wpAny _ _ (handedOut v) _ _ s2
      rw [given]
      exact wpAny_pure ⟨y, H2, I3, ry, qy⟩
    | next => exact out.elim
    | brk => exact out.elim
    | cont => exact out.elim
end
theorem Sep.news {M : List Addr} {H0 G0 G H H' : Hp} {O : List Addr} (S : Sep M H0 G0 G H O) (e : Same H H') (L : List Addr) (hL : ∀ a ∈ L, H a = none ∧ H' a ≠ none ∧ H0 a = none) : Sep M H0 G0 G H' (L ++ O) := by
  have S2 := S.same e
  refine ⟨S2.base, S2.pm, S2.sG, S2.g0, S2.gn, fun a ha => ?_⟩
  rcases List.mem_append.mp ha with h | h
  · obtain ⟨h1, h2, h3⟩ := hL a h
    exact ⟨S.gfree h1, h2, .inr h3⟩
  · exact S2.ow a h
theorem vv_chain {r r' : R2} {ta tb tc : TE} {σ : L2.St} {H : Hp} {x y z : V} {a b : Bool} (ha : Val ta σ H x) (hb : Val tb σ H y) (hc : Val tc σ H z) (h1 : ∀ Q : VK, Q (.bl a) H → r x y H Q) (h2 : ∀ Q : VK, Q (.bl b) H → r' y z H Q) :
    Val (tChain r r' ta tb tc) σ H (.bl (a && b)) := fun Q q => ha _ (hb _ (h1 _ ⟨a, rfl, by
  cases a with
  | true =>
    rw [if_pos rfl]
    exact hc _ (h2 _ q)
  | false =>
    rw [if_neg Bool.false_ne_true]
    exact q⟩))
/-! ### constants that are tuples, lists backwards, zip -/
theorem inV_ints (x : Int) : ∀ xs : List Int, inV (V.int x) (xs.map V.int) = decide (x ∈ xs)
  | [] => by simp [inV]
  | y :: r => by
    have h := inV_ints x r
    unfold inV at h ⊢
    rw [List.map_cons, List.any_cons, h]
    by_cases c : x = y
    · subst c
      simp [eqV]
    · simp [eqV, c, Ne.symm c]
theorem flat_ints : ∀ xs : List Int, (xs.map V.int).all flatV = true
  | [] => rfl
  | _ :: r => flat_ints r
def rInI (K : PySem.W.Frag) : R2 := fun x y H Q => ∃ (i : Int) (p : Addr) (xs : List Int), x = .int i ∧ y = .ref p ∧ (SqL K H p (xs.map V.int) ∨ SqT K H p (xs.map V.int)) ∧ Q (.bl (decide (i ∈ xs))) H
def rNotInI (K : PySem.W.Frag) : R2 := fun x y H Q => ∃ (i : Int) (p : Addr) (xs : List Int), x = .int i ∧ y = .ref p ∧ (SqL K H p (xs.map V.int) ∨ SqT K H p (xs.map V.int)) ∧ Q (.bl (!decide (i ∈ xs))) H
theorem op_inI {X : Cx} {K : PySem.W.Frag} (hK : X.K = K := by rfl) : OpR X (compareOp .In) (rInI K) := by
  subst hK
  intro pins s σ H x y v u Q I rx ry h
  obtain ⟨i, p, xs, rfl, rfl, hs, q⟩ := h
  refine op_in_seq pins s σ H _ _ v u Q I rx ry ⟨p, _, rfl, hs, rfl, flat_ints xs, ?_⟩
  rw [if_neg Bool.false_ne_true, inV_ints]
  exact q
theorem op_notInI {X : Cx} {K : PySem.W.Frag} (hK : X.K = K := by rfl) : OpR X (compareOp .NotIn) (rNotInI K) := by
  subst hK
  intro pins s σ H x y v u Q I rx ry h
  obtain ⟨i, p, xs, rfl, rfl, hs, q⟩ := h
  refine op_notIn_seq pins s σ H _ _ v u Q I rx ry ⟨p, _, rfl, hs, rfl, flat_ints xs, ?_⟩
  rw [if_pos rfl, inV_ints]
  exact q
theorem pe_revLK {X : Cx} {K : PySem.W.Frag} {e : Expr} {te : TE} {k : Nat} {p1 p2 p3 pos : Pos} (he : PE X e te) (hK : X.K = K := by rfl) : PE X (.Subscript e (.Slice none none (some (.UnaryOp .USub (.Constant (.int 1) k p1) p2)) p3) pos) (tRevL K te) := hK ▸ pe_revL he
theorem rev_map {α : Type} {f : α → V} {xs : List α} {H : Hp} {p : Addr} (h : H p = some (.lst (xs.map f).reverse)) : H p = some (.lst (xs.reverse.map f)) := by
  rw [List.map_reverse]
  exact h
theorem RpAll.rev {G : Hp} : ∀ {vs : List V} {ds : List PyData}, RpAll G vs ds → RpAll G vs.reverse ds.reverse
  | _, _, .nil => .nil
  | _, _, .cons h t => by
    rw [List.reverse_cons, List.reverse_cons]
    exact (RpAll.rev t).append (.one h)
theorem rev_all {α : Type} {f : α → PyData} {xs : List α} {G : Hp} {vs : List V} (a : RpAll G vs (xs.map f)) : RpAll G vs.reverse (xs.reverse.map f) := by
  rw [List.map_reverse]
  exact a.rev
theorem pi_zipK {X : Cx} {K : PySem.W.Frag} {e e2 : Expr} {ta : TA} {p pos tpos : Pos} {elts : List Expr} {kk : Nat} (hg : Gl X "zip") (hm : X.mg "zip" = none) (ha : PA X [e, e2] ta) (hK : X.K = K := by rfl)
    (hs : starEach [e, e2] X.env = (false, eval e X.env) :: starEach [e2] X.env := by rfl) (hpl : (backTo pos (starEach [e2] X.env)).any (·.1) = false := by rfl) :
    PI X (.Tuple elts kk tpos) (.Call (.Name "zip" p) [e, e2] [] pos) (RZ.iZipA K ta) := hK ▸ RZ.pi_zipA hg hm ha hs hpl
/-- a comprehension over zip of two lists of one length -/
theorem lc_zipL {K : PySem.W.Frag} {a b : Addr} {xs ys : List V} {g : TG} {tt : TT} {te : TE} {vs : List Nat} {σ : L2.St} {H1 : Hp} {D : Addr} {Qd : Hp → Prop} (hl : xs.length = ys.length) (Pv : Nat → Hp → Prop) (h0 : Pv 0 (upd H1 D (.lst []))) (hq : ∀ i H, i ≤ xs.length → Pv i H → SqL K H a xs ∧ SqL K H b ys)
    (hs : ∀ (i : Nat) (x y : V) (T : Addr) (H : Hp), xs[i]? = some x → ys[i]? = some y → H T = none → Pv i H → g (.ref T) (wipe σ vs) (upd H T (.tup [x, y])) fun σ2 H2 => wipe σ2 vs = wipe σ vs ∧ tt σ2 H2 fun b H3 =>
      if b = true then te σ2 H3 fun y H4 => ∃ acc, H4 D = some (.lst acc) ∧ acc.length < sizeLine ∧ Pv (i + 1) (upd H4 D (.lst (acc ++ [y]))) else Pv (i + 1) H3) (hd : ∀ H, Pv xs.length H → Qd H) :
    ∃ W : Nat → Nat → Hp → Prop, (∃ m, W 0 m (upd H1 D (.lst []))) ∧ ∀ i m H, W i m H →
      ((Itz K a b).stop i H ∧ Qd H) ∨ ((Itz K a b).go i H ∧ ∃ Nx : Hp → Prop, (∀ H', Nx H' → ∃ m', m' < m ∧ W (i + 1) m' H') ∧ ∀ x H', (Itz K a b).yld i H x H' → g x (wipe σ vs) H' fun σ2 H2 => wipe σ2 vs = wipe σ vs ∧ tt σ2 H2 fun b H3 =>
        if b = true then te σ2 H3 fun y H4 => ∃ acc, H4 D = some (.lst acc) ∧ acc.length < sizeLine ∧ Nx (upd H4 D (.lst (acc ++ [y]))) else Nx H3) := by
  refine ⟨fun i m H => m = xs.length - i ∧ i ≤ xs.length ∧ Pv i H, ⟨xs.length, by simp, Nat.zero_le _, h0⟩, ?_⟩
  rintro i m H ⟨rfl, hi, p⟩
  obtain ⟨qx, qy⟩ := hq i H hi p
  by_cases hlt : i < xs.length
  · have hlt2 : i < ys.length := by omega
    refine .inr ⟨⟨xs, ys, xs[i], ys[i], qx, qy, List.getElem?_eq_getElem hlt, List.getElem?_eq_getElem hlt2⟩, Pv (i + 1), fun H' p' => ⟨xs.length - (i + 1), by omega, rfl, hlt, p'⟩, fun v H' y => ?_⟩
    obtain ⟨T, x', y', rfl, hT, rfl, f1, f2⟩ := y
    exact hs i x' y' T H (f1 xs qx) (f2 ys qy) hT p
  · have e : i = xs.length := by omega
    subst e
    exact .inl ⟨⟨xs, ys, qx, qy, Or.inl (Nat.le_refl _)⟩, hd H p⟩
theorem zip_get {α β : Type} {xs : List α} {ys : List β} {i : Nat} {x : α} {y : β} (h1 : xs[i]? = some x) (h2 : ys[i]? = some y) : (xs.zip ys)[i]? = some (x, y) := by
  rw [List.getElem?_zip_eq_some]
  exact ⟨h1, h2⟩
theorem zip_len {α β : Type} {xs : List α} {ys : List β} {n : Nat} (h : xs.length = ys.length) (e : n = xs.length) : n = (xs.zip ys).length := by
  rw [List.length_zip, ← h, Nat.min_self]
  exact e
theorem zlen {α β : Type} {vs ws : List V} {xs : List α} {ys : List β} (a : vs.length = xs.length) (b : ws.length = ys.length) (h : xs.length = ys.length) : vs.length = ws.length := by rw [a, b, h]
section
variable {t : TT} {ta tb : TE} {σ : L2.St} {H : Hp}
theorem vv_ifP {p : Prop} [Decidable p] {a b : Int} (ht : Ans t σ H (decide p)) (hx : p → Val ta σ H (.int a)) (hy : ¬ p → Val tb σ H (.int b)) : Val (tIf t ta tb) σ H (.int (if p then a else b)) := by
  by_cases h : p
  · have := vv_if (p := p) (a := a) (b := a) ht (hx h) (tb := ta) (hx h)
    intro Q q
    refine ht _ ?_
    rw [decide_eq_true h, if_pos rfl]
    rw [if_pos h] at q
    exact hx h _ q
  · intro Q q
    refine ht _ ?_
    rw [decide_eq_false h, if_neg Bool.false_ne_true]
    rw [if_neg h] at q
    exact hy h _ q
theorem vv_ifQ {c : Bool} {a b : Int} (ht : Ans t σ H c) (hx : c = true → Val ta σ H (.int a)) (hy : c = false → Val tb σ H (.int b)) : Val (tIf t ta tb) σ H (.int (if c = true then a else b)) := by
  intro Q q
  refine ht _ ?_
  cases c with
  | true =>
    rw [if_pos rfl]
    rw [if_pos rfl] at q
    exact hx rfl _ q
  | false =>
    rw [if_neg Bool.false_ne_true]
    rw [if_neg Bool.false_ne_true] at q
    exact hy rfl _ q
end
theorem kit_mk0 {K : PySem.W.Frag} {S C : Addr} (h1 : (Value.ref S == Value.ref C) = false) (h2 : PySem.W.isClsIn K C = true) (h3 : PySem.W.typeIn K (.ref C) = some (.type "type")) (h4 : PySem.W.subIn K (.ref S) (.ref C) = some false) :
    PySem.W.kitOne K (.ref S) (.ref C) = some false := by
  unfold PySem.W.isClsIn at h2
  unfold PySem.W.kitOne
  rw [if_neg (by rw [h1]; exact Bool.false_ne_true)]
  unfold PySem.W.kitCls
  simp only [h2, h3, h4, beq_self_eq_true, Bool.and_self, if_true]
theorem vv_call2 {ta tb : TE} {σ : L2.St} {H : Hp} {x y z : V} {r : List V → Hp → VK → Prop} (ha : Val ta σ H x) (hb : Val tb σ H y) (hr : ∀ Q : VK, Q z H → r [x, y] H Q) : Val (tCB r (tCons ta (tCons tb tNil))) σ H z := fun Q q => ha _ (hb _ (hr Q q))
/-! ### lists of data that the caller owns; values that are a truth value or a number -/
theorem Sep.stepnew {M : List Addr} {H0 G0 G H H' : Hp} {O : List Addr} {p : Addr} {o : HO} (S : Sep M H0 G0 G H O) {G' : Hp} (e : Same H H') (eG : Same G G') (sG : Same G' H') (hn : ∀ b, H b ≠ none → G b = none → G' b = none) (_n : H p = none) (h : H' p = some o) (g : G' p = none) (hm : H0 p = none) : Sep M H0 G0 G' H' (p :: O) := by
  have S2 := S.step e eG sG hn
  refine ⟨S2.base, S2.pm, S2.sG, S2.g0, S2.gn, fun a ha => ?_⟩
  rcases List.mem_cons.mp ha with rfl | ha
  · exact ⟨g, (fun z => by rw [z] at h; cases h), .inr hm⟩
  · exact S2.ow a ha
inductive Bi where
  | b (x : Bool)
  | n (i : Int)
deriving DecidableEq
def biV : Bi → V
  | .b x => .bl x
  | .n i => .int i
def Bi.el {α : Type} (v : Bi) (f : Bool → α) (g : Int → α) : α :=
  match v with
  | .b x => f x
  | .n i => g i
theorem cW_elb {α : Type} {x : Bool} {f : Bool → Rx α} {g : Int → Rx α} {K : α → Prop} {E : Nat → Prop} (h : cW (Bi.el (.b x) f g) K E) : cW (f x) K E := h
theorem cW_eln {α : Type} {x : Int} {f : Bool → Rx α} {g : Int → Rx α} {K : α → Prop} {E : Nat → Prop} (h : cW (Bi.el (.n x) f g) K E) : cW (g x) K E := h
theorem rp_tup4 {α β γ δ : Type} {f : α → PyData} {g : β → PyData} {h : γ → PyData} {i : δ → PyData} {H : Hp} {v : V} {x : α × β × γ × δ} (r : Rp H v (encT4 f g h i x)) : ∃ a v1 v2 v3 v4, v = .ref a ∧ H a = some (.tup [v1, v2, v3, v4]) ∧ Rp H v1 (f x.1) ∧ Rp H v2 (g x.2.1) ∧ Rp H v3 (h x.2.2.1) ∧ Rp H v4 (i x.2.2.2) := by
  unfold encT4 at r
  cases r with
  | tup h1 h2 =>
    cases h2 with
    | cons a b =>
      cases b with
      | cons b c =>
        cases c with
        | cons c d =>
          cases d with
          | cons d e =>
            cases e
            exact ⟨_, _, _, _, _, rfl, h1, a, b, c, d⟩
theorem rp_mk4 {α β γ δ : Type} {f : α → PyData} {g : β → PyData} {h : γ → PyData} {i : δ → PyData} {H : Hp} {a : Addr} {v1 v2 v3 v4 : V} {x : α} {y : β} {z : γ} {w : δ} (h1 : H a = some (.tup [v1, v2, v3, v4])) (r1 : Rp H v1 (f x)) (r2 : Rp H v2 (g y)) (r3 : Rp H v3 (h z)) (r4 : Rp H v4 (i w)) : Rp H (.ref a) (encT4 f g h i (x, y, z, w)) := .tup h1 (.cons r1 (.cons r2 (.cons r3 (.cons r4 .nil))))
theorem Sep.b0M {M : List Addr} {H0 G0 G H : Hp} {O : List Addr} (S : Sep M H0 G0 G H O) (h : ∀ a ∈ M, H a = H0 a) : Same H0 H := fun b o e => by
  by_cases z : b ∈ M
  · rw [h b z]
    exact e
  · exact S.base b o e z
section
variable {X : Cx} {k j n : Nat} {f C : Addr} {fd : FuncData} {ps ks : List Str} {g : List V → List V → List V} {sp : Sp} {x m : Str} {pos p apos : Pos} {e o : Expr} {es : List Expr} {kws : List Keyword} {ta : TE} {t tk : TA} {W : WX}
/-- keywords alone -/
theorem vx_makeXK {pats : List Pat} (c : MakX X.prog X.w X.K X.mg X.base k x C sp pats) (pt : Pat) (hpt : pt ∈ pats) (hr : RoomG j X.A) (hk : k + 1 ≤ j) (tkW : Takes X W) (hg : Gl X x) (hkw : PK X kws tk)
    (hall : (backToKw pos (keywordEach kws X.env)).all (·.1.isSome) = true := by rfl) (hks : (backToKw pos (keywordEach kws X.env)).filterMap (·.1) = pt.2.1 := by rfl) (hdb : (x == ("__debug__" : Str)) = false := by decide)
    (hpl : ((backTo pos (starEach [] X.env)).any (·.1) || (backToKw pos (keywordEach kws X.env)).any (·.1.isNone)) = false := by rfl) :
    PE X (.Call (.Name x p) [] kws pos) (tMakeX C pt.1 pt.2.1.length sp pt.2.2 W tNil tk) := by
  obtain ⟨f, fd, ps, M, F, hm, b⟩ := c.ex
  refine ⟨fun pins s σ H Q I h => ?_⟩
  refine wpAny_Call_Name_kw (ld_glob I hg hm ?_ hdb)
  refine PySem.W.callWith_KW0 (h₀ := X.base) I.ok.mod.kin M.kp hall ?_ hpl
  refine thn (hkw.run pos pins s σ H _ I h) fun ws s2 ⟨zs, H2, I2, rz, l1, l2, q2⟩ => ⟨I2.kIn, ?_⟩
  rw [hks]
  exact run_mkX (us := []) (vs := []) M F (hr.low hk) (b pt hpt) tkW I2 .nil rz l1 l2 q2
theorem vx_callXK {pats : List Pat} (c : CalX X.prog X.w X.K X.mg X.base k x sp pats) (pt : Pat) (hpt : pt ∈ pats) (hr : RoomG j X.A) (hk : k ≤ j) (tkW : Takes X W) (hg : Gl X x) (hkw : PK X kws tk)
    (hall : (backToKw pos (keywordEach kws X.env)).all (·.1.isSome) = true := by rfl) (hks : (backToKw pos (keywordEach kws X.env)).filterMap (·.1) = pt.2.1 := by rfl) (hdb : (x == ("__debug__" : Str)) = false := by decide)
    (hpl : ((backTo pos (starEach [] X.env)).any (·.1) || (backToKw pos (keywordEach kws X.env)).any (·.1.isNone)) = false := by rfl) :
    PE X (.Call (.Name x p) [] kws pos) (tCallX pt.1 pt.2.1.length sp pt.2.2 W tNil tk) := by
  obtain ⟨f, fd, ps, F, hm, kp, b⟩ := c.ex
  refine ⟨fun pins s σ H Q I h => ?_⟩
  refine wpAny_Call_Name_kw (ld_glob I hg hm ?_ hdb)
  refine PySem.W.callWith_KW0 (h₀ := X.base) I.ok.mod.kin kp hall ?_ hpl
  refine thn (hkw.run pos pins s σ H _ I h) fun ws s2 ⟨zs, H2, I2, rz, l1, l2, q2⟩ => ⟨I2.kIn, ?_⟩
  rw [hks]
  exact run_X (us := []) (vs := []) F (hr.low hk) (b pt hpt) tkW I2 .nil rz l1 l2 q2
theorem vx_methXK {pats : List Pat} {pl : Sem Bool} (c : MetX X.prog X.w X.K X.mg X.base k C m sp pats) (pt : Pat) (hpt : pt ∈ pats) (hr : RoomG j X.A) (hk : k ≤ j) (tkW : Takes X W) (he : PE X o ta) (hkw : PK X kws tk)
    (hall : (backToKw pos (keywordEach kws X.env)).all (·.1.isSome) = true := by rfl) (hks : (backToKw pos (keywordEach kws X.env)).filterMap (·.1) = pt.2.1 := by rfl)
    (hpl : ((backTo pos (starEach [] X.env)).any (·.1) || (backToKw pos (keywordEach kws X.env)).any (·.1.isNone)) = false := by rfl)
    (ht : eval (.Call (.Attribute o m apos) [] kws pos) X.env = (do
      let ov ← eval o X.env
      standAt apos.atName
      let (f, first) ← holding [ov] (getMethod ov m pl)
      callWith pos f first (backTo pos (starEach [] X.env)) (backToKw pos (keywordEach kws X.env))) := by rfl) :
    PE X (.Call (.Attribute o m apos) [] kws pos) (tMethX C m pt.1 pt.2.1.length sp pt.2.2 W ta tNil tk) := by
  obtain ⟨f, fd, ps, hc, hm, F, b⟩ := c.ex
  refine ⟨fun pins s σ H Q I h => ?_⟩
  refine PySem.W.methodCall_KW (pl := pl) (thn (he.run pins s σ H _ I h) fun u s1 ⟨x, H1, I1, rx, a, dx, fs, ex, ea, l, q⟩ => ?_) ht
  subst ex
  obtain rfl : u = Value.ref a := rx
  refine getmeth_ok I1 ea hc hm l ?_
  refine PySem.W.callWith_KW0 (first := [.ref a]) (h₀ := X.base) I.ok.mod.kin hm.kp hall ?_ hpl
  refine thn (hkw.run pos pins s1 σ H1 _ I1 q) fun ws s3 ⟨zs, H3, I3, rz, l1, l2, q3⟩ => ⟨I3.kIn, ?_⟩
  rw [hks]
  exact run_X (us := [.ref a]) (vs := [.ref a]) F (hr.low hk) (b pt hpt) tkW I3 (.cons rfl .nil) rz l1 l2 q3
end
end Vx
/-! # lists within lists that are owned as a whole -/
namespace Vx
open PySem PySem.Spec PyProof.Rows L2
inductive Kd where
  | lst
  | tup
  | ins (C dx : Addr) (ns : List Str)
def Kd.ho : Kd → List V → HO
  | .lst, vs => .lst vs
  | .tup, vs => .tup vs
  | .ins C dx ns, vs => .ins C dx (ns.zip vs)
/-- what stands in the heap as a tree: values as they are, data that stay, nodes of its own -/
inductive Dt where
  | val (v : V)
  | frz (d : PyData)
  | nod (k : Kd) (xs : List Dt)
mutual
inductive Ow (G H : Hp) : List Addr → V → Dt → Prop
  | val (v : V) : Ow G H [] v (.val v)
  | frz {v : V} {d : PyData} : Rp G v d → Ow G H [] v (.frz d)
  | nod {a : Addr} {k : Kd} {vs : List V} {ds : List Dt} {L : List Addr} : H a = some (k.ho vs) → OwAll G H L vs ds → a ∉ L → Ow G H (a :: L) (.ref a) (.nod k ds)
inductive OwAll (G H : Hp) : List Addr → List V → List Dt → Prop
  | nil : OwAll G H [] [] []
  | cons {L1 L2 : List Addr} {v : V} {vs : List V} {d : Dt} {ds : List Dt} : Ow G H L1 v d → OwAll G H L2 vs ds → (∀ b ∈ L1, b ∉ L2) → OwAll G H (L1 ++ L2) (v :: vs) (d :: ds)
end
def Keeps (L : List Addr) (H H' : Hp) : Prop := ∀ b ∈ L, ∀ o, H b = some o → H' b = some o
mutual
theorem Ow.mono {G G' H H' : Hp} (e : Same G G') : ∀ {L : List Addr} {v : V} {d : Dt}, Keeps L H H' → Ow G H L v d → Ow G' H' L v d
  | _, _, _, _, .val v => .val v
  | _, _, _, _, .frz r => .frz (r.mono e)
  | _, _, _, k, .nod h r n => .nod (k _ List.mem_cons_self _ h) (OwAll.mono e (fun b hb => k b (List.mem_cons_of_mem _ hb)) r) n
theorem OwAll.mono {G G' H H' : Hp} (e : Same G G') : ∀ {L : List Addr} {vs : List V} {ds : List Dt}, Keeps L H H' → OwAll G H L vs ds → OwAll G' H' L vs ds
  | _, _, _, _, .nil => .nil
  | _, _, _, k, .cons a r d => .cons (Ow.mono e (fun b hb => k b (List.mem_append_left _ hb)) a) (OwAll.mono e (fun b hb => k b (List.mem_append_right _ hb)) r) d
end
mutual
theorem Ow.there {G H : Hp} : ∀ {L : List Addr} {v : V} {d : Dt}, Ow G H L v d → ∀ b ∈ L, H b ≠ none
  | _, _, _, .val _, _, hb => nomatch hb
  | _, _, _, .frz _, _, hb => nomatch hb
  | _, _, _, .nod h r n, b, hb => by
    rcases List.mem_cons.mp hb with rfl | hb
    · exact some_ne h
    · exact OwAll.there r b hb
theorem OwAll.there {G H : Hp} : ∀ {L : List Addr} {vs : List V} {ds : List Dt}, OwAll G H L vs ds → ∀ b ∈ L, H b ≠ none
  | _, _, _, .nil, _, hb => nomatch hb
  | _, _, _, .cons a r d, b, hb => by
    rcases List.mem_append.mp hb with hb | hb
    · exact Ow.there a b hb
    · exact OwAll.there r b hb
end
theorem OwAll.len {G H : Hp} : ∀ {L : List Addr} {vs : List V} {ds : List Dt}, OwAll G H L vs ds → vs.length = ds.length
  | _, _, _, .nil => rfl
  | _, _, _, .cons _ r _ => congrArg Nat.succ r.len
theorem OwAll.snoc {G H : Hp} {L1 : List Addr} {v : V} {d : Dt} (h : Ow G H L1 v d) : ∀ {L : List Addr} {vs : List V} {ds : List Dt}, OwAll G H L vs ds → (∀ b ∈ L, b ∉ L1) → OwAll G H (L ++ L1) (vs ++ [v]) (ds ++ [d])
  | _, _, _, .nil, _ => by
    have z : OwAll G H (L1 ++ []) [v] [d] := .cons h .nil (fun _ _ z => nomatch z)
    rw [List.append_nil] at z
    exact z
  | _, _, _, .cons (L1 := La) (L2 := Lb) a r n, k => by
    have z := OwAll.cons a (OwAll.snoc h r fun b hb => k b (List.mem_append_right _ hb)) (fun b hb q => by
      rcases List.mem_append.mp q with q | q
      · exact n b hb q
      · exact k b (List.mem_append_left _ hb) q)
    rw [← List.append_assoc] at z
    exact z
theorem OwAll.app {G H : Hp} {L2 : List Addr} {ws : List V} {es : List Dt} (h : OwAll G H L2 ws es) : ∀ {L : List Addr} {vs : List V} {ds : List Dt}, OwAll G H L vs ds → (∀ b ∈ L, b ∉ L2) → OwAll G H (L ++ L2) (vs ++ ws) (ds ++ es)
  | _, _, _, .nil, _ => h
  | _, _, _, .cons (L1 := La) (L2 := Lb) a r n, k => by
    have z := OwAll.cons a (OwAll.app h r fun b hb => k b (List.mem_append_right _ hb)) (fun b hb q => by
      rcases List.mem_append.mp q with q | q
      · exact n b hb q
      · exact k b (List.mem_append_left _ hb) q)
    rw [← List.append_assoc] at z
    exact z
/-! ### trees that are data -/
mutual
inductive Dd : Dt → PyData → Prop
  | non : Dd (.val .non) .none
  | bl (b : Bool) : Dd (.val (.bl b)) (.bool b)
  | int (i : Int) : Dd (.val (.int i)) (.int i)
  | str (x : Str) : Dd (.val (.str x)) (.str x)
  | frz (d : PyData) : Dd (.frz d) d
  | lst {xs : List Dt} {ds : List PyData} : DdAll xs ds → Dd (.nod .lst xs) (.list ds)
  | tup {xs : List Dt} {ds : List PyData} : DdAll xs ds → Dd (.nod .tup xs) (.tuple ds)
inductive DdAll : List Dt → List PyData → Prop
  | nil : DdAll [] []
  | cons {x : Dt} {xs : List Dt} {d : PyData} {ds : List PyData} : Dd x d → DdAll xs ds → DdAll (x :: xs) (d :: ds)
end
mutual
/-- read in any heap that holds its nodes -/
theorem Ow.rp {G H I : Hp} (e : Same G I) : ∀ {L : List Addr} {v : V} {d : Dt} {p : PyData}, Keeps L H I → Ow G H L v d → Dd d p → Rp I v p
  | _, _, _, _, _, .val _, .non => .non
  | _, _, _, _, _, .val _, .bl b => .bl b
  | _, _, _, _, _, .val _, .int i => .int i
  | _, _, _, _, _, .val _, .str x => .str x
  | _, _, _, _, _, .frz r, .frz _ => r.mono e
  | _, _, _, _, k, .nod h r _, .lst q => .lst (k _ List.mem_cons_self _ h) (OwAll.rp e (fun b hb => k b (List.mem_cons_of_mem _ hb)) r q)
  | _, _, _, _, k, .nod h r _, .tup q => .tup (k _ List.mem_cons_self _ h) (OwAll.rp e (fun b hb => k b (List.mem_cons_of_mem _ hb)) r q)
theorem OwAll.rp {G H I : Hp} (e : Same G I) : ∀ {L : List Addr} {vs : List V} {ds : List Dt} {ps : List PyData}, Keeps L H I → OwAll G H L vs ds → DdAll ds ps → RpAll I vs ps
  | _, _, _, _, _, .nil, .nil => .nil
  | _, _, _, _, k, .cons a r _, .cons x xs => .cons (Ow.rp e (fun b hb => k b (List.mem_append_left _ hb)) a x) (OwAll.rp e (fun b hb => k b (List.mem_append_right _ hb)) r xs)
end
def oI (i : Int) : Dt := .val (.int i)
def oB (b : Bool) : Dt := .val (.bl b)
def oF {α : Type} (f : α → PyData) (x : α) : Dt := .frz (f x)
def oL {α : Type} (f : α → Dt) (xs : List α) : Dt := .nod .lst (xs.map f)
def EncO {α : Type} (f : α → Dt) (g : α → PyData) : Prop := ∀ x, Dd (f x) (g x)
theorem encO_I : EncO oI PyData.int := fun i => .int i
theorem encO_B : EncO oB PyData.bool := fun i => .bl i
theorem encO_F {α : Type} {f : α → PyData} : EncO (oF f) f := fun _ => .frz _
theorem EncO.all {α : Type} {f : α → Dt} {g : α → PyData} (h : EncO f g) : ∀ xs : List α, DdAll (xs.map f) (xs.map g)
  | [] => .nil
  | x :: xs => .cons (h x) (EncO.all h xs)
theorem encO_L {α : Type} {f : α → Dt} {g : α → PyData} (h : EncO f g) : EncO (oL f) (encL g) := fun xs => .lst (h.all xs)
theorem keeps_same {L : List Addr} {H H' : Hp} (e : Same H H') : Keeps L H H' := fun b _ o q => e b o q
theorem keeps_refl {L : List Addr} {H : Hp} : Keeps L H H := fun _ _ _ q => q
theorem keeps_mut {L : List Addr} {H H' : Hp} {m : Addr} (x : SameX m H H') (n : ∀ b ∈ L, b ≠ m) : Keeps L H H' := fun b hb o q => x b o q (n b hb)
theorem keeps_muts {L M : List Addr} {H H' : Hp} (x : SameXs M H H') (n : ∀ b ∈ L, b ∉ M) : Keeps L H H' := fun b hb o q => x b o q (n b hb)
theorem keeps_hide {L M : List Addr} {H : Hp} (n : ∀ b ∈ L, b ∉ M) : Keeps L H (hideL M H) := fun b hb o q => by
  rw [hideL_out (n b hb)]
  exact q
section
variable {α : Type} {f : α → Dt} {g : α → PyData} {G H I : Hp} {L : List Addr} {vs : List V} {xs : List α}
theorem OwAll.rpA (w : OwAll G H L vs (xs.map f)) (h : EncO f g) (e : Same G H) : RpAll H vs (xs.map g) := OwAll.rp e keeps_refl w (h.all xs)
theorem OwAll.rpH (w : OwAll G H L vs (xs.map f)) (h : EncO f g) (e : Same G I) (k : Keeps L H I) : RpAll I vs (xs.map g) := OwAll.rp e k w (h.all xs)
theorem OwAll.lenM (w : OwAll G H L vs (xs.map f)) : vs.length = xs.length := by rw [w.len, List.length_map]
theorem OwAll.snocM {L1 : List Addr} {v : V} {y : α} (w : OwAll G H L vs (xs.map f)) (h : Ow G H L1 v (f y)) (n : ∀ b ∈ L, b ∉ L1) : OwAll G H (L ++ L1) (vs ++ [v]) ((xs ++ [y]).map f) := by
  rw [List.map_append]
  exact OwAll.snoc h w n
theorem Ow.ints {a : Addr} {ys : List Int} (h : H a = some (.lst (ys.map V.int))) : Ow G H [a] (.ref a) (oL oI ys) := by
  have z : ∀ ys : List Int, OwAll G H [] (ys.map V.int) (ys.map oI) := fun ys => by
    induction ys with
    | nil => exact .nil
    | cons y r ih => exact .cons (L1 := []) (L2 := []) (.val _) ih (fun _ z => nomatch z)
  exact .nod (k := .lst) h (z ys) (fun z => nomatch z)
theorem Ow.list {a : Addr} {xs : List α} {L : List Addr} {vs : List V} (h : H a = some (.lst vs)) (w : OwAll G H L vs (xs.map f)) (n : ∀ b ∈ L, b ≠ a) : Ow G H (a :: L) (.ref a) (oL f xs) := .nod (k := .lst) h w (fun z => n a z rfl)
theorem Ow.toList {v : V} {L : List Addr} {xs : List α} (w : Ow G H L v (oL f xs)) : ∃ a vs L', v = .ref a ∧ L = a :: L' ∧ H a = some (.lst vs) ∧ OwAll G H L' vs (xs.map f) ∧ ∀ b ∈ L', b ≠ a := by
  unfold oL at w
  cases w with
  | nod h r n => exact ⟨_, _, _, rfl, rfl, h, r, fun b hb z => n (z ▸ hb)⟩
theorem OwAll.toInts : ∀ {L : List Addr} {vs : List V} {xs : List Int}, OwAll G H L vs (xs.map oI) → L = [] ∧ vs = xs.map V.int
  | _, _, [], .nil => ⟨rfl, rfl⟩
  | _, _, x :: xs, .cons a r _ => by
    obtain ⟨h1, h2⟩ := OwAll.toInts r
    cases a
    exact ⟨by rw [h1] <;> rfl, by rw [h2] <;> rfl⟩
theorem Ow.toInts {v : V} {L : List Addr} {xs : List Int} (w : Ow G H L v (oL oI xs)) : ∃ a, v = .ref a ∧ L = [a] ∧ H a = some (.lst (xs.map V.int)) := by
  obtain ⟨a, vs, L', rfl, rfl, h, r, _⟩ := w.toList
  obtain ⟨rfl, rfl⟩ := r.toInts
  exact ⟨a, rfl, rfl, h⟩
/-- the part at a place, and how a change of it alone changes the whole -/
theorem OwAll.part : ∀ {L : List Addr} {vs : List V} {ds : List Dt} {i : Nat} {d : Dt}, OwAll G H L vs ds → ds[i]? = some d → ∃ v L1, vs[i]? = some v ∧ Ow G H L1 v d ∧ (∀ b ∈ L1, b ∈ L) ∧
    ∀ H' d', (∀ b ∈ L, b ∉ L1 → ∀ o, H b = some o → H' b = some o) → Ow G H' L1 v d' → OwAll G H' L vs (ds.set i d')
  | _, _, _, _, _, .nil, h => by simp at h
  | _, _, _, 0, _, .cons (L1 := La) (L2 := Lb) a r n, h => by
    simp at h
    subst h
    refine ⟨_, La, rfl, a, fun b hb => List.mem_append_left _ hb, fun H' d' k w => ?_⟩
    exact .cons w (OwAll.mono (Same.refl G) (fun b hb => k b (List.mem_append_right _ hb) fun z => n b z hb) r) n
  | _, _, _, i + 1, _, .cons (L1 := La) (L2 := Lb) a r n, h => by
    obtain ⟨v, L1, h1, h2, h3, h4⟩ := OwAll.part (i := i) r (by simpa using h)
    refine ⟨v, L1, by simpa using h1, h2, fun b hb => List.mem_append_right _ (h3 b hb), fun H' d' k w => ?_⟩
    refine .cons (Ow.mono (Same.refl G) (fun b hb => k b (List.mem_append_left _ hb) fun z => n b hb (h3 b z)) a) (h4 H' d' (fun b hb nb => k b (List.mem_append_right _ hb) nb) w) n
/-- the same, where the part grows: its new footprint is the old one and what is new -/
theorem OwAll.part2 : ∀ {L : List Addr} {vs : List V} {ds : List Dt} {i : Nat} {d : Dt}, OwAll G H L vs ds → ds[i]? = some d → ∃ v L1, vs[i]? = some v ∧ Ow G H L1 v d ∧ (∀ b ∈ L1, b ∈ L) ∧
    (∀ H' d', (∀ b ∈ L, b ∉ L1 → ∀ o, H b = some o → H' b = some o) → Ow G H' L1 v d' → OwAll G H' L vs (ds.set i d')) ∧
    ∀ H' d' Fv L1', (∀ b ∈ L, b ∉ L1 → ∀ o, H b = some o → H' b = some o) → (∀ b ∈ L1', b ∈ L1 ++ Fv) → (∀ b ∈ Fv, b ∉ L) → Ow G H' L1' v d' → ∃ L', (∀ b ∈ L', b ∈ L ++ Fv) ∧ OwAll G H' L' vs (ds.set i d')
  | _, _, _, _, _, .nil, h => by simp at h
  | _, _, _, 0, _, .cons (L1 := La) (L2 := Lb) a r n, h => by
    simp at h
    subst h
    refine ⟨_, La, rfl, a, fun b hb => List.mem_append_left _ hb, fun H' d' k w => ?_, fun H' d' Fv L1' k s nf w => ⟨L1' ++ Lb, fun b hb => ?_, ?_⟩⟩
    · exact .cons w (OwAll.mono (Same.refl G) (fun b hb => k b (List.mem_append_right _ hb) fun z => n b z hb) r) n
    · rcases List.mem_append.mp hb with hb | hb
      · rcases List.mem_append.mp (s b hb) with q | q
        · exact List.mem_append_left _ (List.mem_append_left _ q)
        · exact List.mem_append_right _ q
      · exact List.mem_append_left _ (List.mem_append_right _ hb)
    · refine .cons w (OwAll.mono (Same.refl G) (fun b hb => k b (List.mem_append_right _ hb) fun z => n b z hb) r) fun b hb q => ?_
      rcases List.mem_append.mp (s b hb) with z | z
      · exact n b z q
      · exact nf b z (List.mem_append_right _ q)
  | _, _, _, i + 1, _, .cons (L1 := La) (L2 := Lb) a r n, h => by
    obtain ⟨v, L1, h1, h2, h3, h4, h5⟩ := OwAll.part2 (i := i) r (by simpa using h)
    refine ⟨v, L1, by simpa using h1, h2, fun b hb => List.mem_append_right _ (h3 b hb), fun H' d' k w => ?_, fun H' d' Fv L1' k s nf w => ?_⟩
    · refine .cons (Ow.mono (Same.refl G) (fun b hb => k b (List.mem_append_left _ hb) fun z => n b hb (h3 b z)) a) (h4 H' d' (fun b hb nb => k b (List.mem_append_right _ hb) nb) w) n
    · obtain ⟨L', s2, z⟩ := h5 H' d' Fv L1' (fun b hb nb => k b (List.mem_append_right _ hb) nb) s (fun b hb q => nf b hb (List.mem_append_right _ q)) w
      refine ⟨La ++ L', fun b hb => ?_, .cons (Ow.mono (Same.refl G) (fun b hb => k b (List.mem_append_left _ hb) fun z => n b hb (h3 b z)) a) z fun b hb q => ?_⟩
      · rcases List.mem_append.mp hb with hb | hb
        · exact List.mem_append_left _ (List.mem_append_left _ hb)
        · rcases List.mem_append.mp (s2 b hb) with q | q
          · exact List.mem_append_left _ (List.mem_append_right _ q)
          · exact List.mem_append_right _ q
      · rcases List.mem_append.mp (s2 b q) with y | y
        · exact n b hb y
        · exact nf b y (List.mem_append_left _ hb)
theorem OwAll.partM [Inhabited α] {k : Int} (w : OwAll G H L vs (xs.map f)) (h : -(xs.length : Int) ≤ k ∧ k < xs.length) : ∃ v L1, atI vs k = some v ∧ Ow G H L1 v (f (itD xs k)) ∧ (∀ b ∈ L1, b ∈ L) ∧
    (∀ H' y, (∀ b ∈ L, b ∉ L1 → ∀ o, H b = some o → H' b = some o) → Ow G H' L1 v (f y) → OwAll G H' L vs ((setL xs k y).map f)) ∧
    ∀ H' y Fv L1', (∀ b ∈ L, b ∉ L1 → ∀ o, H b = some o → H' b = some o) → (∀ b ∈ L1', b ∈ L1 ++ Fv) → (∀ b ∈ Fv, b ∉ L) → Ow G H' L1' v (f y) → ∃ L', (∀ b ∈ L', b ∈ L ++ Fv) ∧ OwAll G H' L' vs ((setL xs k y).map f) := by
  obtain ⟨j, e, hj⟩ := ixN_some h
  have hx := List.getElem?_eq_getElem hj
  obtain ⟨v, L1, h1, h2, h3, h4, h5⟩ := OwAll.part2 (i := j) (d := f xs[j]) w (by rw [List.getElem?_map, hx] <;> rfl)
  have ei : itD xs k = xs[j] := by
    unfold itD atI
    rw [e]
    show (xs[j]?).getD default = _
    rw [hx] <;> rfl
  refine ⟨v, L1, ?_, by rw [ei]; exact h2, h3, fun H' y q w2 => ?_, fun H' y Fv L1' q s nf w2 => ?_⟩
  · unfold atI
    rw [w.lenM, e]
    exact h1
  · have z := h4 H' (f y) q w2
    unfold setL
    rw [e, List.map_set]
    exact z
  · obtain ⟨L', s2, z⟩ := h5 H' (f y) Fv L1' q s nf w2
    refine ⟨L', s2, ?_⟩
    unfold setL
    rw [e, List.map_set]
    exact z
theorem grow_keeps {L L1 : List Addr} {m : Addr} {H H1 H2 : Hp} (e : Same H H1) (x : SameX m H1 H2) (hm : m ∈ L1) : ∀ b ∈ L, b ∉ L1 → ∀ o, H b = some o → H2 b = some o := fun b _ n o q => x b o (e b o q) (fun z => n (z ▸ hm))
theorem grow_sub {a : Addr} {L' Lr Fv : List Addr} (h : ∀ b ∈ L', b ∈ Lr ++ Fv) : ∀ b ∈ a :: L', b ∈ (a :: Lr) ++ Fv := fun b hb => by
  rcases List.mem_cons.mp hb with rfl | hb
  · exact List.mem_cons_self
  · exact List.mem_cons_of_mem _ (h b hb)
/-- the item of a turn -/
theorem OwAll.turn {i : Nat} {v : V} (w : OwAll G H L vs (xs.map f)) (h : vs[i]? = some v) : ∃ x L1, xs[i]? = some x ∧ Ow G H L1 v (f x) ∧ ∀ b ∈ L1, b ∈ L := by
  have hl := get_len h
  have e := w.lenM
  have hx := List.getElem?_eq_getElem (show i < xs.length by omega)
  obtain ⟨v2, L1, h1, h2, h3, _⟩ := OwAll.part (i := i) (d := f xs[i]) w (by rw [List.getElem?_map, hx] <;> rfl)
  rw [h] at h1
  cases h1
  exact ⟨_, L1, hx, h2, h3⟩
end
/-! ### what is owned, in pieces -/
theorem all_app {P : Addr → Prop} {L l : List Addr} (h : ∀ x ∈ L, P x) (t : ∀ x ∈ l, P x) : ∀ x ∈ L ++ l, P x := fun x hx => by
  rcases List.mem_append.mp hx with q | q
  · exact h x q
  · exact t x q
theorem nm_nil {a : Addr} : a ∉ ([] : List Addr) := fun z => nomatch z
theorem nm_cons {a m : Addr} {l : List Addr} (h : a ≠ m) (t : a ∉ l) : a ∉ m :: l := fun z => by
  rcases List.mem_cons.mp z with q | q
  · exact h q
  · exact t q
theorem nm_app {a : Addr} {L l : List Addr} (h : a ∉ L) (t : a ∉ l) : a ∉ L ++ l := fun z => by
  rcases List.mem_append.mp z with q | q
  · exact h q
  · exact t q
theorem there_ne {H : Hp} {L : List Addr} {x : Addr} (t : ∀ b ∈ L, H b ≠ none) (n : H x = none) : ∀ b ∈ L, b ≠ x := fun b hb z => t b hb (z ▸ n)
theorem new_ne {H : Hp} {L : List Addr} {x : Addr} {o : HO} (n : ∀ b ∈ L, H b = none) (h : H x = some o) : ∀ b ∈ L, b ≠ x := fun b hb z => by
  have := n b hb
  rw [z, h] at this
  cases this
theorem new_nl {H : Hp} {L L2 : List Addr} (n : ∀ b ∈ L, H b = none) (t : ∀ b ∈ L2, H b ≠ none) : ∀ b ∈ L, b ∉ L2 := fun b hb z => t b z (n b hb)
theorem nl_symm {L L2 : List Addr} (h : ∀ b ∈ L, b ∉ L2) : ∀ b ∈ L2, b ∉ L := fun b hb z => h b z hb
theorem none_of_same {H H' : Hp} {x : Addr} (e : Same H H') (n : H' x = none) : H x = none := by
  cases q : H x with
  | none => rfl
  | some o =>
    rw [e x o q] at n
    cases n
section
variable {M : List Addr} {H0 G0 G H H' : Hp} {O L : List Addr} {p m : Addr} {o : HO}
theorem Sep.h0 (S : Sep M H0 G0 G H O) {b : Addr} (hb : b ∈ O) (hM : b ∉ M) : H0 b = none := (S.ow b hb).2.2.elim (fun z => (hM z).elim) id
theorem g_nl {a : Addr} {o : HO} (h : G a = some o) (S : Sep M H0 G0 G H O) (hL : ∀ b ∈ L, b ∈ O) : ∀ b ∈ L, b ≠ a := fun b hb => (g_ne h S (hL b hb)).symm
theorem b_nl {a : Addr} {o : HO} (h : (hideL M H0) a = some o) (S : Sep M H0 G0 G H O) (hL : ∀ b ∈ L, b ∈ O) : ∀ b ∈ L, b ≠ a := fun b hb => (b_ne h S (hL b hb)).symm
/-- a whole tree that is to stay as it is -/
theorem Sep.freezeL (S : Sep M H0 G0 G H O) {O' : List Addr} (hL : ∀ b ∈ L, b ∈ O) (h0 : ∀ b ∈ L, H0 b = none) (hO : ∀ b ∈ O', b ∈ O ∧ b ∉ L) : ∃ G', Same G G' ∧ Keeps L H G' ∧ Sep M H0 G0 G' H O' := by
  have gn : ∀ b ∈ L, G b = none := fun b hb => (S.ow b (hL b hb)).1
  refine ⟨fun b => if b ∈ L then H b else G b, fun b u q => ?_, fun b hb u q => ?_, S.base, S.pm, fun b u q => ?_, fun b u q => ?_, fun b hb gb => ?_, fun a ha => ?_⟩
  · have n : b ∉ L := fun z => by
      rw [gn b z] at q
      cases q
    show (if b ∈ L then H b else G b) = _
    rw [if_neg n]
    exact q
  · show (if b ∈ L then H b else G b) = _
    rw [if_pos hb]
    exact q
  · by_cases z : b ∈ L
    · exact (if_pos z).symm.trans q
    · exact S.sG b u ((if_neg z).symm.trans q)
  · have z : b ∉ L := fun z => by
      have := S.g0 b u q
      rw [gn b z] at this
      cases this
    show (if b ∈ L then H b else G b) = _
    rw [if_neg z]
    exact S.g0 b u q
  · have z : b ∉ L := fun z => hb (h0 b z)
    show (if b ∈ L then H b else G b) = _
    rw [if_neg z]
    exact S.gn b hb gb
  · obtain ⟨h1, h2⟩ := hO a ha
    refine ⟨?_, (S.ow a h1).2⟩
    show (if a ∈ L then H a else G a) = _
    rw [if_neg h2]
    exact (S.ow a h1).1
/-- a callee hands over a list of lists of its own making -/
theorem Sep.steptree (S : Sep M H0 G0 G H O) {G' : Hp} (e : Same H H') (eG : Same G G') (sG : Same G' H') (hn : ∀ b, H b ≠ none → G b = none → G' b = none) (L : List Addr) (hL : ∀ b ∈ L, H b = none ∧ G' b = none ∧ H' b ≠ none) : Sep M H0 G0 G' H' (L ++ O) := by
  have S2 := S.step e eG sG hn
  refine ⟨S2.base, S2.pm, S2.sG, S2.g0, S2.gn, all_app (fun b hb => ⟨(hL b hb).2.1, (hL b hb).2.2, .inr (S.free (hL b hb).1)⟩) S2.ow⟩
end
theorem Rp.list_of {α : Type} {g : α → PyData} {H : Hp} {a : Addr} {vs : List V} {xs : List α} (h : H a = some (.lst vs)) (r : RpAll H vs (xs.map g)) : Rp H (.ref a) (encL g xs) := .lst h r
/-! ### repr of data -/
mutual
def nodes : PyData → Nat
  | .list xs => 1 + nodesAll xs
  | .tuple xs => 1 + nodesAll xs
  | _ => 1
def nodesAll : List PyData → Nat
  | [] => 0
  | x :: xs => nodes x + nodesAll xs
end
mutual
def smallD : PyData → Bool
  | .none => true
  | .bool _ => true
  | .int i => decide (i.natAbs < 10 ^ 19)
  | .str x => decide ((reprText x).length ≤ 20)
  | .list xs => smallAll xs
  | .tuple xs => smallAll xs
  | _ => false
def smallAll : List PyData → Bool
  | [] => true
  | x :: xs => smallD x && smallAll xs
end
theorem piled_list (ts : List Str) : (listText ts).length ≤ piled ts + 2 := by
  cases ts with
  | nil => exact Nat.le_refl 2
  | cons t r =>
    have e : (listText (t :: r)).length = (textFrom 1 ("[" ++ ("" : String) ++ t) r).length + 1 := by
      show (textFrom 0 "[" (t :: r) ++ "]").length = _
      rw [strLen_append]
      rfl
    rw [e, textFrom_length_pos r 1 _ (by decide), piled_cons, strLen_append, strLen_append]
    have h1 : (("[" : String) : Str).length = 1 := rfl
    have h2 : (("" : String) : Str).length = 0 := rfl
    omega
theorem piled_tup (ts : List Str) : (tupleText ts).length ≤ piled ts + 3 := by
  unfold tupleText
  rw [strLen_append, strLen_append]
  have h1 : (("(" : String) : Str).length = 1 := rfl
  have h2 : (((if ts.length == 1 then ",)" else ")" : String) : Str)).length ≤ 2 := by split <;> decide
  by_cases h : ts = []
  · subst h
    exact Nat.le_of_lt (by decide)
  · have := join_length_add ts h
    omega
mutual
theorem small_shown : ∀ d : PyData, smallD d = true → d.shown.length + 4 ≤ 26 * nodes d ∧ d.showable = true ∧ d.hasDict = false
  | .none, _ => ⟨by simp only [PyData.shown, nodes]; decide, by simp [PyData.showable], by simp [PyData.hasDict]⟩
  | .bool b, _ => ⟨by cases b <;> simp only [PyData.shown, nodes] <;> decide, by simp [PyData.showable], by simp [PyData.hasDict]⟩
  | .int i, h => by
    have h : i.natAbs < 10 ^ 19 := by simpa [smallD] using h
    refine ⟨?_, ?_, by simp [PyData.hasDict]⟩
    · have := int_text_length_le10 (k := 19) (by decide) h
      simp only [PyData.shown, nodes]
      rw [PySem.ofString_length]
      omega
    · simp only [PyData.showable, decide_eq_true_eq]
      have : i.natAbs < 2 ^ 64 := by omega
      rcases Nat.eq_zero_or_pos i.natAbs with z | z
      · rw [z]
        decide
      · have := (Nat.log2_lt (by omega)).mpr this
        omega
  | .str x, h => by
    have h : (reprText x).length ≤ 20 := by simpa [smallD] using h
    refine ⟨by simp only [PyData.shown, nodes]; omega, by simp [PyData.showable], by simp [PyData.hasDict]⟩
  | .list xs, h => by
    obtain ⟨h1, h2, h3⟩ := small_shownAll xs (by simpa [smallD] using h)
    refine ⟨?_, by simpa [PyData.showable] using h2, by simpa [PyData.hasDict] using h3⟩
    have := piled_list (PyData.shownAll xs)
    simp only [PyData.shown, nodes]
    omega
  | .tuple xs, h => by
    obtain ⟨h1, h2, h3⟩ := small_shownAll xs (by simpa [smallD] using h)
    refine ⟨?_, by simpa [PyData.showable] using h2, by simpa [PyData.hasDict] using h3⟩
    have := piled_tup (PyData.shownAll xs)
    simp only [PyData.shown, nodes]
    omega
  | .dict kvs, h => by simp [smallD] at h
theorem small_shownAll : ∀ ds : List PyData, smallAll ds = true → piled (PyData.shownAll ds) ≤ 26 * nodesAll ds ∧ PyData.showableAll ds = true ∧ PyData.hasDictAll ds = false
  | [], _ => ⟨by simp [PyData.shownAll, nodesAll, piled], by simp [PyData.showableAll], by simp [PyData.hasDictAll]⟩
  | d :: ds, h => by
    have h : smallD d = true ∧ smallAll ds = true := by simpa [smallAll] using h
    obtain ⟨a1, a2, a3⟩ := small_shown d h.1
    obtain ⟨b1, b2, b3⟩ := small_shownAll ds h.2
    refine ⟨?_, by simp [PyData.showableAll, a2, b2], by simp [PyData.hasDictAll, a3, b3]⟩
    simp only [PyData.shownAll, nodesAll, piled_cons]
    omega
end
/-- data that repr may show -/
def ShowOk (d : PyData) : Prop := smallD d = true ∧ nodes d ≤ 600000 ∧ d.depth ≤ 60
instance (d : PyData) : Decidable (ShowOk d) := by unfold ShowOk; infer_instance
def rRepr : List V → Hp → VK → Prop := fun xs H Q => ∃ (a : Addr) (d : PyData), xs = [.ref a] ∧ Rp H (.ref a) d ∧ ShowOk d ∧ Q (.str d.shown) H
theorem call_reprD {X : Cx} (hg : X.A.guards = some []) (hu : X.A.units + 64 < cLine) : CallR X (.builtin "repr") rRepr := by
  intro pins s σ H xs us Q I r h
  obtain ⟨a, d, rfl, rp, ⟨ok, nd, dp⟩, q⟩ := h
  obtain ⟨h1, h2, h3⟩ := small_shown d ok
  cases r with
  | cons ra rn =>
    cases rn
    cases ra
    obtain ⟨as, reads⟩ := Dp.reads I d _ _ rp.dp rfl
    refine repr_of_reads' reads h2 (PyData.noDict_hsm h3) hg (by omega) (fun _ _ e => e) (fun h' u tk k => ⟨.str d.shown, H, I.kept k, ⟨u, rfl⟩, q⟩) ?_
    show d.shown.length ≤ 2 ^ 24
    omega
/-- small data: nodes, depth -/
def Sm (n k : Nat) (d : PyData) : Prop := smallD d = true ∧ nodes d ≤ n ∧ d.depth ≤ k
theorem Sm.imp {n k n' k' : Nat} {d : PyData} (h : Sm n k d) (a : n ≤ n') (b : k ≤ k') : Sm n' k' d := ⟨h.1, Nat.le_trans h.2.1 a, Nat.le_trans h.2.2 b⟩
theorem Sm.show {n k : Nat} {d : PyData} (h : Sm n k d) (a : n ≤ 600000 := by decide) (b : k ≤ 60 := by decide) : ShowOk d := h.imp a b
theorem sm_non : Sm 1 0 .none := ⟨by simp [smallD], by simp [nodes], by simp [PyData.depth]⟩
theorem sm_bool (b : Bool) : Sm 1 0 (.bool b) := ⟨by simp [smallD], by simp [nodes], by simp [PyData.depth]⟩
theorem sm_int {i : Int} (h : -10000000000000000000 < i ∧ i < 10000000000000000000) : Sm 1 0 (.int i) := ⟨by simp only [smallD, decide_eq_true_eq]; omega, by simp [nodes], by simp [PyData.depth]⟩
theorem sm_all {α : Type} {f : α → PyData} {n k : Nat} : ∀ {xs : List α}, (∀ x ∈ xs, Sm n k (f x)) → smallAll (xs.map f) = true ∧ nodesAll (xs.map f) ≤ xs.length * n ∧ PyData.depthAll (xs.map f) ≤ k
  | [], _ => ⟨by simp [smallAll], by simp [nodesAll], by simp [PyData.depthAll]⟩
  | x :: xs, h => by
    obtain ⟨a1, a2, a3⟩ := h x List.mem_cons_self
    obtain ⟨b1, b2, b3⟩ := sm_all fun y hy => h y (List.mem_cons_of_mem _ hy)
    refine ⟨by simp [smallAll, a1, b1], ?_, ?_⟩
    · simp only [List.map_cons, nodesAll, List.length_cons, Nat.succ_mul]
      omega
    · simp only [List.map_cons, PyData.depthAll]
      omega
theorem sm_L {α : Type} {f : α → PyData} {n k m : Nat} {xs : List α} (h : ∀ x ∈ xs, Sm n k (f x)) (hm : xs.length ≤ m) : Sm (1 + m * n) (k + 1) (encL f xs) := by
  obtain ⟨a1, a2, a3⟩ := sm_all h
  refine ⟨by simp [encL, smallD, a1], ?_, ?_⟩
  · have := Nat.mul_le_mul_right n hm
    simp only [encL, nodes]
    omega
  · simp only [encL, PyData.depth]
    omega
theorem sm_ints {xs : List Int} {m : Nat} (h : ∀ x ∈ xs, -10000000000000000000 < x ∧ x < 10000000000000000000) (hm : xs.length ≤ m) : Sm (1 + m * 1) 1 (encL PyData.int xs) := sm_L (fun x hx => sm_int (h x hx)) hm
theorem sm_T2 {α β : Type} {f : α → PyData} {g : β → PyData} {n k m j : Nat} {p : α × β} (h1 : Sm n k (f p.1)) (h2 : Sm m j (g p.2)) : Sm (1 + n + m) (max k j + 1) (encT2 f g p) := by
  obtain ⟨a1, a2, a3⟩ := h1
  obtain ⟨b1, b2, b3⟩ := h2
  refine ⟨by simp [encT2, smallD, smallAll, a1, b1], ?_, ?_⟩
  · simp only [encT2, nodes, nodesAll]
    omega
  · simp only [encT2, PyData.depth, PyData.depthAll]
    omega
theorem sm_T3 {α β γ : Type} {f : α → PyData} {g : β → PyData} {h : γ → PyData} {n k m j l i : Nat} {p : α × β × γ} (h1 : Sm n k (f p.1)) (h2 : Sm m j (g p.2.1)) (h3 : Sm l i (h p.2.2)) : Sm (1 + n + m + l) (max k (max j i) + 1) (encT3 f g h p) := by
  obtain ⟨a1, a2, a3⟩ := h1
  obtain ⟨b1, b2, b3⟩ := h2
  obtain ⟨c1, c2, c3⟩ := h3
  refine ⟨by simp [encT3, smallD, smallAll, a1, b1, c1], ?_, ?_⟩
  · simp only [encT3, nodes, nodesAll]
    omega
  · simp only [encT3, PyData.depth, PyData.depthAll]
    omega
end Vx
namespace Vx
open PySem PySem.Spec PyProof.Rows L2
theorem new_ne2 {H : Hp} {L : List Addr} {x : Addr} (n : ∀ b ∈ L, H b = none) (h : H x ≠ none) : ∀ b ∈ L, b ≠ x := fun b hb z => h (z ▸ n b hb)
theorem upd_tree {α : Type} {f : α → Dt} {G H H' : Hp} {L L1 : List Addr} {vs : List V} {xs : List α} {k : Int} {v : V} {m : Addr} {y : α} (up : ∀ H' y, (∀ b ∈ L, b ∉ L1 → ∀ o, H b = some o → H' b = some o) → Ow G H' L1 v (f y) → OwAll G H' L vs ((setL xs k y).map f)) (x : SameX m H H') (hm : m ∈ L1) (w : Ow G H' L1 v (f y)) :
    OwAll G H' L vs ((setL xs k y).map f) := up H' y (fun c _ n o q => x c o q (fun z => n (z ▸ hm))) w
theorem Ow.toFrz {α : Type} {f : α → PyData} {G H : Hp} {L : List Addr} {v : V} {x : α} (w : Ow G H L v (oF f x)) : L = [] ∧ Rp G v (f x) := by
  unfold oF at w
  cases w with
  | frz r => exact ⟨rfl, r⟩
section
variable {α : Type} {f : α → Dt} {G H : Hp} {L : List Addr} {vs : List V} {xs : List α}
theorem OwAll.pin {i : Nat} {v : V} {x : α} (w : OwAll G H L vs (xs.map f)) (h : vs[i]? = some v) (hx : xs[i]? = some x) : ∃ L1, Ow G H L1 v (f x) ∧ ∀ b ∈ L1, b ∈ L := by
  obtain ⟨y, L1, h1, h2, h3⟩ := OwAll.turn w h
  rw [hx] at h1
  cases h1
  exact ⟨L1, h2, h3⟩
theorem OwAll.pinInts {i : Nat} {b : Addr} {xs : List (List Int)} {x : List Int} (w : OwAll G H L vs (xs.map (oL oI))) (h : vs[i]? = some (.ref b)) (hx : xs[i]? = some x) : H b = some (.lst (x.map V.int)) ∧ b ∈ L := by
  obtain ⟨L1, w1, h1⟩ := OwAll.pin w h hx
  obtain ⟨c, e, rfl, h2⟩ := Ow.toInts w1
  cases e
  exact ⟨h2, h1 _ List.mem_cons_self⟩
end
end Vx
namespace Vx
open PySem PySem.Spec PyProof.Rows L2
theorem lookup_relab {c : Str → Bool} {y : Str} : ∀ l : List (Str × NameKind), (l.lookup y = some .cell ∨ l.lookup y = some .free) →
    ((l.map fun (n, k) => if (k == .free && c n) then (n, NameKind.cell) else (n, k)).lookup y = some .cell ∨ (l.map fun (n, k) => if (k == .free && c n) then (n, NameKind.cell) else (n, k)).lookup y = some .free)
  | [], h => by simp at h
  | (n, k) :: r, h => by
    rw [List.map_cons]
    dsimp only
    by_cases e : y == n
    · have hk : k = .cell ∨ k = .free := by
        rw [List.lookup_cons, e] at h
        simpa using h
      by_cases q : (k == .free && c n) = true
      · left
        rw [if_pos q, List.lookup_cons, e]
      · rw [if_neg q, List.lookup_cons, e]
        simpa using hk
    · have e : (y == n) = false := by simpa using e
      rw [List.lookup_cons, e] at h
      have ih := lookup_relab (c := c) r h
      by_cases q : (k == .free && c n) = true
      · rw [if_pos q, List.lookup_cons, e]
        exact ih
      · rw [if_neg q, List.lookup_cons, e]
        exact ih
theorem blk_relabel {N : List Str} {sc scope : Scope} {env : Env} {own : List (Str × Nat)} (h : BlkOk N sc scope own) : BlkOk N (relabel sc env) scope own := by
  refine ⟨h.kind, h.uniq, h.ix, fun y hy e => ?_, h.own⟩
  have z := lookup_relab (c := fun n => env.scope.kind == .function && env.kindOf n == some .cell) (y := y.1) sc.names (h.free y hy e)
  unfold relabel
  simpa only [Bool.and_assoc] using z
end Vx
namespace Vx
open PySem PySem.Spec PyProof.Rows L2
theorem FnG.low {P : Program} {w : World} {K : PySem.W.Frag} {mg : Str → Option Value} {base : Heap} {cx : CXT} {j k : Nat} {f : Addr} {fd : FuncData} {ps : List Str} {sp : Sp} (F : FnG P w K mg base cx j f fd ps sp) (h : j ≤ k) : FnG P w K mg base cx k f fd ps sp := ⟨F.len, fun A o s H a us vs Q E r => F.run A o s H a us vs Q E (r.low h)⟩
/-! ### a local name that holds one of several defs -/
structure HeldX (P : Program) (w : World) (K : PySem.W.Frag) (mg : Str → Option Value) (base : Heap) (k n : Nat) (f : Addr) (sp : Sp) : Prop where
  ex : ∃ (fd : FuncData) (ps : List Str), FnG P w K mg base (L2.CX P w) k f fd ps sp ∧ PySem.W.keepIn K (.ref f) = true ∧ Bnd K fd ps n [] (fun vs _ => vs)
theorem HeldX.of {P : Program} {w : World} {K : PySem.W.Frag} {mg : Str → Option Value} {base : Heap} {j k n : Nat} {x : Str} {sp : Sp} {pats : List Pat} {a : Addr} (c : CalX P w K mg base j x sp pats) (hx : mg x = some (.ref a)) (hp : (n, [], fun vs _ => vs) ∈ pats) (hj : j ≤ k) : HeldX P w K mg base k n a sp := by
  obtain ⟨f, fd, ps, F, hm, kp, b⟩ := c.ex
  rw [hx] at hm
  injection hm with hm
  injection hm with hm
  subst hm
  exact ⟨fd, ps, F.low hj, kp, b _ hp⟩
def tCallF (i n : Nat) (L : List (Addr × Sp)) (W : WX) (t : TA) : TE := fun σ H Q => ∃ f sp, σ[i]? = some (some (.ref f)) ∧ (f, sp) ∈ L ∧ t σ H fun vs H1 => vs.length = n ∧ ([] : List V).length = 0 ∧ sp vs H1 Q (WE W σ)
theorem vx_callF {X : Cx} {k j i n : Nat} {x : Str} {p pos : Pos} {e : Expr} {es : List Expr} {t : TA} {W : WX} (L : List (Addr × Sp)) (A : ∀ q ∈ L, HeldX X.prog X.w X.K X.mg X.base k n q.1 q.2) (hr : RoomG j X.A) (hk : k ≤ j) (tkW : Takes X W) (hN : X.N[i]? = some x) (hv : Vis X.env.scope x) (ha : PA X (e :: es) t)
    (hdb : (x == ("__debug__" : Str)) = false := by decide) (hcd : (x == ("__classdict__" : Str)) = false := by decide) (he : starEach (e :: es) X.env = (false, eval e X.env) :: starEach es X.env := by rfl) (hpl : (backTo pos (starEach es X.env)).any (·.1) = false := by rfl) :
    PE X (.Call (.Name x p) (e :: es) [] pos) (tCallF i n L W t) := by
  constructor
  intro pins s σ H Q I h
  obtain ⟨f, sp, slot, mem, rest⟩ := h
  obtain ⟨fd, ps, F, kp, b⟩ := (A _ mem).ex
  refine wpAny_Call_Name_kw (thn ((pe_var (pos := p) hN hv hdb hcd).run pins s σ H (fun v H1 => v = .ref f ∧ H1 = H) I ⟨.ref f, slot, rfl, rfl⟩) ?_)
  rintro u s1 ⟨v, H1, I1, r1, rfl, rfl⟩
  cases r1
  refine PySem.W.callWith_K (h₀ := X.base) I.ok.mod.kin kp (thn (ha.run pos pins s1 σ _ _ I1 rest) ?_) he hpl
  rintro us s2 ⟨vs, H2, I2, r, l1, l2, q⟩
  exact ⟨I2.kIn, run_X (us := us) (ws := []) (zs := []) F (hr.low hk) b tkW I2 r .nil l1 l2 q⟩
/-! ### the least of a list, the place of an item -/
def minL : List Int → Int
  | [] => 0
  | [x] => x
  | x :: y :: r => if x ≤ minL (y :: r) then x else minL (y :: r)
theorem minL_spec : ∀ (xs : List Int), xs ≠ [] → minL xs ∈ xs ∧ ∀ y ∈ xs, minL xs ≤ y
  | [], h => absurd rfl h
  | [x], _ => ⟨List.mem_cons_self, fun y hy => by rw [List.mem_singleton.mp hy]; exact Int.le_refl x⟩
  | x :: y :: r, _ => by
    obtain ⟨h1, h2⟩ := minL_spec (y :: r) (fun z => nomatch z)
    unfold minL
    split
    · refine ⟨List.mem_cons_self, fun z hz => ?_⟩
      rcases List.mem_cons.mp hz with rfl | hz
      · exact Int.le_refl _
      · have := h2 z hz
        omega
    · refine ⟨List.mem_cons_of_mem _ h1, fun z hz => ?_⟩
      rcases List.mem_cons.mp hz with rfl | hz
      · omega
      · exact h2 z hz
def maxL (xs : List Int) : Int := -(minL (xs.map fun x => -x))
theorem maxL_spec (xs : List Int) (h : xs ≠ []) : maxL xs ∈ xs ∧ ∀ y ∈ xs, y ≤ maxL xs := by
  obtain ⟨h1, h2⟩ := minL_spec (xs.map fun x => -x) (by simpa using h)
  obtain ⟨z, hz, e⟩ := List.mem_map.mp h1
  unfold maxL
  refine ⟨by rw [← e, Int.neg_neg]; exact hz, fun y hy => ?_⟩
  have := h2 _ (List.mem_map_of_mem hy)
  omega
section
variable {X : Cx} {K : PySem.W.Frag}
def rMinL (K : PySem.W.Frag) : List V → Hp → VK → Prop := fun vs H Q => ∃ (a : Addr) (ns : List Int), vs = [V.ref a] ∧ SqL K H a (ns.map V.int) ∧ ns ≠ [] ∧ Q (.int (minL ns)) H
def rMaxL (K : PySem.W.Frag) : List V → Hp → VK → Prop := fun vs H Q => ∃ (a : Addr) (ns : List Int), vs = [V.ref a] ∧ SqL K H a (ns.map V.int) ∧ ns ≠ [] ∧ Q (.int (maxL ns)) H
theorem cr_minL (hc : X.calm = true) (hK : X.K = K := by rfl) : CallR X (.builtin "min") (rMinL K) := by
  subst hK
  intro pins s σ H vs us Q I r h
  obtain ⟨a, ns, rfl, hs, hn, q⟩ := h
  refine cr_min hc pins s σ H _ us Q I r ⟨a, ns, rfl, hs, List.length_pos_iff.mpr hn, fun m hm hle => ?_⟩
  obtain ⟨h1, h2⟩ := minL_spec ns hn
  have e : m = minL ns := Int.le_antisymm (by have := hle _ h1; omega) (h2 m hm)
  rw [e]
  exact q
theorem cr_maxL (hc : X.calm = true) (hK : X.K = K := by rfl) : CallR X (.builtin "max") (rMaxL K) := by
  subst hK
  intro pins s σ H vs us Q I r h
  obtain ⟨a, ns, rfl, hs, hn, q⟩ := h
  refine cr_max hc pins s σ H _ us Q I r ⟨a, ns, rfl, hs, List.length_pos_iff.mpr hn, fun m hm hle => ?_⟩
  obtain ⟨h1, h2⟩ := maxL_spec ns hn
  have e : m = maxL ns := Int.le_antisymm (h2 m hm) (by have := hle _ h1; omega)
  rw [e]
  exact q
end
end Vx
namespace Vx
open PySem PySem.Spec PyProof.Rows L2
def idxL (ns : List Int) (i : Int) : Int := (ns.idxOf i : Nat)
def rIndexI (K : PySem.W.Frag) : V → List V → Hp → VK → Prop := fun x xs H Q => ∃ (a : Addr) (ns : List Int) (i : Int), x = V.ref a ∧ xs = [.int i] ∧ SqL K H a (ns.map V.int) ∧ i ∈ ns ∧ Q (.int (idxL ns i)) H
theorem mt_indexI {X : Cx} {K : PySem.W.Frag} (hK : X.K = K := by rfl) : MtR X "list.index" (rIndexI K) := by
  subst hK
  intro pins s σ H x xs v us Q I rx rxs h
  obtain ⟨a, ns, i, rfl, rfl, hs, hi, q⟩ := h
  have hl := List.idxOf_lt_length_of_mem hi
  refine mt_index pins s σ H _ _ v us Q I rx rxs ⟨a, _, .int i, ns.idxOf i, .int i, rfl, rfl, hs, rfl, flat_ints ns, ?_, by simp [eqV], fun m z hm hz => ?_, q⟩
  · rw [List.getElem?_map, List.getElem?_eq_getElem hl, List.getElem_idxOf hl] <;> rfl
  · rw [List.getElem?_map] at hz
    cases e : ns[m]? with
    | none => rw [e] at hz; cases hz
    | some y =>
      rw [e] at hz
      cases hz
      have hml : m < ns.length := by omega
      have hy : ns[m] = y := by
        rw [List.getElem?_eq_getElem hml] at e
        exact Option.some.inj e
      have := List.not_of_lt_findIdx (p := (· == i)) (xs := ns) (i := m) hm
      simp only [beq_iff_eq, hy] at this
      simp [eqV, this]
theorem cW_aftgo {σ ρ τ : Type} {s : σ} {kr : ρ → Rx τ} {k : σ → Rx τ} {K : τ → Prop} {E : Nat → Prop} (h : cW ((Lp.go s : Lp σ ρ).aft kr k) K E) : cW (k s) K E := h
end Vx
namespace Vx
open PySem PySem.Spec PyProof.Rows L2
/-! ### a truth value or a number beside a number -/
def Bi.num : Bi → Int
  | .b x => if x then 1 else 0
  | .n i => i
def Bi.dat : Bi → PyData
  | .b x => .bool x
  | .n i => .int i
section
variable {X : Cx}
def rEqBI : R2 := fun x y H Q => ∃ (b : Bi) (i : Int), x = biV b ∧ y = .int i ∧ Q (.bl (decide (b.num = i))) H
def rNeBI : R2 := fun x y H Q => ∃ (b : Bi) (i : Int), x = biV b ∧ y = .int i ∧ Q (.bl (!decide (b.num = i))) H
theorem eqv_bi (b : Bi) (i : Int) : PyData.eqv b.dat (.int i) = decide (b.num = i) := by
  cases b with
  | b x => cases x <;> (rw [Bool.eq_iff_iff]; simp [Bi.dat, Bi.num, PyData.eqv])
  | n j =>
    rw [Bool.eq_iff_iff]
    simp only [Bi.dat, Bi.num, PyData.eqv, beq_iff_eq]
    exact decide_eq_true_iff.symm
theorem dp_bi {K : PySem.W.Frag} {H : Hp} : ∀ b : Bi, Dp K H (biV b) b.dat
  | .b x => .bl x
  | .n i => .int i
theorem shaped_bi : ∀ b : Bi, SeqAt.shaped b.dat = true
  | .b x => by unfold SeqAt.shaped; simp [Bi.dat, PyData.canLay0, PyData.depth]
  | .n i => by unfold SeqAt.shaped; simp [Bi.dat, PyData.canLay0, PyData.depth]
theorem op_eqBI (hu : X.A.units + 64 < cLine) : OpR X (compareOp .Eq) rEqBI := by
  intro pins s σ H x y v u Q I rx ry h
  obtain ⟨b, i, rfl, rfl, q⟩ := h
  exact op_eqD hu pins s σ H _ _ v u Q I rx ry ⟨b.dat, .int i, dp_bi b, .int i, shaped_bi b, shaped_bi (.n i), by rw [eqv_bi]; exact q⟩
theorem op_neBI (hu : X.A.units + 64 < cLine) : OpR X (compareOp .NotEq) rNeBI := by
  intro pins s σ H x y v u Q I rx ry h
  obtain ⟨b, i, rfl, rfl, q⟩ := h
  exact op_neD hu pins s σ H _ _ v u Q I rx ry ⟨b.dat, .int i, dp_bi b, .int i, shaped_bi b, shaped_bi (.n i), by rw [eqv_bi]; exact q⟩
end
end Vx
namespace Vx
open PySem PySem.Spec PyProof.Rows L2
/-! ### == of own objects by an own __eq__ that never raises -/
section
variable {X : Cx} {k j : Nat}
def rEqX (C : Addr) (n mm : Nat) (sp : Sp) (g : List V → List V → List V) : R2 := fun x y H Q => ∃ (a b dx dy : Addr) (fs gs : List (Str × V)), x = .ref a ∧ y = .ref b ∧ H a = some (.ins C dx fs) ∧ H b = some (.ins C dy gs) ∧ 2 = n ∧ 0 = mm ∧ sp (g [x, y] []) H (fun v H' => (∃ r, v = .bl r) ∧ Q v H') E0
theorem op_eqX {C : Addr} {sp : Sp} {pats : List Pat} (c : MetX X.prog X.w X.K X.mg X.base k C "__eq__" sp pats) (pt : Pat) (hpt : pt ∈ pats) (hr : RoomG j X.A) (hk : k ≤ j) (hks : pt.2.1 = [] := by rfl) : OpR X (compareOp .Eq) (rEqX C pt.1 pt.2.1.length sp pt.2.2) := by
  intro pins s σ H x y v u Q I rx ry hq
  obtain ⟨a, b, dx, dy, fs, gs, rfl, rfl, ha, hb', l1, l2, q⟩ := hq
  obtain ⟨f, fd, ps, hc, hm, F, bb⟩ := c.ex
  cases rx
  cases ry
  obtain ⟨mA, J, _⟩ := ins_get I.hok ha
  obtain ⟨mB, J', _⟩ := ins_get I.hok hb'
  obtain ⟨od, J, _⟩ := J.look
  obtain ⟨od', J', _⟩ := J'.look
  obtain ⟨m, hF⟩ := I.fr
  have hz := run_X (us := [.ref a, .ref b]) (vs := [.ref a, .ref b]) (ws := []) (zs := []) F (hr.low hk) (bb pt hpt) (takes0 (X := X)) I (.cons rfl (.cons rfl .nil)) .nil l1 l2 q
  rw [hks] at hz
  show wpAny (model X.prog X.w) X.A (richCompare .Eq (.ref a) (.ref b)) (EP X pins σ Q) X.xe s
  refine PySem.W.cmp_K (op := .Eq) (tb := .ref C) (hr.low hk).toRoom.units0 hF I.ok.mod.kin J J'.type (by simp [PySem.W.notFirst]) hm.at_ hm.fn ?_
  refine wpAny_mono hz (fun r s' z => ?_) fun _ _ e => e
  obtain ⟨w, H', I', rw', ⟨⟨q1, rfl⟩, q2⟩⟩ := z
  cases rw'
  exact ⟨V.bl q1, H', I', rfl, q2⟩
end
end Vx
namespace Vx
open PySem PySem.Spec PyProof.Rows L2
/-! ### isinstance of the exception in hand: a built-in class, a tuple of classes -/
theorem kit_blt {K : PySem.W.Frag} {D : Addr} {T : String} {b : Bool} (h : PySem.W.subIn K (.ref D) (.type T) = some b) (h0 : PySem.W.kitMeta T = true := by decide +kernel) : PySem.W.kitOne K (.ref D) (.type T) = some b := by
  unfold PySem.W.kitOne
  rw [if_neg (show ¬ (Value.ref D == Value.type T) = true from fun z => nomatch (show false = true from z))]
  show (if PySem.W.kitMeta T = true then PySem.W.subIn K (.ref D) (.type T) else none) = some b
  rw [if_pos h0, h]
def rIsXB (K : PySem.W.Frag) (a : Addr) (cls : Value) (d : Option Addr) : List V → Hp → VK → Prop := fun xs H Q => ∃ (D : Addr) (T : String) (b : Bool), cls = .ref D ∧ d = none ∧ ExcC K D ∧ xs = [.ref a, .ty T] ∧ PySem.W.kitOne K (.ref D) (.type T) = some b ∧ Q (.bl b) H
theorem call_isXB {X : Cx} {K : PySem.W.Frag} {a : Addr} {cls : Value} {d : Option Addr} {oe : Obj} {pn : List (Addr × Obj)} (hz : Zc cls d oe) (hf : ∃ vs, oe.data = .fields vs) (hK : X.K = K := by rfl) : CallR (X.suite a ((a, oe) :: pn)) (.builtin "isinstance") (rIsXB K a cls d) := by
  subst hK
  intro pins s σ H xs us Q I r h
  obtain ⟨D, T, b, rfl, rfl, c, rfl, e, q⟩ := h
  exact call_isE c hz hf pins s σ H _ us Q I r ⟨_, _, b, rfl, fun u z => z, e, q⟩
def rIsXT (K : PySem.W.Frag) (a : Addr) (cls : Value) (d : Option Addr) : List V → Hp → VK → Prop := fun xs H Q => ∃ (D tp : Addr) (cs : List V) (ws : List Value) (b : Bool), cls = .ref D ∧ d = none ∧ ExcC K D ∧ xs = [.ref a, .ref tp] ∧ H tp = some (.tup cs) ∧ Paired ClsV cs ws ∧ PySem.W.kitAny K (.ref D) ws = some b ∧ Q (.bl b) H
theorem call_isXT {X : Cx} {K : PySem.W.Frag} {a : Addr} {cls : Value} {d : Option Addr} {oe : Obj} {pn : List (Addr × Obj)} (hz : Zc cls d oe) (hf : ∃ vs, oe.data = .fields vs) (hK : X.K = K := by rfl) : CallR (X.suite a ((a, oe) :: pn)) (.builtin "isinstance") (rIsXT K a cls d) := by
  subst hK
  intro pins s σ H xs us Q I r h
  obtain ⟨D, tp, cs, ws, b, rfl, rfl, C, rfl, hT, k, e, q⟩ := h
  cases r with
  | cons rx rr =>
    cases rr with
    | cons rt rr =>
      cases rr
      cases rx
      cases rt
      obtain ⟨hget, _⟩ := I.pin (a, oe) (List.mem_append.mpr (.inl List.mem_cons_self))
      obtain ⟨vs, hv⟩ := hf
      have J : PySem.W.InstAt s.heap a oe D none := by
        obtain ⟨oc, od, oda, osl⟩ := oe
        obtain ⟨h1, h2⟩ := hz
        dsimp only at h1 h2 hv
        subst h1 h2 hv
        exact ⟨hget, rfl, rfl, trivial⟩
      obtain ⟨_, its, rv, o, h1, h2, n, h3⟩ := (show ObjOk X.prog X.w H s.heap tp (.tup cs) from I.hok tp _ hT)
      have e3 := ClsV.all k rv
      subst e3
      obtain ⟨oc, od, dt, sl⟩ := o
      simp only at h2 h3
      subst h2 h3
      exact PySem.W.kia_tup (PySem.W.handS_kitx_exc C.hg C.hk C.hs C.hd C.ha C.hn C.ht C.hm) I.kIn J h1 e (fun z => nomatch z) fun tk => ⟨.bl b, H, I.kept (t' := tk) fun _ _ z => z, rfl, q⟩
theorem kit_self {K : PySem.W.Frag} {t : Value} (h : (t == t) = true := by simp) : PySem.W.kitOne K t t = some true := by
  unfold PySem.W.kitOne
  rw [if_pos h]
/-- what a class must say, so that isinstance asks its objects rightly -/
structure IsiC (K : PySem.W.Frag) (C : Addr) : Prop where
  ha : PySem.W.findIn K (.ref C) "__class__" = some (some (.builtin "object.__class__"))
  hn : PySem.W.specialIn K (.builtin "object.__class__") "__get__" = some (some (.builtin "getset_descriptor.__get__"))
  ht : PySem.W.takesIn K (.builtin "object.__class__") = some true
  hm : PySem.W.mroIn K C (.type "object") = some true
theorem tyX_ins {K : PySem.W.Frag} {H : Hp} {a C dx : Addr} {fs : List (Str × V)} (e : H a = some (.ins C dx fs)) (cl : Cls K C) (c : IsiC K C) : TyX K H (.ref a) (.ref C) := .base (.ins e cl c.ha c.hn c.ht c.hm)
end Vx
namespace Vx
open PySem PySem.Spec PyProof.Rows L2
theorem op_notTrue {X : Cx} : OpR X (compareOp .IsNot) (fun x y H Q => ∃ b : Bool, x = .bl b ∧ y = .bl true ∧ Q (.bl (!b)) H) := by
  intro pins s σ H x y v u Q I rx ry h
  obtain ⟨b, rfl, rfl, q⟩ := h
  cases rx
  cases ry
  show wpAny (model X.prog X.w) X.A (compareOp .IsNot (.bool b) (.bool true)) (EP X pins σ Q) X.xe s
  have e : compareOp .IsNot (.bool b) (.bool true) = pure (.bool (!b)) := by cases b <;> rfl
  rw [e]
  exact wpAny_pure ⟨.bl (!b), H, I, rfl, q⟩
end Vx
/-! # lists stored into trees -/
namespace Vx
open PySem PySem.Spec PyProof.Rows L2
section
variable {G H I : Hp} {α : Type} {f : α → Dt} {L : List Addr} {vs : List V} {xs : List α}
theorem OwAll.set {L1 : List Addr} {v : V} {d : Dt} (h : Ow G H L1 v d) : ∀ {L : List Addr} {vs : List V} {ds : List Dt} (i : Nat), i < ds.length → OwAll G H L vs ds → (∀ b ∈ L1, b ∉ L) → ∃ L', (∀ b ∈ L', b ∈ L ++ L1) ∧ OwAll G H L' (vs.set i v) (ds.set i d)
  | _, _, _, _, hi, .nil, _ => absurd hi (Nat.not_lt_zero _)
  | _, _, _, 0, _, .cons (L1 := La) (L2 := Lb) a r n, nf => by
    refine ⟨L1 ++ Lb, fun b hb => ?_, .cons h r fun b hb q => nf b hb (List.mem_append_right _ q)⟩
    rcases List.mem_append.mp hb with q | q
    · exact List.mem_append_right _ q
    · exact List.mem_append_left _ (List.mem_append_right _ q)
  | _, _, _, i + 1, hi, .cons (L1 := La) (L2 := Lb) a r n, nf => by
    obtain ⟨L', s, w⟩ := OwAll.set h i (Nat.lt_of_succ_lt_succ hi) r fun b hb q => nf b hb (List.mem_append_right _ q)
    refine ⟨La ++ L', fun b hb => ?_, .cons a w fun b hb q => ?_⟩
    · rcases List.mem_append.mp hb with q | q
      · exact List.mem_append_left _ (List.mem_append_left _ q)
      · rcases List.mem_append.mp (s b q) with z | z
        · exact List.mem_append_left _ (List.mem_append_right _ z)
        · exact List.mem_append_right _ z
    · rcases List.mem_append.mp (s b q) with z | z
      · exact n b hb z
      · exact nf b z (List.mem_append_left _ hb)
theorem ixN_len {k : Int} (e : vs.length = xs.length) (h : -(xs.length : Int) ≤ k ∧ k < xs.length) : ixN vs.length k = some ((ixN vs.length k).getD 0) := by
  rw [e]
  obtain ⟨j, hj, _⟩ := ixN_some h
  rw [hj]
  rfl
theorem OwAll.setM {k : Int} {L1 : List Addr} {v : V} {y : α} (w : OwAll G H L vs (xs.map f)) (h : -(xs.length : Int) ≤ k ∧ k < xs.length) (ow : Ow G H L1 v (f y)) (n : ∀ b ∈ L1, b ∉ L) :
    ∃ L', (∀ b ∈ L', b ∈ L ++ L1) ∧ OwAll G H L' (vs.set ((ixN vs.length k).getD 0) v) ((setL xs k y).map f) := by
  obtain ⟨j, e, hj⟩ := ixN_some h
  obtain ⟨L', s, z⟩ := OwAll.set ow j (by simpa using hj) w n
  refine ⟨L', s, ?_⟩
  unfold setL
  rw [w.lenM, e, List.map_set]
  exact z
end
theorem ne_of_len {α : Type} {xs : List α} (h : xs.length = 4 ∨ xs.length = 6 ∨ xs.length = 8) : xs ≠ [] := by
  rintro rfl
  simp at h
end Vx
namespace Vx
open PySem PySem.Spec PyProof.Rows L2
/-! ### written dicts of ints -/
inductive EI : List (Int × Int) → List DictEntry → Prop
  | nil : EI [] []
  | cons {k v : Int} {t u : Tok} {r : List (Int × Int)} {es : List DictEntry} (h : EI r es) : EI ((k, v) :: r) (⟨hashInt k, .int k t, .int v u⟩ :: es)
def lookI : List (Int × Int) → Int → Option Int
  | [], _ => none
  | (k, v) :: r, i => if i = k then some v else lookI r i
def KDI (K : PySem.W.Frag) (a : Addr) (kvs : List (Int × Int)) : Prop :=
  ∃ es n, K.lookup a = some ⟨.type "dict", none, .dict es n, #[]⟩ ∧ (a == sysModules) = false ∧ EI kvs es.toList
theorem lookI_mem {kvs : List (Int × Int)} {i : Int} : (lookI kvs i).isSome = decide (i ∈ kvs.map (·.1)) := by
  induction kvs with
  | nil => rfl
  | cons p r ih =>
    obtain ⟨k, v⟩ := p
    unfold lookI
    by_cases q : i = k
    · rw [if_pos q]; simp [q]
    · rw [if_neg q, ih]; simp [q]
theorem EI.find {i : Int} : ∀ {kvs : List (Int × Int)} {es : List DictEntry}, EI kvs es → match lookI kvs i with
    | some v => ∃ u, (es.find? fun e => keyIs (.inl i) e.key).map (·.val) = some (.int v u)
    | none => (es.find? fun e => keyIs (.inl i) e.key).map (·.val) = none
  | _, _, .nil => rfl
  | _, _, .cons (k := k) (v := v) (t := t) (u := u) (r := r) (es := es) h => by
    have ih := EI.find (i := i) h
    unfold lookI
    by_cases q : i = k
    · subst q
      rw [if_pos rfl]
      refine ⟨u, ?_⟩
      rw [List.find?_cons_of_pos (by exact keyIs_int i t)]
      rfl
    · rw [if_neg q]
      have e : ¬ (keyIs (.inl i) (Value.int k t) = true) := by
        intro z
        obtain ⟨t', e'⟩ := Value.isInt_shape (k := i) (v := Value.int k t) z
        injection e' with e1 _
        exact q e1.symm
      rw [List.find?_cons_of_neg (by exact e)]
      exact ih
theorem EI.keys {P : Program} {w : World} : ∀ {kvs : List (Int × Int)} {es : List DictEntry}, EI kvs es → ∀ e ∈ es, ∃ k, (mixKind P w).is k e.key = true ∧ e.hash = (mixKind P w).hash k
  | _, _, .nil, e, he => nomatch he
  | _, _, .cons (k := k) (t := t) h, e, he => by
    rcases List.mem_cons.mp he with rfl | he
    · exact ⟨.inl k, keyIs_int k t, rfl⟩
    · exact EI.keys h e he
section
variable {X : Cx} {K : PySem.W.Frag}
theorem KDI.map {d : Addr} {kvs : List (Int × Int)} {pins : List (Addr × Obj)} {σ : L2.St} {H : Hp} {s : Shared} (D : KDI X.K d kvs) (I : Inv X pins σ H s) : (d == sysModules) = false ∧ ∃ f, s.heap.MapOf (mixKind X.prog X.w) d f ∧ ∀ i, match lookI kvs i with
    | some v => ∃ u, f (.inl i) = some (.int v u)
    | none => f (.inl i) = none := by
  obtain ⟨es, n, hl, hd, he⟩ := D
  refine ⟨hd, fun k => findBy keyIs es k, ⟨_, es, n, I.kIn _ _ hl, ⟨rfl, rfl, rfl⟩, rfl, fun e q => EI.keys he e (Array.mem_toList_iff.mpr q), fun _ => rfl⟩, fun i => ?_⟩
  have := EI.find (i := i) he
  have e : findBy keyIs es (.inl i) = (es.toList.find? fun e => keyIs (.inl i) e.key).map (·.val) := by
    obtain ⟨l⟩ := es
    unfold findBy
    rw [List.find?_toArray]
  show match lookI kvs i with
    | some v => ∃ u, findBy keyIs es (.inl i) = some (.int v u)
    | none => findBy keyIs es (.inl i) = none
  rw [e]
  exact this
def rInDI (K : PySem.W.Frag) : R2 := fun x y H Q => ∃ (i : Int) (d : Addr) (kvs : List (Int × Int)) (ks : List Int), x = .int i ∧ y = .ref d ∧ KDI K d kvs ∧ ks = kvs.map (·.1) ∧ Q (.bl (decide (i ∈ ks))) H
def rNotInDI (K : PySem.W.Frag) : R2 := fun x y H Q => ∃ (i : Int) (d : Addr) (kvs : List (Int × Int)) (ks : List Int), x = .int i ∧ y = .ref d ∧ KDI K d kvs ∧ ks = kvs.map (·.1) ∧ Q (.bl (!decide (i ∈ ks))) H
def rIxDI (K : PySem.W.Frag) : R2 := fun x y H Q => ∃ (d : Addr) (i v : Int) (kvs : List (Int × Int)), x = .ref d ∧ y = .int i ∧ KDI K d kvs ∧ lookI kvs i = some v ∧ Q (.int v) H
theorem op_inDI (hK : X.K = K := by rfl) : OpR X (compareOp .In) (rInDI K) := by
  subst hK
  intro pins s σ H x y v u Q I rx ry h
  obtain ⟨i, d, kvs, ks, rfl, rfl, D, rfl, q⟩ := h
  rw [← lookI_mem] at q
  obtain ⟨t, rfl⟩ := rx
  cases ry
  obtain ⟨hd, f, hm, hf⟩ := D.map I
  refine wpAny_in_of (knd := mixKind X.prog X.w) (kV_is (k := .inl i) ⟨t, rfl⟩) hd hm ?_
  have e : (f (.inl i)).isSome = (lookI kvs i).isSome := by
    have := hf i
    split at this
    · next v hv => obtain ⟨u, hu⟩ := this; rw [hu, hv]; rfl
    · next hv => rw [this, hv]; rfl
  rw [e]
  exact ⟨.bl (lookI kvs i).isSome, H, I.tok _, rfl, q⟩
theorem op_notInDI (hK : X.K = K := by rfl) : OpR X (compareOp .NotIn) (rNotInDI K) := by
  subst hK
  intro pins s σ H x y v u Q I rx ry h
  obtain ⟨i, d, kvs, ks, rfl, rfl, D, rfl, q⟩ := h
  rw [← lookI_mem] at q
  obtain ⟨t, rfl⟩ := rx
  cases ry
  obtain ⟨hd, f, hm, hf⟩ := D.map I
  refine wpAny_notIn_of (knd := mixKind X.prog X.w) (kV_is (k := .inl i) ⟨t, rfl⟩) hd hm ?_
  have e : (f (.inl i)).isSome = (lookI kvs i).isSome := by
    have := hf i
    split at this
    · next v hv => obtain ⟨u, hu⟩ := this; rw [hu, hv]; rfl
    · next hv => rw [this, hv]; rfl
  rw [e]
  exact ⟨.bl (!(lookI kvs i).isSome), H, I.tok _, rfl, q⟩
theorem ix_DI (hK : X.K = K := by rfl) : IxR X (rIxDI K) := by
  subst hK
  intro value slice pins s σ H x y v u Q I rx ry h hs
  obtain ⟨p, i, r, kvs, rfl, rfl, D, e, q⟩ := h
  obtain rfl : v = Value.ref p := rx
  obtain ⟨t, rfl⟩ := ry
  obtain ⟨hd, f, hm, hf⟩ := D.map I
  have := hf i
  rw [e] at this
  obtain ⟨u, hu⟩ := this
  exact tail_any hm.typeIs slot_dict_getitem.lookup (wpAny_getItem_of (knd := mixKind X.prog X.w) (kV_is (k := .inl i) ⟨t, rfl⟩) hm hu ⟨.int r, H, I.tok _, ⟨_, rfl⟩, q⟩) hs
end
/-- the value at a key that is there -/
def dictI (kvs : List (Int × Int)) (i : Int) : Int := (lookI kvs i).getD 0
theorem lookI_at {kvs : List (Int × Int)} {i : Int} (h : i ∈ kvs.map (·.1)) : lookI kvs i = some (dictI kvs i) := by
  have := lookI_mem (kvs := kvs) (i := i)
  rw [decide_eq_true h] at this
  unfold dictI
  cases e : lookI kvs i with
  | none => rw [e] at this; cases this
  | some v => rfl
/-! ### walks over two lists, over numbered items, backwards -/
theorem pi_enumK {X : Cx} {K : PySem.W.Frag} {e : Expr} {ta : TA} {p pos tpos : Pos} {elts : List Expr} {kk : Nat} (hg : Gl X "enumerate") (hm : X.mg "enumerate" = none) (ha : PA X [e] ta) (hK : X.K = K := by rfl) (hs : starEach [e] X.env = [(false, eval e X.env)] := by rfl) :
    PI X (.Tuple elts kk tpos) (.Call (.Name "enumerate" p) [e] [] pos) (iEnum K ta) := hK ▸ pi_enum hg hm ha hs
section
variable {K : PySem.W.Frag} {a b : Addr} {xs ys : List V} {g : TG} {tb : TS} {tt : TT} {te : TE} {D : Ends} {σ : L2.St} {H H1 : Hp} {vs : List Nat} {DD : Addr} {Qd : Hp → Prop}
theorem for_enum (Pv : Nat → L2.St → Hp → Prop) (h0 : Pv 0 σ H) (hq : ∀ i σ H, Pv i σ H → SqL K H a xs)
    (hs : ∀ (i : Nat) (y : V) (T : Addr) (σ : L2.St) (H : Hp), xs[i]? = some y → H T = none → Pv i σ H → g (.ref T) σ (upd H T (.tup [.int (i : Nat), y])) fun σ2 H2 => tb { D with nx := Pv (i + 1), ct := Pv (i + 1), bk := D.nx } σ2 H2) (hd : ∀ σ H, Pv xs.length σ H → D.nx σ H) :
    ∃ W : Nat → Nat → L2.St → Hp → Prop, (∃ m, W 0 m σ H) ∧ ∀ i m σ H, W i m σ H →
      ((Ite K a).stop i H ∧ D.nx σ H) ∨ ((Ite K a).go i H ∧ ∃ N : L2.St → Hp → Prop, (∀ σ' H', N σ' H' → ∃ m', m' < m ∧ W (i + 1) m' σ' H') ∧ ∀ v H', (Ite K a).yld i H v H' → g v σ H' fun σ2 H2 => tb { D with nx := N, ct := N, bk := D.nx } σ2 H2) := by
  refine for_it walk_enum Pv h0 (fun i σ H _ p => hq i σ H p) (fun i x σ H H' hi p y => ?_) hd
  obtain ⟨T, x1, y1, rfl, hT, rfl, h1, h2⟩ := y
  cases h1
  exact hs i y1 T σ H h2 hT p
theorem lc_enum (Pv : Nat → Hp → Prop) (h0 : Pv 0 (upd H1 DD (.lst []))) (hq : ∀ i H, i ≤ xs.length → Pv i H → SqL K H a xs)
    (hs : ∀ (i : Nat) (y : V) (T : Addr) (H : Hp), xs[i]? = some y → H T = none → Pv i H → g (.ref T) (wipe σ vs) (upd H T (.tup [.int (i : Nat), y])) fun σ2 H2 => wipe σ2 vs = wipe σ vs ∧ tt σ2 H2 fun b H3 =>
      if b = true then te σ2 H3 fun y H4 => ∃ acc, H4 DD = some (.lst acc) ∧ acc.length < sizeLine ∧ Pv (i + 1) (upd H4 DD (.lst (acc ++ [y]))) else Pv (i + 1) H3) (hd : ∀ H, Pv xs.length H → Qd H) :
    ∃ W : Nat → Nat → Hp → Prop, (∃ m, W 0 m (upd H1 DD (.lst []))) ∧ ∀ i m H, W i m H →
      ((Ite K a).stop i H ∧ Qd H) ∨ ((Ite K a).go i H ∧ ∃ Nx : Hp → Prop, (∀ H', Nx H' → ∃ m', m' < m ∧ W (i + 1) m' H') ∧ ∀ x H', (Ite K a).yld i H x H' → g x (wipe σ vs) H' fun σ2 H2 => wipe σ2 vs = wipe σ vs ∧ tt σ2 H2 fun b H3 =>
        if b = true then te σ2 H3 fun y H4 => ∃ acc, H4 DD = some (.lst acc) ∧ acc.length < sizeLine ∧ Nx (upd H4 DD (.lst (acc ++ [y]))) else Nx H3) := by
  refine lc_it walk_enum Pv h0 hq (fun i x H H' hi p y => ?_) hd
  obtain ⟨T, x1, y1, rfl, hT, rfl, h1, h2⟩ := y
  cases h1
  exact hs i y1 T H h2 hT p
/-- zip of two lists of any lengths -/
theorem for_zipM (n : Nat) (hn : n = min xs.length ys.length) (Pv : Nat → L2.St → Hp → Prop) (h0 : Pv 0 σ H) (hq : ∀ i σ H, Pv i σ H → SqL K H a xs ∧ SqL K H b ys)
    (hs : ∀ (i : Nat) (x y : V) (T : Addr) (σ : L2.St) (H : Hp), xs[i]? = some x → ys[i]? = some y → H T = none → Pv i σ H → g (.ref T) σ (upd H T (.tup [x, y])) fun σ2 H2 => tb { D with nx := Pv (i + 1), ct := Pv (i + 1), bk := D.nx } σ2 H2) (hd : ∀ σ H, Pv n σ H → D.nx σ H) :
    ∃ W : Nat → Nat → L2.St → Hp → Prop, (∃ m, W 0 m σ H) ∧ ∀ i m σ H, W i m σ H →
      ((Itz K a b).stop i H ∧ D.nx σ H) ∨ ((Itz K a b).go i H ∧ ∃ N : L2.St → Hp → Prop, (∀ σ' H', N σ' H' → ∃ m', m' < m ∧ W (i + 1) m' σ' H') ∧ ∀ v H', (Itz K a b).yld i H v H' → g v σ H' fun σ2 H2 => tb { D with nx := N, ct := N, bk := D.nx } σ2 H2) := by
  refine for_it (walk_zip hn) Pv h0 (fun i σ H _ p => hq i σ H p) (fun i x σ H H' hi p y => ?_) hd
  obtain ⟨T, x1, y1, rfl, hT, rfl, h1, h2⟩ := y
  exact hs i x1 y1 T σ H h1 h2 hT p
theorem lc_zipM (n : Nat) (hn : n = min xs.length ys.length) (Pv : Nat → Hp → Prop) (h0 : Pv 0 (upd H1 DD (.lst []))) (hq : ∀ i H, i ≤ n → Pv i H → SqL K H a xs ∧ SqL K H b ys)
    (hs : ∀ (i : Nat) (x y : V) (T : Addr) (H : Hp), xs[i]? = some x → ys[i]? = some y → H T = none → Pv i H → g (.ref T) (wipe σ vs) (upd H T (.tup [x, y])) fun σ2 H2 => wipe σ2 vs = wipe σ vs ∧ tt σ2 H2 fun b H3 =>
      if b = true then te σ2 H3 fun y H4 => ∃ acc, H4 DD = some (.lst acc) ∧ acc.length < sizeLine ∧ Pv (i + 1) (upd H4 DD (.lst (acc ++ [y]))) else Pv (i + 1) H3) (hd : ∀ H, Pv n H → Qd H) :
    ∃ W : Nat → Nat → Hp → Prop, (∃ m, W 0 m (upd H1 DD (.lst []))) ∧ ∀ i m H, W i m H →
      ((Itz K a b).stop i H ∧ Qd H) ∨ ((Itz K a b).go i H ∧ ∃ Nx : Hp → Prop, (∀ H', Nx H' → ∃ m', m' < m ∧ W (i + 1) m' H') ∧ ∀ x H', (Itz K a b).yld i H x H' → g x (wipe σ vs) H' fun σ2 H2 => wipe σ2 vs = wipe σ vs ∧ tt σ2 H2 fun b H3 =>
        if b = true then te σ2 H3 fun y H4 => ∃ acc, H4 DD = some (.lst acc) ∧ acc.length < sizeLine ∧ Nx (upd H4 DD (.lst (acc ++ [y]))) else Nx H3) := by
  refine lc_it (walk_zip hn) Pv h0 hq (fun i x H H' hi p y => ?_) hd
  obtain ⟨T, x1, y1, rfl, hT, rfl, h1, h2⟩ := y
  exact hs i x1 y1 T H h1 h2 hT p
end
theorem zipM_len {α β : Type} {xs : List α} {ys : List β} : min xs.length ys.length = (xs.zip ys).length := by rw [List.length_zip]
theorem zipM_n {α β : Type} {vs ws : List V} {xs : List α} {ys : List β} (a : vs.length = xs.length) (b : ws.length = ys.length) : min xs.length ys.length = min vs.length ws.length := by rw [a, b]
def rListTK (K : PySem.W.Frag) : List V → Hp → VK → Prop := fun xs H Q => ∃ (p : Addr) (vs : List V), xs = [.ref p] ∧ SqT K H p vs ∧ ∀ l, H l = none → Q (.ref l) (upd H l (.lst vs))
theorem call_listTK {X : Cx} {K : PySem.W.Frag} (hK : X.K = K := by rfl) : CallR X (.type "list") (rListTK K) := by
  subst hK
  intro pins s σ H xs us Q I r h
  obtain ⟨p, vs, rfl, hs, q⟩ := h
  exact call_list_of pins s σ H _ us Q I r ⟨p, _, rfl, Or.inr hs, q⟩
/-- two lists that keep step -/
inductive F2 {α β : Type} (P : α → β → Prop) : List α → List β → Prop
  | nil : F2 P [] []
  | cons {a : α} {b : β} {l : List α} {m : List β} (h : P a b) (t : F2 P l m) : F2 P (a :: l) (b :: m)
theorem F2.get {α β : Type} {P : α → β → Prop} : ∀ {l : List α} {m : List β}, F2 P l m → ∀ (j : Nat), j < l.length → ∃ a b, l[j]? = some a ∧ m[j]? = some b ∧ P a b
  | _, _, .nil, j, h => absurd h (Nat.not_lt_zero _)
  | _, _, .cons h t, 0, _ => ⟨_, _, rfl, rfl, h⟩
  | _, _, .cons h t, j + 1, hj => t.get j (Nat.lt_of_succ_lt_succ hj)
theorem F2.at {α β : Type} [Inhabited α] [Inhabited β] {P : α → β → Prop} {l : List α} {m : List β} (h : F2 P l m) (k : Int) (h0 : 0 ≤ k) (h1 : k < l.length) : P (itD l k) (itD m k) := by
  obtain ⟨j, rfl⟩ : ∃ j : Nat, k = (j : Int) := ⟨k.toNat, by omega⟩
  obtain ⟨a, b, ha, hb, p⟩ := h.get j (by omega)
  have e1 : itD l (j : Int) = a := by unfold itD; rw [atI_nat ha]; rfl
  have e2 : itD m (j : Int) = b := by unfold itD; rw [atI_nat hb]; rfl
  rw [e1, e2]
  exact p
theorem SqT.cast {K : PySem.W.Frag} {H : Hp} {a : Addr} {xs ys : List V} (h : SqT K H a xs) (e : xs = ys) : SqT K H a ys := e ▸ h
/-- enumerate(xs) -/
def enumL {α : Type} (xs : List α) : List (Int × α) := (rng 0 xs.length).zip xs
theorem enumL_len {α : Type} (xs : List α) : (enumL xs).length = xs.length := by
  unfold enumL
  rw [List.length_zip, rng_len, Nat.min_self]
theorem enumL_get {α : Type} {xs : List α} {i : Nat} {x : α} (h : xs[i]? = some x) : (enumL xs)[i]? = some ((i : Int), x) := by
  have hl : i < xs.length := (List.getElem?_eq_some_iff.mp h).1
  unfold enumL
  rw [List.getElem?_zip_eq_some]
  refine ⟨?_, h⟩
  have := rng_get (lo := 0) hl
  rw [this]
  congr 1
  omega
end Vx
namespace Vx
open PySem PySem.Spec PyProof.Rows L2
theorem wipe_get : ∀ (σ : L2.St) (vs : List Nat) (j : Nat), (wipe σ vs)[j]? = if j ∈ vs ∧ j < σ.length then some none else σ[j]?
  | σ, [], j => by simp [wipe]
  | σ, v :: vs, j => by
    unfold wipe
    by_cases e : v = j
    · subst e
      by_cases h : v < σ.length
      · rw [List.getElem?_set_self (by rw [wipe_length]; exact h), if_pos ⟨List.mem_cons_self, h⟩]
      · rw [if_neg (fun z => h z.2), List.getElem?_eq_none (by rw [List.length_set, wipe_length]; omega), List.getElem?_eq_none (by omega)]
    · rw [List.getElem?_set_ne e, wipe_get σ vs j]
      have : (j ∈ v :: vs ∧ j < σ.length) ↔ (j ∈ vs ∧ j < σ.length) := by
        constructor
        · rintro ⟨h1, h2⟩
          rcases List.mem_cons.mp h1 with rfl | h1
          · exact absurd rfl e
          · exact ⟨h1, h2⟩
        · rintro ⟨h1, h2⟩
          exact ⟨List.mem_cons_of_mem _ h1, h2⟩
      by_cases q : j ∈ vs ∧ j < σ.length
      · rw [if_pos q, if_pos (this.mpr q)]
      · rw [if_neg q, if_neg (fun z => q (this.mp z))]
theorem wipe_wipe {σ : L2.St} {vs : List Nat} : wipe (wipe σ vs) vs = wipe σ vs := by
  apply List.ext_getElem?
  intro j
  rw [wipe_get (wipe σ vs), wipe_length]
  by_cases q : j ∈ vs ∧ j < σ.length
  · rw [if_pos q, wipe_get, if_pos q]
  · rw [if_neg q]
theorem wipe_set {σ : L2.St} {vs : List Nat} {v : Nat} {x : Option V} (h : v ∈ vs) : wipe (σ.set v x) vs = wipe σ vs := by
  apply List.ext_getElem?
  intro j
  rw [wipe_get, wipe_get, List.length_set]
  by_cases q : j ∈ vs ∧ j < σ.length
  · rw [if_pos q, if_pos q]
  · rw [if_neg q, if_neg q]
    by_cases e : v = j
    · subst e
      have hl : ¬ v < σ.length := fun z => q ⟨h, z⟩
      rw [List.getElem?_eq_none (by rw [List.length_set]; omega), List.getElem?_eq_none (by omega)]
    · rw [List.getElem?_set_ne e]
/-- a comprehension over a step range -/
theorem lc_rangeC {lo c : Int} {n : Nat} {g : TG} {tt : TT} {te : TE} {vs : List Nat} {σ : L2.St} {H1 : Hp} {D : Addr} {Qd : Hp → Prop} (Pv : Nat → Hp → Prop) (h0 : Pv 0 (upd H1 D (.lst [])))
    (hs : ∀ i H, i < n → Pv i H → g (.int (lo + (i : Nat) * c)) (wipe σ vs) H fun σ2 H2 => wipe σ2 vs = wipe σ vs ∧ tt σ2 H2 fun b H3 =>
      if b = true then te σ2 H3 fun y H4 => ∃ acc, H4 D = some (.lst acc) ∧ acc.length < sizeLine ∧ Pv (i + 1) (upd H4 D (.lst (acc ++ [y]))) else Pv (i + 1) H3) (hd : ∀ H, Pv n H → Qd H) :
    ∃ W : Nat → Nat → Hp → Prop, (∃ m, W 0 m (upd H1 D (.lst []))) ∧ ∀ i m H, W i m H →
      ((Itc lo c n).stop i H ∧ Qd H) ∨ ((Itc lo c n).go i H ∧ ∃ Nx : Hp → Prop, (∀ H', Nx H' → ∃ m', m' < m ∧ W (i + 1) m' H') ∧ ∀ x H', (Itc lo c n).yld i H x H' → g x (wipe σ vs) H' fun σ2 H2 => wipe σ2 vs = wipe σ vs ∧ tt σ2 H2 fun b H3 =>
        if b = true then te σ2 H3 fun y H4 => ∃ acc, H4 D = some (.lst acc) ∧ acc.length < sizeLine ∧ Nx (upd H4 D (.lst (acc ++ [y]))) else Nx H3) := by
  refine ⟨fun i m H => m = n - i ∧ i ≤ n ∧ Pv i H, ⟨n, by simp, Nat.zero_le _, h0⟩, ?_⟩
  rintro i m H ⟨rfl, hi, p⟩
  rcases Nat.lt_or_ge i n with hlt | hge
  · refine .inr ⟨hlt, Pv (i + 1), fun H' p' => ⟨n - (i + 1), by omega, rfl, hlt, p'⟩, fun x H' y => ?_⟩
    obtain ⟨e, y⟩ := y
    subst e y
    exact hs i _ hlt p
  · cases Nat.le_antisymm hi hge
    exact .inl ⟨Nat.le_refl _, hd H p⟩

/-! ### reversed(list of ints), any(list of ints) -/
theorem pi_revK {X : Cx} {K : PySem.W.Frag} {tg : Expr} {e : Expr} {ta : TA} {p pos : Pos} (hg : Gl X "reversed") (hm : X.mg "reversed" = none) (ha : PA X [e] ta) (hK : X.K = K := by rfl) (hs : starEach [e] X.env = [(false, eval e X.env)] := by rfl) :
    PI X tg (.Call (.Name "reversed" p) [e] [] pos) (iRev K ta) := hK ▸ pi_reversed hg hm ha hs
theorem for_revI {K : PySem.W.Frag} {a : Addr} {xs : List Int} {g : TG} {tb : TS} {D : Ends} {σ : L2.St} {H : Hp} (Pv : Nat → L2.St → Hp → Prop) (h0 : Pv 0 σ H) (hl : ∀ i σ H, i ≤ (xs.reverse.map V.int).length → Pv i σ H → SqL K H a (xs.map V.int))
    (hs : ∀ i x σ H, (xs.reverse.map V.int)[i]? = some x → Pv i σ H → g x σ H fun σ2 H2 => tb { D with nx := Pv (i + 1), ct := Pv (i + 1), bk := D.nx } σ2 H2) (hd : ∀ σ H, Pv (xs.reverse.map V.int).length σ H → D.nx σ H) :
    ∃ W : Nat → Nat → L2.St → Hp → Prop, (∃ m, W 0 m σ H) ∧ ∀ i m σ H, W i m σ H →
      ((Itv K a (xs.map V.int).length).stop i H ∧ D.nx σ H) ∨ ((Itv K a (xs.map V.int).length).go i H ∧ ∃ N : L2.St → Hp → Prop, (∀ σ' H', N σ' H' → ∃ m', m' < m ∧ W (i + 1) m' σ' H') ∧ ∀ x H', (Itv K a (xs.map V.int).length).yld i H x H' → g x σ H' fun σ2 H2 => tb { D with nx := N, ct := N, bk := D.nx } σ2 H2) := by
  have en : (xs.reverse.map V.int).length = (xs.map V.int).length := by rw [List.length_map, List.length_map, List.length_reverse]
  rw [en] at hl hd
  refine for_it walk_rev Pv h0 hl (fun i x σ H H' hi p y => ?_) hd
  obtain ⟨rfl, hx⟩ := y
  refine hs i x σ _ ?_ p
  rw [List.map_reverse, List.getElem?_reverse hi]
  exact hx
theorem ints_get : ∀ {ns : List Int} {us : List Value} {i : Nat} {v : Value}, IntsAre us ns → us[i]? = some v → ∃ t, v = .int (ns.getD i 0) t := by
  intro ns us i v h
  induction h generalizing i with
  | nil => intro z; simp at z
  | cons n t _ ih =>
    intro z
    cases i with
    | zero => simp at z; exact ⟨t, by rw [← z]; rfl⟩
    | succ i => exact ih (by simpa using z)
theorem any_rangeI : ∀ ns : List Int, (List.range ns.length).any (fun i => ns.getD i 0 != 0) = ns.any (fun x => x != 0)
  | [] => rfl
  | b :: bs => by
    rw [List.length_cons, List.range_succ_eq_map, List.any_cons, List.any_map, List.any_cons, ← any_rangeI bs]
    all_goals rfl
theorem ints_len : ∀ {ns : List Int} {us : List Value}, IntsAre us ns → us.length = ns.length := by
  intro ns us h
  induction h with
  | nil => rfl
  | cons _ _ _ ih => simp [ih]
def rAnyI (K : PySem.W.Frag) : List V → Hp → VK → Prop := fun vs H Q => ∃ (a : Addr) (ns : List Int), vs = [V.ref a] ∧ SqL K H a (ns.map V.int) ∧ Q (.bl (ns.any fun x => x != 0)) H
theorem cr_anyI {X : Cx} (hc : X.calm = true) : CallR X (.builtin "any") (rAnyI X.K) := by
  intro pins s σ H vs us Q I r h
  obtain ⟨a, ns, rfl, hs, q⟩ := h
  obtain ⟨its, rv, hl, _⟩ := I.list hs
  rw [Vals.ref1 r]
  have hb := rv.ints
  refine call_any_walk (iter_any hl.isList fun s₂ e2 st hne => ?_)
  subst e2
  have ht : TruthOf X.prog X.w X.A.in1 (fun i v => its.toArray[i]? = some v) (fun i => ns.getD i 0 != 0) := fun i v s Q E hv hq => by
    obtain ⟨t, rfl⟩ := ints_get hb (by simpa using hv)
    exact PyProof.Rows.truthy_int hq
  refine ⟨_, _, _, _, _, _, _, rfl, Walks.list (A := X.A.in1) (I.ok.hd hc) _ a hne its.toArray, st, ht, fun h' tk hk => ?_⟩
  refine ⟨.bl _, H, I.kept fun b o eo => hk b o (fun hmem => ?_) (Heap.get?_push_of_some _ eo), ?_, q⟩
  · rcases List.mem_cons.mp hmem with e1 | hmem
    · exact absurd (e1 ▸ Heap.lt_size eo) (Nat.lt_irrefl _)
    · cases hmem
  · show Value.bool _ = Value.bool _
    rw [← any_rangeI, List.size_toArray, ints_len hb]
theorem cr_anyIK {X : Cx} {K : PySem.W.Frag} (hc : X.calm = true) (hK : X.K = K := by rfl) : CallR X (.builtin "any") (rAnyI K) := hK ▸ cr_anyI hc
/-- an item of a list of data stored anew -/
theorem RpAll.setM {α : Type} {f : α → PyData} {G : Hp} {vs : List V} {xs : List α} {k : Int} {v : V} {y : α} (d : RpAll G vs (xs.map f)) (r : Rp G v (f y)) : RpAll G (vs.set ((ixN vs.length k).getD 0) v) ((setL xs k y).map f) := by
  have e : vs.length = xs.length := by rw [d.len, List.length_map]
  unfold setL
  rw [List.map_set, e]
  exact RpAll.set r _ d
end Vx
/-! # data of any shape: None beside data, tuples of several shapes -/
namespace Vx
open PySem PySem.Spec PyProof.Rows L2
def encD (d : PyData) : PyData := d
def encN (_ : Unit) : PyData := .none
def encT1 {α : Type} (f : α → PyData) (x : α) : PyData := .tuple [f x]
instance instInhD : Inhabited PyData := ⟨.none⟩
/-- a known shape: what is laid, what is read back, whether the data has the shape -/
structure Cst (α : Type) where
  enc : α → PyData
  dec : PyData → α
  ok : PyData → Bool
  h : ∀ d, ok d = true → enc (dec d) = d
  oke : ∀ x, ok (enc x) = true
  de : ∀ x, dec (enc x) = x
def cI : Cst Int := ⟨PyData.int, fun d => match d with | .int i => i | _ => 0, fun d => match d with | .int _ => true | _ => false, fun d h => (by cases d <;> first | rfl | (cases h)), fun _ => rfl, fun _ => rfl⟩
def cB : Cst Bool := ⟨PyData.bool, fun d => match d with | .bool i => i | _ => false, fun d => match d with | .bool _ => true | _ => false, fun d h => (by cases d <;> first | rfl | (cases h)), fun _ => rfl, fun _ => rfl⟩
def cS : Cst Str := ⟨PyData.str, fun d => match d with | .str i => i | _ => "", fun d => match d with | .str _ => true | _ => false, fun d h => (by cases d <;> first | rfl | (cases h)), fun _ => rfl, fun _ => rfl⟩
def cN : Cst Unit := ⟨encN, fun _ => (), fun d => match d with | .none => true | _ => false, fun d h => (by cases d <;> first | rfl | (cases h)), fun _ => rfl, fun _ => rfl⟩
def cD : Cst PyData := ⟨encD, fun d => d, fun _ => true, fun _ _ => rfl, fun _ => rfl, fun _ => rfl⟩
theorem map_dec {α : Type} (c : Cst α) : ∀ xs : List PyData, xs.all c.ok = true → (xs.map c.dec).map c.enc = xs
  | [], _ => rfl
  | x :: xs, h => by
    rw [List.all_cons, Bool.and_eq_true] at h
    rw [List.map_cons, List.map_cons, c.h x h.1, map_dec c xs h.2]
def cL {α : Type} (c : Cst α) : Cst (List α) where
  enc := encL c.enc
  dec := fun d => match d with | .list xs => xs.map c.dec | _ => []
  ok := fun d => match d with | .list xs => xs.all c.ok | _ => false
  h := fun d h => by
    cases d with
    | list xs => exact congrArg PyData.list (map_dec c xs h)
    | _ => cases h
  oke := fun x => by
    show (x.map c.enc).all c.ok = true
    rw [List.all_map, List.all_eq_true]
    exact fun a _ => c.oke a
  de := fun x => by
    show (x.map c.enc).map c.dec = x
    rw [List.map_map]
    have e : c.dec ∘ c.enc = id := funext c.de
    rw [e, List.map_id]
def cT1 {α : Type} (a : Cst α) : Cst α where
  enc := encT1 a.enc
  dec := fun d => match d with | .tuple [x] => a.dec x | _ => a.dec .none
  ok := fun d => match d with | .tuple [x] => a.ok x | _ => false
  h := fun d h => by
    split at h
    · next x => exact congrArg (fun z => PyData.tuple [z]) (a.h x h)
    · cases h
  oke := fun x => a.oke x
  de := fun x => a.de x
def cT2 {α β : Type} (a : Cst α) (b : Cst β) : Cst (α × β) where
  enc := encT2 a.enc b.enc
  dec := fun d => match d with | .tuple [x, y] => (a.dec x, b.dec y) | _ => (a.dec .none, b.dec .none)
  ok := fun d => match d with | .tuple [x, y] => a.ok x && b.ok y | _ => false
  h := fun d h => by
    split at h
    · next x y =>
      rw [Bool.and_eq_true] at h
      show PyData.tuple [a.enc (a.dec x), b.enc (b.dec y)] = _
      rw [a.h x h.1, b.h y h.2]
    · cases h
  oke := fun x => by show (a.ok (a.enc x.1) && b.ok (b.enc x.2)) = true; rw [a.oke, b.oke]; rfl
  de := fun x => by show (a.dec (a.enc x.1), b.dec (b.enc x.2)) = x; rw [a.de, b.de]
def cT3 {α β γ : Type} (a : Cst α) (b : Cst β) (c : Cst γ) : Cst (α × β × γ) where
  enc := encT3 a.enc b.enc c.enc
  dec := fun d => match d with | .tuple [x, y, z] => (a.dec x, b.dec y, c.dec z) | _ => (a.dec .none, b.dec .none, c.dec .none)
  ok := fun d => match d with | .tuple [x, y, z] => a.ok x && b.ok y && c.ok z | _ => false
  h := fun d h => by
    split at h
    · next x y z =>
      simp only [Bool.and_eq_true] at h
      show PyData.tuple [a.enc (a.dec x), b.enc (b.dec y), c.enc (c.dec z)] = _
      rw [a.h x h.1.1, b.h y h.1.2, c.h z h.2]
    · cases h
  oke := fun x => by show (a.ok (a.enc x.1) && b.ok (b.enc x.2.1) && c.ok (c.enc x.2.2)) = true; rw [a.oke, b.oke, c.oke]; rfl
  de := fun x => by show (a.dec (a.enc x.1), b.dec (b.enc x.2.1), c.dec (c.enc x.2.2)) = x; rw [a.de, b.de, c.de]
def cT4 {α β γ δ : Type} (a : Cst α) (b : Cst β) (c : Cst γ) (e : Cst δ) : Cst (α × β × γ × δ) where
  enc := encT4 a.enc b.enc c.enc e.enc
  dec := fun d => match d with | .tuple [x, y, z, w] => (a.dec x, b.dec y, c.dec z, e.dec w) | _ => (a.dec .none, b.dec .none, c.dec .none, e.dec .none)
  ok := fun d => match d with | .tuple [x, y, z, w] => a.ok x && b.ok y && c.ok z && e.ok w | _ => false
  h := fun d h => by
    split at h
    · next x y z w =>
      simp only [Bool.and_eq_true] at h
      show PyData.tuple [a.enc (a.dec x), b.enc (b.dec y), c.enc (c.dec z), e.enc (e.dec w)] = _
      rw [a.h x h.1.1.1, b.h y h.1.1.2, c.h z h.1.2, e.h w h.2]
    · cases h
  oke := fun x => by show (a.ok (a.enc x.1) && b.ok (b.enc x.2.1) && c.ok (c.enc x.2.2.1) && e.ok (e.enc x.2.2.2)) = true; rw [a.oke, b.oke, c.oke, e.oke]; rfl
  de := fun x => by show (a.dec (a.enc x.1), b.dec (b.enc x.2.1), c.dec (c.enc x.2.2.1), e.dec (e.enc x.2.2.2)) = x; rw [a.de, b.de, c.de, e.de]
section
variable {H : Hp} {v : V} {d : PyData}
theorem rp_dcast {α : Type} (c : Cst α) (g : c.ok d = true) (r : Rp H v d) : Rp H v (c.enc (c.dec d)) := by rw [c.h d g]; exact r
def dNone : PyData → Bool
  | .none => true
  | _ => false
def dSeq : PyData → Bool
  | .list _ => true
  | .tuple _ => true
  | _ => false
def dTup : PyData → Bool
  | .tuple _ => true
  | _ => false
def dLst : PyData → Bool
  | .list _ => true
  | _ => false
def dInt : PyData → Bool
  | .int _ => true
  | .bool _ => true
  | _ => false
def dBool : PyData → Bool
  | .bool _ => true
  | _ => false
def dGet : PyData → Nat → PyData
  | .tuple xs, k => xs.getD k .none
  | .list xs, k => xs.getD k .none
  | _, _ => .none
def dHasT : PyData → Nat → Bool
  | .tuple xs, k => decide (k < xs.length)
  | _, _ => false
theorem rp_ref (g : dSeq d = true) (r : Rp H v d) : ∃ a, v = .ref a := by
  cases r <;> first | exact ⟨_, rfl⟩ | cases g
theorem rp_dget {k : Nat} (g : dHasT d k = true) (r : Rp H v d) : ∃ a vs u, v = .ref a ∧ H a = some (.tup vs) ∧ atI vs (k : Int) = some u ∧ Rp H u (dGet d k) := by
  cases r with
  | tup h rs =>
    rename_i ds
    have hk : k < ds.length := of_decide_eq_true g
    obtain ⟨u, h1, h2⟩ := RpAll.at' (i := k) (d := ds[k]) rs (List.getElem?_eq_getElem hk)
    refine ⟨_, _, u, rfl, h, ?_, ?_⟩
    · exact atI_nat h1
    · show Rp H u (ds.getD k .none)
      rw [List.getD_eq_getElem?_getD, List.getElem?_eq_getElem hk]
      exact h2
  | _ => cases g
theorem rp_non {x : Unit} (r : Rp H v (encN x)) : v = .non := by unfold encN at r; cases r; rfl
theorem rp_tup1 {α : Type} {f : α → PyData} {x : α} (r : Rp H v (encT1 f x)) : ∃ a v1, v = .ref a ∧ H a = some (.tup [v1]) ∧ Rp H v1 (f x) := by
  unfold encT1 at r
  cases r with
  | tup h1 h2 =>
    cases h2 with
    | cons r1 t => cases t; exact ⟨_, _, rfl, h1, r1⟩
theorem rp_mk1 {α : Type} {f : α → PyData} {a : Addr} {v1 : V} {x : α} (h1 : H a = some (.tup [v1])) (r1 : Rp H v1 (f x)) : Rp H (.ref a) (encT1 f x) := .tup h1 (.cons r1 .nil)
theorem rp_none_iff (r : Rp H v d) : decide (v = V.non) = dNone d := by
  cases r <;> simp [dNone]
end
section
variable {X : Cx}
def rIsND : R2 := fun x y H Q => ∃ d, y = .non ∧ Rp H x d ∧ Q (.bl (dNone d)) H
def rNotND : R2 := fun x y H Q => ∃ d, y = .non ∧ Rp H x d ∧ Q (.bl (!dNone d)) H
theorem op_isND : OpR X (compareOp .Is) rIsND := by
  intro pins s σ H x y v u Q I rx ry h
  obtain ⟨d, e, r, q⟩ := h
  exact op_isN pins s σ H x y v u Q I rx ry ⟨e, by rw [rp_none_iff r]; exact q⟩
theorem op_notND : OpR X (compareOp .IsNot) rNotND := by
  intro pins s σ H x y v u Q I rx ry h
  obtain ⟨d, e, r, q⟩ := h
  exact op_notN pins s σ H x y v u Q I rx ry ⟨e, by rw [rp_none_iff r]; exact q⟩
def rEqD : R2 := fun x y H Q => ∃ a b : PyData, Rp H x a ∧ Rp H y b ∧ (SeqAt.shaped a = true ∧ SeqAt.shaped b = true) ∧ Q (.bl (PyData.eqv a b)) H
def rNeD : R2 := fun x y H Q => ∃ a b : PyData, Rp H x a ∧ Rp H y b ∧ (SeqAt.shaped a = true ∧ SeqAt.shaped b = true) ∧ Q (.bl (!PyData.eqv a b)) H
theorem op_eqDD (hu : X.A.units + 64 < cLine) : OpR X (compareOp .Eq) rEqD := by
  intro pins s σ H x y v u Q I rx ry h
  obtain ⟨a, b, h1, h2, ⟨s1, s2⟩, q⟩ := h
  exact op_eqD hu pins s σ H _ _ v u Q I rx ry ⟨_, _, h1.dp, h2.dp, s1, s2, q⟩
theorem op_neDD (hu : X.A.units + 64 < cLine) : OpR X (compareOp .NotEq) rNeD := by
  intro pins s σ H x y v u Q I rx ry h
  obtain ⟨a, b, h1, h2, ⟨s1, s2⟩, q⟩ := h
  exact op_neD hu pins s σ H _ _ v u Q I rx ry ⟨_, _, h1.dp, h2.dp, s1, s2, q⟩
def dTy : PyData → String
  | .none => "NoneType"
  | .bool _ => "bool"
  | .int _ => "int"
  | .str _ => "str"
  | .list _ => "list"
  | .tuple _ => "tuple"
  | .dict _ => "dict"
theorem Rp.tyX {K : PySem.W.Frag} {H : Hp} {v : V} {d : PyData} (r : Rp H v d) : TyX K H v (.type (dTy d)) := by
  cases r with
  | non => exact .base .non
  | bl b => exact .base (.bl b)
  | int i => exact .base (.int i)
  | str x => exact .base (.str x)
  | lst h _ => exact .base (.lst h)
  | tup h _ => exact .base (.tup h)
def rIsiD (T : String) (f : PyData → Bool) : List V → Hp → VK → Prop := fun xs H Q => ∃ (x : V) (d : PyData), xs = [x, .ty T] ∧ Rp H x d ∧ Q (.bl (f d)) H
theorem call_isiD {T : String} {f : PyData → Bool} (hT : ∀ d, kitB (dTy d) T = some (f d)) : CallR X (.builtin "isinstance") (rIsiD T f) := by
  intro pins s σ H xs us Q I r h
  obtain ⟨x, d, rfl, rx, q⟩ := h
  exact call_isi pins s σ H _ us Q I r ⟨x, .ty T, _, _, _, rfl, .ty T, rx.tyX, kit_ty (hT d), q⟩
theorem kit_dTup (d : PyData) : kitB (dTy d) "tuple" = some (dTup d) := by
  cases d with
  | none => exact (by decide +kernel : kitB "NoneType" "tuple" = some false)
  | bool _ => exact (by decide +kernel : kitB "bool" "tuple" = some false)
  | int _ => exact (by decide +kernel : kitB "int" "tuple" = some false)
  | str _ => exact (by decide +kernel : kitB "str" "tuple" = some false)
  | list _ => exact (by decide +kernel : kitB "list" "tuple" = some false)
  | tuple _ => exact (by decide +kernel : kitB "tuple" "tuple" = some true)
  | dict _ => exact (by decide +kernel : kitB "dict" "tuple" = some false)
theorem kit_dLst (d : PyData) : kitB (dTy d) "list" = some (dLst d) := by
  cases d with
  | none => exact (by decide +kernel : kitB "NoneType" "list" = some false)
  | bool _ => exact (by decide +kernel : kitB "bool" "list" = some false)
  | int _ => exact (by decide +kernel : kitB "int" "list" = some false)
  | str _ => exact (by decide +kernel : kitB "str" "list" = some false)
  | list _ => exact (by decide +kernel : kitB "list" "list" = some true)
  | tuple _ => exact (by decide +kernel : kitB "tuple" "list" = some false)
  | dict _ => exact (by decide +kernel : kitB "dict" "list" = some false)
theorem kit_dInt (d : PyData) : kitB (dTy d) "int" = some (dInt d) := by
  cases d with
  | none => exact (by decide +kernel : kitB "NoneType" "int" = some false)
  | bool _ => exact (by decide +kernel : kitB "bool" "int" = some true)
  | int _ => exact (by decide +kernel : kitB "int" "int" = some true)
  | str _ => exact (by decide +kernel : kitB "str" "int" = some false)
  | list _ => exact (by decide +kernel : kitB "list" "int" = some false)
  | tuple _ => exact (by decide +kernel : kitB "tuple" "int" = some false)
  | dict _ => exact (by decide +kernel : kitB "dict" "int" = some false)
theorem kit_dBool (d : PyData) : kitB (dTy d) "bool" = some (dBool d) := by
  cases d with
  | none => exact (by decide +kernel : kitB "NoneType" "bool" = some false)
  | bool _ => exact (by decide +kernel : kitB "bool" "bool" = some true)
  | int _ => exact (by decide +kernel : kitB "int" "bool" = some false)
  | str _ => exact (by decide +kernel : kitB "str" "bool" = some false)
  | list _ => exact (by decide +kernel : kitB "list" "bool" = some false)
  | tuple _ => exact (by decide +kernel : kitB "tuple" "bool" = some false)
  | dict _ => exact (by decide +kernel : kitB "dict" "bool" = some false)
end
/-! ### written dicts of numbers with text keys -/
inductive ES (P : Params) : List (Str × Int) → List DictEntry → Prop
  | nil : ES P [] []
  | cons {h k v} {t u : Tok} {r : List (Str × Int)} {es : List DictEntry} (e : h = PyData.keyHash P k) (x : ES P r es) : ES P ((k, v) :: r) (⟨h, .str k t, .int v u⟩ :: es)
def lookS : List (Str × Int) → Str → Option Int
  | [], _ => none
  | (k, v) :: r, i => if k = i then some v else lookS r i
def KDS (K : PySem.W.Frag) (w : World) (a : Addr) (kvs : List (Str × Int)) : Prop :=
  ∃ es n, K.lookup a = some ⟨.type "dict", none, .dict es n, #[]⟩ ∧ ES w.params kvs es.toList
theorem ES.lit {P : Params} : ∀ {kvs : List (Str × Int)} {es : List DictEntry}, ES P kvs es → PySem.W.KeysLit P es
  | _, _, .nil => trivial
  | _, _, .cons e x => ⟨⟨_, _, rfl, e⟩, ES.lit x⟩
theorem ES.find {P : Params} {i : Str} {v : Int} : ∀ {kvs : List (Str × Int)} {es : List DictEntry}, ES P kvs es → lookS kvs i = some v → ∃ e u, es.find? (fun e => e.key.isStr i) = some e ∧ e.val = .int v u
  | _, _, .nil, h => by cases h
  | _, _, .cons (k := k) (u := u) e x, h => by
    unfold lookS at h
    by_cases q : k = i
    · rw [if_pos q] at h
      subst q
      cases h
      refine ⟨_, u, List.find?_cons_of_pos ?_, rfl⟩
      simp [Value.isStr]
    · rw [if_neg q] at h
      obtain ⟨e', u', h1, h2⟩ := ES.find x h
      refine ⟨e', u', ?_, h2⟩
      rw [List.find?_cons_of_neg]
      · exact h1
      · simp [Value.isStr, q]
theorem KDS.at {K : PySem.W.Frag} {w : World} {a : Addr} {kvs : List (Str × Int)} {z : Str} {v : Int} (D : KDS K w a kvs) (h : lookS kvs z = some v) : KDct K w a z (.int v) := by
  obtain ⟨es, n, hl, x⟩ := D
  obtain ⟨e, u, h1, h2⟩ := x.find h
  refine ⟨es, n, .int v u, hl, x.lit, ?_, ⟨u, rfl⟩⟩
  unfold PySem.W.nsIn
  rw [hl]
  show (match es.toList.find? (fun e => e.key.isStr z) with
      | some e => some (some e.val)
      | none => if es.toList.any (·.refKey) then none else some none) = _
  rw [h1]
  show some (some e.val) = _
  rw [h2]
def rIxDS (K : PySem.W.Frag) (w : World) : R2 := fun x y H Q => ∃ (p : Addr) (z : Str) (kvs : List (Str × Int)) (v : Int), x = .ref p ∧ y = .str z ∧ KDS K w p kvs ∧ lookS kvs z = some v ∧ Q (.int v) H
theorem ix_DS {X : Cx} {K : PySem.W.Frag} {w : World} (hK : X.K = K := by rfl) (hw : X.w = w := by rfl) : IxR X (rIxDS K w) := by
  subst hK hw
  intro value slice pins s σ H x y v u Q I rx ry h hs
  obtain ⟨p, z, kvs, r, e1, e2, D, e, q⟩ := h
  exact ix_kdict value slice pins s σ H x y v u Q I rx ry ⟨p, z, .int r, e1, e2, D.at e, q⟩ hs
def dictS (kvs : List (Str × Int)) (i : Str) : Int := (lookS kvs i).getD 0
def hasS (kvs : List (Str × Int)) (i : Str) : Bool := (lookS kvs i).isSome
theorem lookS_at {kvs : List (Str × Int)} {i : Str} (h : hasS kvs i = true) : lookS kvs i = some (dictS kvs i) := by
  unfold hasS at h
  unfold dictS
  cases e : lookS kvs i with
  | none => rw [e] at h; cases h
  | some v => rfl
/-! ### for the mathematics -/
theorem eqv_enc {α : Type} [DecidableEq α] {n : Nat} {f : α → PyData} (ok : EncOk n f) (x y : α) : PyData.eqv (f x) (f y) = decide (x = y) := ok.eqv x y
end Vx
namespace Vx
open PySem PySem.Spec PyProof.Rows L2
theorem sm_str {x : Str} (h : (reprText x).length ≤ 20) : Sm 1 0 (.str x) := ⟨by simp only [smallD, decide_eq_true_eq]; exact h, by simp [nodes], by simp [PyData.depth]⟩
theorem sm_none : Sm 1 0 (encN ()) := sm_non
theorem sm_T1 {α : Type} {f : α → PyData} {n k : Nat} {p : α} (h1 : Sm n k (f p)) : Sm (1 + n) (k + 1) (encT1 f p) := by
  obtain ⟨a1, a2, a3⟩ := h1
  refine ⟨by simp [encT1, smallD, smallAll, a1], ?_, ?_⟩
  · simp only [encT1, nodes, nodesAll]
    omega
  · simp only [encT1, PyData.depth, PyData.depthAll]
    omega
theorem sm_T4 {α β γ δ : Type} {f : α → PyData} {g : β → PyData} {h : γ → PyData} {e : δ → PyData} {n k m j l i o q : Nat} {p : α × β × γ × δ} (h1 : Sm n k (f p.1)) (h2 : Sm m j (g p.2.1)) (h3 : Sm l i (h p.2.2.1)) (h4 : Sm o q (e p.2.2.2)) : Sm (1 + n + m + l + o) (max k (max j (max i q)) + 1) (encT4 f g h e p) := by
  obtain ⟨a1, a2, a3⟩ := h1
  obtain ⟨b1, b2, b3⟩ := h2
  obtain ⟨c1, c2, c3⟩ := h3
  obtain ⟨d1, d2, d3⟩ := h4
  refine ⟨by simp [encT4, smallD, smallAll, a1, b1, c1, d1], ?_, ?_⟩
  · simp only [encT4, nodes, nodesAll]
    omega
  · simp only [encT4, PyData.depth, PyData.depthAll]
    omega
theorem Sm.enc {n k : Nat} {d : PyData} (h : Sm n k d) : Sm n k (encD d) := h
end Vx
namespace Vx
theorem len8 {α : Type} {l : List α} (h : l.length = 8) : ∃ x0 x1 x2 x3 x4 x5 x6 x7, l = [x0, x1, x2, x3, x4, x5, x6, x7] := by
  obtain ⟨x0, r, rfl, h2⟩ := len_s h
  obtain ⟨x1, x2, x3, x4, x5, x6, x7, rfl⟩ := len7 h2
  exact ⟨x0, x1, x2, x3, x4, x5, x6, x7, rfl⟩
theorem len9 {α : Type} {l : List α} (h : l.length = 9) : ∃ x0 x1 x2 x3 x4 x5 x6 x7 x8, l = [x0, x1, x2, x3, x4, x5, x6, x7, x8] := by
  obtain ⟨x0, r, rfl, h2⟩ := len_s h
  obtain ⟨x1, x2, x3, x4, x5, x6, x7, x8, rfl⟩ := len8 h2
  exact ⟨x0, x1, x2, x3, x4, x5, x6, x7, x8, rfl⟩
theorem len10 {α : Type} {l : List α} (h : l.length = 10) : ∃ x0 x1 x2 x3 x4 x5 x6 x7 x8 x9, l = [x0, x1, x2, x3, x4, x5, x6, x7, x8, x9] := by
  obtain ⟨x0, r, rfl, h2⟩ := len_s h
  obtain ⟨x1, x2, x3, x4, x5, x6, x7, x8, x9, rfl⟩ := len9 h2
  exact ⟨x0, x1, x2, x3, x4, x5, x6, x7, x8, x9, rfl⟩
theorem len11 {α : Type} {l : List α} (h : l.length = 11) : ∃ x0 x1 x2 x3 x4 x5 x6 x7 x8 x9 x10, l = [x0, x1, x2, x3, x4, x5, x6, x7, x8, x9, x10] := by
  obtain ⟨x0, r, rfl, h2⟩ := len_s h
  obtain ⟨x1, x2, x3, x4, x5, x6, x7, x8, x9, x10, rfl⟩ := len10 h2
  exact ⟨x0, x1, x2, x3, x4, x5, x6, x7, x8, x9, x10, rfl⟩
theorem len12 {α : Type} {l : List α} (h : l.length = 12) : ∃ x0 x1 x2 x3 x4 x5 x6 x7 x8 x9 x10 x11, l = [x0, x1, x2, x3, x4, x5, x6, x7, x8, x9, x10, x11] := by
  obtain ⟨x0, r, rfl, h2⟩ := len_s h
  obtain ⟨x1, x2, x3, x4, x5, x6, x7, x8, x9, x10, x11, rfl⟩ := len11 h2
  exact ⟨x0, x1, x2, x3, x4, x5, x6, x7, x8, x9, x10, x11, rfl⟩
end Vx
/-! # sorted(set(xs)), xs a list of numbers -/
namespace Vs
open PySem PySem.Spec PyProof.Rows L2
section
variable {prog : Program} {wo : World} {Ar : Around} {Er : Value → Shared → Prop} {st : Shared}
/-- the object that set.__new__ lays -/
abbrev bare (wo : World) : Obj := { cls := .type "set", dict := none, data := .set #[] 0 (.fresh 0 0 (!wo.params.followText "set-order")) }
theorem get_bare (h : Heap) : (h.push (bare wo)).get? h.objs.size = some (bare wo) := Heap.get?_push_size _ rfl
/-- set.__init__ of a new, empty set over a list of numbers -/
theorem init_list {lst : Addr} {arr : Array Value} {ks : List Int} (calm : Ar.handled = none) (isl : st.heap.IsList lst arr) (hin : IntsAre arr.toList ks) (few : ks.length + 1 < scanBound)
    (R : Result → Shared → Prop)
    (fin : ∀ (g : Heap) (tk c : Nat), SetR wo g st.heap.objs.size (fun j => decide (j ∈ ks)) c → c ≤ ks.length → (∀ b o, st.heap.get? b = some o → g.get? b = some o) → R (.ok (.ret .none)) { st with heap := g, toks := tk }) :
    codeAny (model prog wo) Ar (.call (.builtin "set.__init__") ⟨[.ref st.heap.objs.size, .ref lst], []⟩) R { st with heap := st.heap.push (bare wo) } := by
  have typ : Shared.TypeIs { st with heap := st.heap.push (bare wo) } (.ref st.heap.objs.size) "set" := ⟨_, get_bare _, rfl⟩
  have len : arr.size = ks.length := by
    have z := hin.length
    rwa [Array.length_toList] at z
  refine codeAny_call_builtin F.called_set.init.plain F.entry_set_init (check_set_init_1 typ ?_)
  obtain ⟨⟨k1, k2, k3, k4⟩, ho, e1, m, e2⟩ := isl
  simp only at e1 e2
  subst e1 e2
  have below : lst < st.heap.objs.size := Heap.lt_size ho
  have il : (st.heap.push (bare wo)).IsList lst arr := ⟨_, Heap.get?_push_of_some _ ho, rfl, m, rfl⟩
  have a1 := F.sub_list_set
  have a2 := F.sub_list_frozenset
  have a3 : (Value.type "list" == Value.type "dict") = false := by decide
  have a4 := Heap.get?_push_of_some (bare wo) ho
  unfold Builtin.«set.__init__» noKeywords Builtin.Frozenset.updateFrom
  generalize hw : pyIter = WK
  wp_walk
  subst hw
  refine wpAny_pyIter_list il (wpAny_bind (wpAny_runValue ?_))
  have sz : (st.heap.push (bare wo)).objs.size = st.heap.objs.size + 1 := Heap.size_push ..
  have c3 : Ar.in1.in1.handled = none := by simp [calm]
  have far : lst ≠ (st.heap.push (bare wo)).objs.size := by rw [sz]; exact Nat.ne_of_lt (Nat.lt_succ_of_lt below)
  have out : st.heap.objs.size ∉ [(st.heap.push (bare wo)).objs.size, lst] := by
    intro z
    rcases List.mem_cons.mp z with z | z
    · rw [sz] at z; exact absurd z (Nat.ne_of_lt (Nat.lt_succ_self _))
    · exact absurd (List.mem_singleton.mp z) (Nat.ne_of_gt below)
  refine set_update_ints ((Walks.list c3 _ lst far arr).toS) st.heap.objs.size out ks len few (fun i v hv => ?_) (arr.size - 0) 0 _ (by omega) (Nat.zero_le _) ?_ ?_ ?_
  · have hi : i < ks.length := by rw [← len]; exact (Array.getElem?_eq_some_iff.mp hv).1
    obtain ⟨t, e⟩ := PyProof.Rows.IntsAre.int_at hin i v (by rw [Array.getElem?_toList]; exact hv)
    refine ⟨ks[i], t, List.getElem?_eq_getElem hi, ?_⟩
    rw [e, List.getD_eq_getElem?_getD, List.getElem?_eq_getElem hi] <;> rfl
  · exact ⟨⟨_, Heap.get?_push_size _ rfl, rfl, rfl⟩, il.push _⟩
  · exact ⟨0, Nat.le_refl 0, setR_new_at (Heap.get?_push_of_some _ (get_bare _))⟩
  · rintro ⟨g, q1, q2, q3, q4⟩ c mv hc hs
    have b1 : q1 = st.gens := mv.gens
    have b2 : q2 = st.drawn := mv.drawn
    have b3 : q4 = st.os := mv.os
    subst b1 b2 b3
    refine wpAny_pure ?_
    refine wpAny_pure ?_
    rw [len] at hc
    refine fin g q3 c hs hc fun b o e => ?_
    have hb : b < st.heap.objs.size := Heap.lt_size e
    refine mv.heap b o (fun z => ?_) (Heap.get?_push_of_some _ (Heap.get?_push_of_some _ e))
    rcases List.mem_cons.mp z with z | z
    · exact absurd z (Nat.ne_of_lt hb)
    · have z := List.mem_singleton.mp z
      rw [sz] at z
      exact absurd z (Nat.ne_of_lt (Nat.lt_succ_of_lt hb))
end
end Vs
namespace Vs
open PySem PySem.Spec PyProof.Rows L2
section
variable {prog : Program} {wo : World} {Ar : Around} {Er : Value → Shared → Prop} {st : Shared}
/-- set(xs): a new set of the numbers of a list -/
theorem make_list {lst : Addr} {arr : Array Value} {ks : List Int} {Q : Value → Shared → Prop} (calm : Ar.handled = none) (isl : st.heap.IsList lst arr) (hin : IntsAre arr.toList ks) (few : ks.length + 1 < scanBound)
    (fin : ∀ (g : Heap) (tk c : Nat), SetR wo g st.heap.objs.size (fun j => decide (j ∈ ks)) c → c ≤ ks.length → (∀ b o, st.heap.get? b = some o → g.get? b = some o) → Q (.ref st.heap.objs.size) { st with heap := g, toks := tk }) :
    wpAny (model prog wo) Ar (call (.type "set") [.ref lst]) Q Er st := by
  obtain ⟨cc, tl, hmro⟩ := F.called_set.mro
  have m1 := F.called_set.made
  have m2 := F.called_set.sub
  have m3 := F.called_set.notType
  have m4 := F.called_set.canCreate
  have m5 := F.typeCall_set_1 (.ref lst)
  refine wpAny_call (codeAny_of_tree ?_)
  show wpAny _ _ (callAny (.type "set") _) _ _ _
  refine wpAny_pure ⟨Code.quiet_builtin _ (by decide +kernel), codeAny_builtin F.entry_type_call ?_⟩
  rw [Around.under_plain (weight_type_call_type "set" [.ref lst] []) rfl]
  repeat (any_goals (first | assumption | wp_step))
  refine codeAny_mono (code_set_led1 (.ref lst) (E := Er) (Q₁ := fun obj z => obj = .ref st.heap.objs.size ∧ z = { st with heap := st.heap.push (bare wo) }) ⟨rfl, rfl⟩) fun r z hr => ?_
  match r, hr with
  | .error e, hr => exact hr
  | .ok (.ret obj), hr =>
    obtain ⟨rfl, rfl⟩ := hr
    have m6 := F.called_set.init.lookup
    have m7 := F.called_set.init.bind (.ref st.heap.objs.size)
    have typ : Shared.TypeIs { st with heap := st.heap.push (bare wo) } (.ref st.heap.objs.size) "set" := ⟨_, get_bare _, rfl⟩
    repeat (any_goals (first | assumption | wp_step))
    refine codeAny_mono (init_list (R := wants (fun r z => r = .none ∧ ∃ g tk c, z = { st with heap := g, toks := tk } ∧ SetR wo g st.heap.objs.size (fun j => decide (j ∈ ks)) c ∧ c ≤ ks.length ∧ ∀ b o, st.heap.get? b = some o → g.get? b = some o) Er)
      (by simp [calm]) isl hin few fun g tk c a b k => ⟨rfl, g, tk, c, rfl, a, b, k⟩) fun r z hr => ?_
    match r, hr with
    | .error e, hr => exact hr
    | .ok (.ret v), hr =>
      obtain ⟨rfl, g, tk, c, rfl, a, b, k⟩ := hr
      repeat (any_goals (first | assumption | wp_step))
      exact fin _ _ _ a b k
end
section
variable {X : Cx}
/-- set(xs) -/
def rSetI (w : World) : List V → Hp → VK → Prop := fun xs H Q => ∃ (l : Addr) (ks : List Int), xs = [V.ref l] ∧ (∃ K, SqL K H l (ks.map V.int)) ∧ ks.length ≤ 50 ∧
  ∀ (p : Addr) (n : Nat), n ≤ ks.length → H p = none → Q (.ref p) (upd H p (SetO w p (fun j => decide (j ∈ ks)) n))
end
end Vs
namespace Vx
open PySem PySem.Spec PyProof.Rows L2
section
variable {X : Cx}
def rSetI (K : PySem.W.Frag) (w : World) : List V → Hp → VK → Prop := fun xs H Q => ∃ (l : Addr) (ks : List Int), xs = [V.ref l] ∧ SqL K H l (ks.map V.int) ∧ ks.length ≤ 50 ∧
  ∀ (p : Addr) (n : Nat), n ≤ ks.length → H p = none → Q (.ref p) (upd H p (SetO w p (fun j => decide (j ∈ ks)) n))
theorem cr_setI {K : PySem.W.Frag} {w : World} (hc : X.calm = true) (hK : X.K = K := by rfl) (hw : X.w = w := by rfl) : CallR X (.type "set") (rSetI K w) := by
  subst hK hw
  intro pins s σ H xs us Q I r h
  obtain ⟨l, ks, rfl, hl, hf, q⟩ := h
  rw [Vals.ref1 r]
  obtain ⟨its, rv, pl, hz⟩ := I.list hl
  have hb : scanBound = 4096 := rfl
  refine Vs.make_list (I.ok.hd hc) pl.isList (by simpa using ints_of_vals rv) (by omega) fun g tk c R hcn k => ?_
  exact ⟨.ref _, upd H _ (SetO X.w _ (fun j => decide (j ∈ ks)) c), I.laid (t' := tk) k (Nat.le_refl _) (setO_new R), rfl, q _ c hcn (I.hok.fresh (Nat.le_refl _))⟩
def rSortSet (w : World) : List V → Hp → VK → Prop := fun vs H Q => ∃ (a : Addr) (ks : List Int) (n : Nat), vs = [V.ref a] ∧ H a = some (SetO w a (fun j => decide (j ∈ ks)) n) ∧ n ≤ 50 ∧
  ∀ (ns : List Int) (p : Addr), ns.Pairwise (· < ·) → (∀ k : Int, k ∈ ns ↔ k ∈ ks) → H p = none → Q (.ref p) (upd H p (.lst (ns.map V.int)))
theorem cr_sortSet {w : World} (hc : X.calm = true) (hw : X.w = w := by rfl) : CallR X (.builtin "sorted") (rSortSet w) := by
  subst hw
  intro pins s σ H vs us Q I r h
  obtain ⟨a, ks, n, rfl, ha, h64, q⟩ := h
  exact cr_sortedSet hc pins s σ H _ us Q I r ⟨a, _, n, rfl, ha, by omega, fun ns p pw hm hl hn => q ns p pw (fun k => (hm k).trans decide_eq_true_iff) hn⟩
end
/-! ### numbers in order, each once -/
def insS (x : Int) : List Int → List Int
  | [] => [x]
  | y :: r => if x < y then x :: y :: r else if x = y then y :: r else y :: insS x r
def sortSet (xs : List Int) : List Int := xs.foldr insS []
theorem insS_mem {x k : Int} : ∀ {l : List Int}, k ∈ insS x l ↔ k = x ∨ k ∈ l
  | [] => by simp [insS]
  | y :: r => by
    unfold insS
    split
    · simp
    · split
      · next h => subst h; simp
      · rw [List.mem_cons, insS_mem (l := r), List.mem_cons]
        constructor <;> (intro h; rcases h with h | h | h <;> simp [h])
theorem insS_pw {x : Int} : ∀ {l : List Int}, l.Pairwise (· < ·) → (insS x l).Pairwise (· < ·)
  | [], _ => by simp [insS]
  | y :: r, h => by
    have hy := List.pairwise_cons.mp h
    unfold insS
    split
    · next c =>
      refine List.pairwise_cons.mpr ⟨fun z hz => ?_, h⟩
      rcases List.mem_cons.mp hz with rfl | hz
      · exact c
      · exact Int.lt_trans c (hy.1 z hz)
    · next c =>
      split
      · exact h
      · refine List.pairwise_cons.mpr ⟨fun z hz => ?_, insS_pw hy.2⟩
        rcases insS_mem.mp hz with rfl | hz
        · omega
        · exact hy.1 z hz
theorem sortSet_mem {k : Int} : ∀ {l : List Int}, k ∈ sortSet l ↔ k ∈ l
  | [] => Iff.rfl
  | y :: r => by
    show k ∈ insS y (sortSet r) ↔ _
    rw [insS_mem, sortSet_mem (l := r), List.mem_cons]
theorem sortSet_pw : ∀ l : List Int, (sortSet l).Pairwise (· < ·)
  | [] => List.Pairwise.nil
  | y :: r => insS_pw (sortSet_pw r)
theorem pw_uniq : ∀ {a b : List Int}, a.Pairwise (· < ·) → b.Pairwise (· < ·) → (∀ k : Int, k ∈ a ↔ k ∈ b) → a = b
  | [], [], _, _, _ => rfl
  | [], y :: r, _, _, h => absurd ((h y).mpr List.mem_cons_self) (by simp)
  | x :: r, [], _, _, h => absurd ((h x).mp List.mem_cons_self) (by simp)
  | x :: r, y :: t, p, q, h => by
    have p := List.pairwise_cons.mp p
    have q := List.pairwise_cons.mp q
    have e : x = y := by
      rcases List.mem_cons.mp ((h x).mp List.mem_cons_self) with e | e
      · exact e
      · rcases List.mem_cons.mp ((h y).mpr List.mem_cons_self) with e2 | e2
        · exact e2.symm
        · have := q.1 x e
          have := p.1 y e2
          omega
    subst e
    rw [pw_uniq p.2 q.2 fun k => ?_]
    have hk := h k
    rw [List.mem_cons, List.mem_cons] at hk
    constructor
    · intro z
      rcases hk.mp (.inr z) with e | e
      · have := p.1 k z; omega
      · exact e
    · intro z
      rcases hk.mpr (.inr z) with e | e
      · have := q.1 k z; omega
      · exact e
theorem sortSet_of {ks ns : List Int} (p : ns.Pairwise (· < ·)) (h : ∀ k : Int, k ∈ ns ↔ k ∈ ks) : ns = sortSet ks := pw_uniq p (sortSet_pw ks) fun k => (h k).trans sortSet_mem.symm
theorem gen_new2 {H H' : Hp} {p q : Addr} {o u : HO} (n : H p = none) (m : upd H p o q = none) (h : upd (upd H p o) q u = H') : Same H H' ∧ H' q = some u ∧ H q = none := by
  have hne : q ≠ p := fun z => by rw [z, upd_same] at m; cases m
  have hq : H q = none := by rwa [upd_ne hne] at m
  subst h
  refine ⟨fun b x e => ?_, upd_same, hq⟩
  rw [upd_ne (fun z => by rw [z, hq] at e; cases e), upd_ne (fun z => by rw [z, n] at e; cases e)]
  exact e
/-! ### texts in tuples and lists -/
theorem map_getF {α : Type} {f : α → V} {xs : List α} {i : Nat} {x : V} (h : (xs.map f)[i]? = some x) : ∃ o, xs[i]? = some o ∧ x = f o := by
  rw [List.getElem?_map] at h
  cases e : xs[i]? with
  | none => rw [e] at h; cases h
  | some o => rw [e] at h; exact ⟨o, rfl, (Option.some.inj h).symm⟩
theorem inV_strs (x : Str) : ∀ xs : List Str, inV (V.str x) (xs.map V.str) = decide (x ∈ xs)
  | [] => by simp [inV]
  | y :: r => by
    have h := inV_strs x r
    unfold inV at h ⊢
    rw [List.map_cons, List.any_cons, h]
    by_cases c : x = y
    · subst c
      simp [eqV]
    · simp [eqV, c, Ne.symm c]
theorem flat_strs : ∀ xs : List Str, (xs.map V.str).all flatV = true
  | [] => rfl
  | _ :: r => flat_strs r
section
variable {X : Cx} {K : PySem.W.Frag}
def rInS (K : PySem.W.Frag) : R2 := fun x y H Q => ∃ (i : Str) (p : Addr) (xs : List Str), x = .str i ∧ y = .ref p ∧ (SqL K H p (xs.map V.str) ∨ SqT K H p (xs.map V.str)) ∧ Q (.bl (decide (i ∈ xs))) H
theorem op_inS (hK : X.K = K := by rfl) : OpR X (compareOp .In) (rInS K) := by
  subst hK
  intro pins s σ H x y v u Q I rx ry h
  obtain ⟨i, p, xs, e1, e2, hs, q⟩ := h
  refine op_in_seq pins s σ H _ _ v u Q I rx ry ⟨p, _, e2, hs, by rw [e1]; rfl, flat_strs xs, ?_⟩
  rw [if_neg Bool.false_ne_true, e1, inV_strs]
  exact q
/-- a list or a tuple of numbers -/
def SeqI (K : PySem.W.Frag) (H : Hp) (v : V) (xs : List Int) : Prop := ∃ a, v = .ref a ∧ (H a = some (.lst (xs.map V.int)) ∨ H a = some (.tup (xs.map V.int)) ∨ ∀ H, SqT K H a (xs.map V.int))
def rListSI (K : PySem.W.Frag) : List V → Hp → VK → Prop := fun xs H Q => ∃ (v : V) (ks : List Int), xs = [v] ∧ SeqI K H v ks ∧ ∀ l, H l = none → Q (.ref l) (upd H l (.lst (ks.map V.int)))
theorem call_listSI (hK : X.K = K := by rfl) : CallR X (.type "list") (rListSI K) := by
  subst hK
  intro pins s σ H xs us Q I r h
  obtain ⟨v, ks, rfl, ⟨a, rfl, h2⟩, q⟩ := h
  refine call_list_of pins s σ H _ us Q I r ⟨a, _, rfl, ?_, q⟩
  rcases h2 with z | z | z
  · exact .inl (SqL.of z)
  · exact .inr (SqT.of z)
  · exact .inr (z H)
theorem SeqI.mono {H H' : Hp} {v : V} {xs : List Int} (e : Same H H') (h : SeqI K H v xs) : SeqI K H' v xs := by
  obtain ⟨a, e1, h⟩ := h
  refine ⟨a, e1, ?_⟩
  rcases h with z | z | z
  · exact .inl (e _ _ z)
  · exact .inr (.inl (e _ _ z))
  · exact .inr (.inr z)
def rTupLK (K : PySem.W.Frag) : List V → Hp → VK → Prop := fun xs H Q => ∃ (p : Addr) (ks : List Int), xs = [.ref p] ∧ SqL K H p (ks.map V.int) ∧ ∀ l, H l = none → Q (.ref l) (upd H l (.tup (ks.map V.int)))
theorem call_tupLK (hK : X.K = K := by rfl) : CallR X (.type "tuple") (rTupLK K) := by
  subst hK
  intro pins s σ H xs us Q I r h
  obtain ⟨p, ks, rfl, hs, q⟩ := h
  exact call_tuple_of pins s σ H _ us Q I r ⟨p, _, rfl, .inl ⟨hs, q⟩⟩
end
/-! ### written dicts of tuples with text keys -/
def lookG {α : Type} : List (Str × α) → Str → Option α
  | [], _ => none
  | (k, v) :: r, i => if k = i then some v else lookG r i
def dictG {α : Type} [Inhabited α] (kvs : List (Str × α)) (i : Str) : α := (lookG kvs i).getD default
def hasG {α : Type} (kvs : List (Str × α)) (i : Str) : Bool := (lookG kvs i).isSome
theorem lookG_at {α : Type} [Inhabited α] {kvs : List (Str × α)} {i : Str} (h : hasG kvs i = true) : lookG kvs i = some (dictG kvs i) := by
  unfold hasG at h
  unfold dictG
  cases e : lookG kvs i with
  | none => rw [e] at h; cases h
  | some v => rfl
inductive EA (P : Params) : List (Str × Addr) → List DictEntry → Prop
  | nil : EA P [] []
  | cons {h k a} {t : Tok} {r : List (Str × Addr)} {es : List DictEntry} (e : h = PyData.keyHash P k) (x : EA P r es) : EA P ((k, a) :: r) (⟨h, .str k t, .ref a⟩ :: es)
def KDA (K : PySem.W.Frag) (w : World) (a : Addr) (kvs : List (Str × Addr)) : Prop :=
  ∃ es n, K.lookup a = some ⟨.type "dict", none, .dict es n, #[]⟩ ∧ EA w.params kvs es.toList
theorem EA.lit {P : Params} : ∀ {kvs : List (Str × Addr)} {es : List DictEntry}, EA P kvs es → PySem.W.KeysLit P es
  | _, _, .nil => trivial
  | _, _, .cons e x => ⟨⟨_, _, rfl, e⟩, EA.lit x⟩
theorem EA.find {P : Params} {i : Str} {a : Addr} : ∀ {kvs : List (Str × Addr)} {es : List DictEntry}, EA P kvs es → lookG kvs i = some a → ∃ e, es.find? (fun e => e.key.isStr i) = some e ∧ e.val = .ref a
  | _, _, .nil, h => by cases h
  | _, _, .cons (k := k) e x, h => by
    unfold lookG at h
    by_cases q : k = i
    · rw [if_pos q] at h
      subst q
      cases h
      refine ⟨_, List.find?_cons_of_pos ?_, rfl⟩
      simp [Value.isStr]
    · rw [if_neg q] at h
      obtain ⟨e', h1, h2⟩ := EA.find x h
      refine ⟨e', ?_, h2⟩
      rw [List.find?_cons_of_neg]
      · exact h1
      · simp [Value.isStr, q]
def rIxDA (K : PySem.W.Frag) (w : World) : R2 := fun x y H Q => ∃ (p : Addr) (z : Str) (kvs : List (Str × Addr)) (a : Addr), x = .ref p ∧ y = .str z ∧ KDA K w p kvs ∧ lookG kvs z = some a ∧ Q (.ref a) H
theorem ix_DA {X : Cx} {K : PySem.W.Frag} {w : World} (hK : X.K = K := by rfl) (hw : X.w = w := by rfl) : IxR X (rIxDA K w) := by
  subst hK hw
  intro value slice pins s σ H x y v u Q I rx ry h hs
  obtain ⟨p, z, kvs, a, e1, e2, ⟨es, n, hl, xx⟩, e, q⟩ := h
  obtain ⟨en, h1, h2⟩ := xx.find e
  refine ix_kdict value slice pins s σ H x y v u Q I rx ry ⟨p, z, .ref a, e1, e2, ⟨es, n, .ref a, hl, xx.lit, ?_, rfl⟩, q⟩ hs
  unfold PySem.W.nsIn
  rw [hl]
  show (match es.toList.find? (fun e => e.key.isStr z) with
      | some e => some (some e.val)
      | none => if es.toList.any (·.refKey) then none else some none) = _
  rw [h1]
  show some (some en.val) = _
  rw [h2]
theorem F2.look {α β : Type} [Inhabited α] [Inhabited β] {P : α → β → Prop} {z : Str} : ∀ {l : List (Str × α)} {m : List (Str × β)}, F2 (fun p q => p.1 = q.1 ∧ P p.2 q.2) l m → hasG m z = true → P (dictG l z) (dictG m z)
  | _, _, .nil, h => by cases h
  | (k, a) :: l, (k2, b) :: m, .cons h r, hz => by
    obtain ⟨e, hp⟩ := h
    have e : k = k2 := e
    subst e
    unfold hasG lookG at hz
    unfold dictG lookG
    by_cases q : k = z
    · rw [if_pos q, if_pos q]; exact hp
    · rw [if_neg q] at hz
      rw [if_neg q, if_neg q]
      exact F2.look r hz
theorem F2.hasK {α β : Type} {P : α → β → Prop} {z : Str} : ∀ {l : List (Str × α)} {m : List (Str × β)}, F2 (fun p q => p.1 = q.1 ∧ P p.2 q.2) l m → hasG m z = true → hasG l z = true
  | _, _, .nil, h => by cases h
  | (k, a) :: l, (k2, b) :: m, .cons h r, hz => by
    have e : k = k2 := h.1
    subst e
    unfold hasG lookG at hz ⊢
    by_cases q : k = z
    · rw [if_pos q]; rfl
    · rw [if_neg q] at hz ⊢
      exact F2.hasK r hz
end Vx
/-! # fourth part: reckoning with functions that may refuse -/
namespace Vx
open PySem PySem.Spec PyProof.Rows L2
section
variable {α β σ ρ τ : Type}
theorem bind_ok (a : α) (f : α → Rx β) : (Rx.ok a).bind f = f a := rfl
theorem bind_er (e : Nat) (f : α → Rx β) : (Rx.er e : Rx α).bind f = .er e := rfl
theorem grd_pos {p : Prop} {dp : Decidable p} {m : Rx α} (h : p) : grd p m = m := if_pos h
theorem bnd_eq (a : α) (f : α → Rx β) : bnd a f = f a := rfl
theorem noEr_ok (a : α) : noEr (.ok a : Rx α) = .ok a := rfl
theorem tryR_ok {cs : List Nat} (a : α) (f : α → Rx β) (g : Nat → Rx β) : tryR (.ok a) cs f g = f a := rfl
theorem tryR_er {cs : List Nat} {e : Nat} (h : e ∈ cs) (f : α → Rx β) (g : Nat → Rx β) : tryR (.er e) cs f g = g e := if_pos h
theorem aft_go (s : σ) (kr : ρ → Rx τ) (k : σ → Rx τ) : (Lp.go s : Lp σ ρ).aft kr k = k s := rfl
theorem aft_rt (r : ρ) (kr : ρ → Rx τ) (k : σ → Rx τ) : (Lp.rt r : Lp σ ρ).aft kr k = kr r := rfl
/-- gives a value of which P holds -/
def Gv (m : Rx α) (P : α → Prop) : Prop := ∃ v, m = .ok v ∧ P v
theorem Gv.ok {a : α} {P : α → Prop} (h : P a) : Gv (.ok a) P := ⟨a, rfl, h⟩
theorem Gv.of_eq {m : Rx α} {a : α} {P : α → Prop} (e : m = .ok a) (h : P a) : Gv m P := ⟨a, e, h⟩
theorem Gv.bind {m : Rx α} {f : α → Rx β} {P : α → Prop} {Q : β → Prop} (h : Gv m P) (k : ∀ v, P v → Gv (f v) Q) : Gv (m.bind f) Q := by
  obtain ⟨v, rfl, p⟩ := h
  exact k v p
theorem Gv.bind_eq {m : Rx α} {f : α → Rx β} {a : α} {Q : β → Prop} (h : m = .ok a) (k : Gv (f a) Q) : Gv (m.bind f) Q := by
  subst h
  exact k
theorem Gv.grd {p : Prop} {dp : Decidable p} {m : Rx α} {Q : α → Prop} (h : p) (k : Gv m Q) : Gv (Vx.grd p m) Q := by
  rw [grd_pos h]
  exact k
theorem Gv.bnd {a : α} {f : α → Rx β} {Q : β → Prop} (k : ∀ x, x = a → Gv (f x) Q) : Gv (Vx.bnd a f) Q := k a rfl
theorem Gv.ite {p : Prop} {dp : Decidable p} {a b : Rx α} {Q : α → Prop} (h1 : p → Gv a Q) (h2 : ¬ p → Gv b Q) : Gv (if p then a else b) Q := by
  split
  · exact h1 ‹_›
  · exact h2 ‹_›
theorem Gv.pos {p : Prop} {dp : Decidable p} {a b : Rx α} {Q : α → Prop} (h : p) (k : Gv a Q) : Gv (if p then a else b) Q := by rwa [if_pos h]
theorem Gv.neg {p : Prop} {dp : Decidable p} {a b : Rx α} {Q : α → Prop} (h : ¬ p) (k : Gv b Q) : Gv (if p then a else b) Q := by rwa [if_neg h]
theorem Gv.imp {m : Rx α} {P Q : α → Prop} (h : Gv m P) (k : ∀ v, P v → Q v) : Gv m Q := by
  obtain ⟨v, e, p⟩ := h
  exact ⟨v, e, k v p⟩
theorem Gv.noEr {m : Rx α} {P : α → Prop} (h : Gv m P) : Gv (Vx.noEr m) P := by
  obtain ⟨v, rfl, p⟩ := h
  exact ⟨v, rfl, p⟩
theorem Gv.tryOk {m : Rx α} {cs : List Nat} {f : α → Rx β} {g : Nat → Rx β} {P : α → Prop} {Q : β → Prop} (h : Gv m P) (k : ∀ v, P v → Gv (f v) Q) : Gv (tryR m cs f g) Q := by
  obtain ⟨v, rfl, p⟩ := h
  exact k v p
theorem Gv.tryEr {m : Rx α} {cs : List Nat} {e : Nat} {f : α → Rx β} {g : Nat → Rx β} {Q : β → Prop} (h : m = .er e) (hm : e ∈ cs) (k : Gv (g e) Q) : Gv (tryR m cs f g) Q := by
  subst h
  rw [tryR_er hm]
  exact k
theorem Gv.get {m : Rx α} {a : α} (h : Gv m (fun v => v = a)) : m = .ok a := by
  obtain ⟨v, e, rfl⟩ := h
  exact e
theorem Gv.eq {m : Rx α} {P : α → Prop} (h : Gv m P) : ∃ v, m = .ok v ∧ P v := h
/-- a loop that keeps P -/
theorem Gv.forS {P : Nat → σ → Prop} {xs : List α} {s : σ} {f : σ → α → Rx σ} (h0 : P 0 s) (hs : ∀ i x s, xs[i]? = some x → P i s → Gv (f s x) (P (i + 1))) : Gv (Vx.forS xs s f) (P xs.length) := by
  induction xs generalizing s P with
  | nil => exact .ok h0
  | cons x r ih =>
    refine Gv.bind (hs 0 x s rfl h0) fun s' p => ?_
    exact ih (P := fun i => P (i + 1)) p fun i y s hy q => hs (i + 1) y s (by simpa using hy) q
theorem Gv.forR {P : Nat → σ → Prop} {xs : List α} {s : σ} {f : σ → α → Rx (Lp σ ρ)} (h0 : P 0 s) (hs : ∀ i x s, xs[i]? = some x → P i s → Gv (f s x) (fun l => ∃ s', l = .go s' ∧ P (i + 1) s')) : Gv (Vx.forR xs s f) (fun l => ∃ s', l = .go s' ∧ P xs.length s') := by
  induction xs generalizing s P with
  | nil => exact .ok ⟨s, rfl, h0⟩
  | cons x r ih =>
    refine Gv.bind (hs 0 x s rfl h0) ?_
    rintro _ ⟨s', rfl, p⟩
    exact ih (P := fun i => P (i + 1)) p fun i y s hy q => hs (i + 1) y s (by simpa using hy) q
/-- a loop that carries nothing -/
theorem forR_unit {xs : List α} {f : Unit → α → Rx (Lp Unit ρ)} (h : ∀ x ∈ xs, f () x = .ok (.go ())) : Vx.forR xs () f = .ok (.go ()) := by
  induction xs with
  | nil => rfl
  | cons x r ih =>
    show (f () x).bind _ = _
    rw [h x List.mem_cons_self]
    exact ih fun y hy => h y (List.mem_cons_of_mem _ hy)
theorem forS_pure {xs : List α} {s : σ} {f : σ → α → Rx σ} {g : σ → α → σ} (h : ∀ s x, x ∈ xs → f s x = .ok (g s x)) : Vx.forS xs s f = .ok (xs.foldl g s) := by
  induction xs generalizing s with
  | nil => rfl
  | cons x r ih =>
    show (f s x).bind _ = _
    rw [h s x List.mem_cons_self]
    exact ih fun s y hy => h s y (List.mem_cons_of_mem _ hy)
theorem mapA_pure {xs : List α} {acc : List β} {f : α → Rx β} {g : α → β} (h : ∀ x ∈ xs, f x = .ok (g x)) (hl : acc.length + xs.length ≤ 1000000) : mapA xs acc f = .ok (acc ++ xs.map g) := by
  induction xs generalizing acc with
  | nil => simp [mapA]
  | cons x r ih =>
    rw [List.length_cons] at hl
    unfold mapA
    rw [grd_pos (by omega), h x List.mem_cons_self, bind_ok, ih (fun y hy => h y (List.mem_cons_of_mem _ hy)) (by rw [List.length_append, List.length_cons, List.length_nil]; omega)]
    simp
theorem mapA_pure0 {xs : List α} {f : α → Rx β} {g : α → β} (h : ∀ x ∈ xs, f x = .ok (g x)) (hl : xs.length ≤ 1000000) : mapA xs [] f = .ok (xs.map g) := by
  rw [mapA_pure h (by simpa using hl)]
  rfl
theorem mapF_pure {xs : List α} {acc : List β} {f : α → Rx (Option β)} {g : α → Option β} (h : ∀ x ∈ xs, f x = .ok (g x)) (hl : acc.length + xs.length ≤ 1000000) : mapF xs acc f = .ok (acc ++ xs.filterMap g) := by
  induction xs generalizing acc with
  | nil => simp [mapF]
  | cons x r ih =>
    rw [List.length_cons] at hl
    unfold mapF
    rw [grd_pos (by omega), h x List.mem_cons_self, bind_ok]
    cases e : g x with
    | none =>
      show mapF r acc f = _
      rw [ih (fun y hy => h y (List.mem_cons_of_mem _ hy)) (by omega), List.filterMap_cons, e]
    | some z =>
      show mapF r (acc ++ [z]) f = _
      rw [ih (fun y hy => h y (List.mem_cons_of_mem _ hy)) (by rw [List.length_append, List.length_cons, List.length_nil]; omega), List.filterMap_cons, e]
      simp
/-- a while that ends: m falls -/
theorem Gv.whileR {P : σ → Prop} {R : σ → Prop} (m : σ → Nat) {f : σ → Rx (Lp σ ρ)} (hs : ∀ s, P s → Gv (f s) (fun l => (∃ s', l = .go s' ∧ P s' ∧ m s' < m s) ∨ ∃ s', l = .bk s' ∧ R s')) : ∀ {n : Nat} {s : σ}, P s → m s < n → Gv (Vx.whileR n s f) (fun l => ∃ s', l = .go s' ∧ R s') := by
  intro n
  induction n with
  | zero => intro s _ h; exact absurd h (Nat.not_lt_zero _)
  | succ n ih =>
    intro s p h
    refine Gv.bind (hs s p) ?_
    rintro _ (⟨s', rfl, p', l⟩ | ⟨s', rfl, r⟩)
    · exact ih p' (by omega)
    · exact .ok ⟨s', rfl, r⟩
end
/-- a loop that may return -/
theorem Gv.forRR {α σ ρ : Type} {P : Nat → σ → Prop} {Q : ρ → Prop} {xs : List α} {s : σ} {f : σ → α → Rx (Lp σ ρ)} (h0 : P 0 s) (hs : ∀ i x s, xs[i]? = some x → P i s → Gv (f s x) (fun l => (∃ s', l = .go s' ∧ P (i + 1) s') ∨ ∃ r, l = .rt r ∧ Q r)) : Gv (Vx.forR xs s f) (fun l => (∃ s', l = .go s' ∧ P xs.length s') ∨ ∃ r, l = .rt r ∧ Q r) := by
  induction xs generalizing s P with
  | nil => exact .ok (.inl ⟨s, rfl, h0⟩)
  | cons x r ih =>
    refine Gv.bind (hs 0 x s rfl h0) ?_
    rintro _ (⟨s', rfl, p⟩ | ⟨r, rfl, q⟩)
    · exact ih (P := fun i => P (i + 1)) p fun i y s hy q => hs (i + 1) y s (by simpa using hy) q
    · exact .ok (.inr ⟨r, rfl, q⟩)
theorem rng_mem {lo x : Int} {n : Nat} (h : x ∈ rng lo n) : lo ≤ x ∧ x < lo + n := by
  unfold rng at h
  obtain ⟨j, hj, rfl⟩ := List.mem_map.mp h
  have := List.mem_range.mp hj
  omega
theorem rng_at {lo x : Int} {n i : Nat} (h : (rng lo n)[i]? = some x) : x = lo + i ∧ i < n := by
  have hl := get_len h
  rw [rng_len] at hl
  rw [rng_get hl] at h
  exact ⟨(Option.some.inj h).symm, hl⟩
end Vx
namespace Vx
open PySem PySem.Spec PyProof.Rows L2
structure St_Format where
  width : Int
  height : Int
  depth : Int
  chroma : Int
deriving DecidableEq
structure St_Settings where
  fmt : St_Format
  slots : Int
  rows : Int
  deblock : Bool
  offset : Bool
  layers : Int
deriving DecidableEq
structure St_PictureHeader where
  number : Int
  kind : Str
  level : Int
  store : (List Int)
  refs : (List Int)
  weight : Int
  layer : Int
  shown : Bool
  edge : Int
deriving DecidableEq
structure St_SliceHeader where
  number : Int
  index : Int
  delta : Int
deriving DecidableEq
def F__law_draws_b1 (free_15 : Bool) (found_33 : (List Int)) (rest_34 : Int) (state_35 : Int) (it38 : Int) : Rx ((List Int) × Int × Int) :=
  (if free_15 = true then (if 1 < rest_34 then grd (0 < (it38 : Int)) <| grd ((found_33).length ≤ 1000000) <| bnd ((found_33) ++ [(rest_34 % it38)]) fun y49 => grd (0 < (it38 : Int) ∧ (it38 : Int) < 2 ^ 128) <| bnd ((rest_34 / it38)) fun rest_51 => .ok ((y49), (rest_51), (state_35)) else bnd ((((state_35 * 48271) + 11) % 2147483647)) fun state_52 => bnd ((((state_52 * 69621) + 7) % 2147483647)) fun state_53 => grd (0 < (it38 : Int)) <| grd ((found_33).length ≤ 1000000) <| bnd ((found_33) ++ [((state_53 / 13) % it38)]) fun y62 => .ok ((y62), (rest_34), (state_53))) else bnd ((((state_35 * 48271) + 11) % 2147483647)) fun state_63 => bnd ((((state_63 * 69621) + 7) % 2147483647)) fun state_64 => grd (0 < (it38 : Int)) <| grd ((found_33).length ≤ 1000000) <| bnd ((found_33) ++ [((state_64 / 13) % it38)]) fun y73 => .ok ((y73), (rest_34), (state_64)))

def F__law_draws_r1 (found_79 : (List Int)) (rest_80 : Int) (state_81 : Int) : Rx (List Int) :=
  .ok (found_79)

def F__law_draws (cell' : Int) (limits' : (List Int)) : Rx (List Int) :=
  bnd ((if cell' < 0 then -cell' else cell')) fun rest_10 => bnd ((rest_10 % 2147483647)) fun state_11 => bnd ((decide (cell' < 0) || decide (((10 : Int) ^ Int.toNat 18) ≤ cell'))) fun free_14 => Rx.bind (forS (limits') ((([] : (List Int))), (rest_10), (state_11)) (fun s x => F__law_draws_b1 (free_14) (s.1) (s.2.1) (s.2.2) x)) fun s => F__law_draws_r1  (s.1) (s.2.1) (s.2.2)

def F__law_between (first' : Int) (second' : Int) (low' : Int) (high' : Int) : Rx Int :=
  (if (first' : Int) = 0 then .ok (low') else (if (first' : Int) = 1 then .ok (high') else (if (first' : Int) = 2 then .ok ((if high' < (low' + 1) then high' else (low' + 1))) else grd (0 < (((high' - low') + 1) : Int)) <| .ok ((low' + (second' % ((high' - low') + 1)))))))

def F__law_numbers (cell' : Int) : Rx (List Int) :=
  Rx.bind (F__law_draws cell' ([6, 256, 6, 256, 5, 3, 4, 6, 32, 2, 2, 4])) fun v95 => grd (-((v95 : (List Int)).length : Int) ≤ 0 ∧ 0 < ((v95 : (List Int)).length : Int)) <| grd (-((v95 : (List Int)).length : Int) ≤ 1 ∧ 1 < ((v95 : (List Int)).length : Int)) <| Rx.bind (F__law_between ((itD (v95) (0))) ((itD (v95) (1))) 1 256) fun v106 => grd (-((v95 : (List Int)).length : Int) ≤ 2 ∧ 2 < ((v95 : (List Int)).length : Int)) <| grd (-((v95 : (List Int)).length : Int) ≤ 3 ∧ 3 < ((v95 : (List Int)).length : Int)) <| Rx.bind (F__law_between ((itD (v95) (2))) ((itD (v95) (3))) 1 256) fun v109 => grd (-((v95 : (List Int)).length : Int) ≤ 7 ∧ 7 < ((v95 : (List Int)).length : Int)) <| grd (-((v95 : (List Int)).length : Int) ≤ 8 ∧ 8 < ((v95 : (List Int)).length : Int)) <| Rx.bind (F__law_between ((itD (v95) (7))) ((itD (v95) (8))) 1 32) fun v112 => grd (-((v95 : (List Int)).length : Int) ≤ 4 ∧ 4 < ((v95 : (List Int)).length : Int)) <| grd (-((v95 : (List Int)).length : Int) ≤ 5 ∧ 5 < ((v95 : (List Int)).length : Int)) <| grd (-((v95 : (List Int)).length : Int) ≤ 6 ∧ 6 < ((v95 : (List Int)).length : Int)) <| grd (-((v95 : (List Int)).length : Int) ≤ 9 ∧ 9 < ((v95 : (List Int)).length : Int)) <| grd (-((v95 : (List Int)).length : Int) ≤ 10 ∧ 10 < ((v95 : (List Int)).length : Int)) <| grd (-((v95 : (List Int)).length : Int) ≤ 11 ∧ 11 < ((v95 : (List Int)).length : Int)) <| .ok ([v106, v109, (8 + (itD (v95) (4))), (itD (v95) (5)), (1 + (itD (v95) (6))), v112, (itD (v95) (9)), (itD (v95) (10)), (1 + (itD (v95) (11)))])

def F_Format___init__ (width' : Int) (height' : Int) (depth' : Int) (chroma' : Int) : Rx St_Format :=
  (if 1 ≤ width' then (if width' ≤ 256 then (if 1 ≤ height' then (if height' ≤ 256 then (if 8 ≤ depth' then (if depth' ≤ 12 then (if 0 ≤ chroma' then (if chroma' ≤ 2 then .ok (⟨width', height', depth', chroma'⟩ : St_Format) else .er 1) else .er 1) else .er 1) else .er 1) else .er 1) else .er 1) else .er 1) else .er 1)

def F__require (holds' : Bool) (text' : Str) : Rx Unit :=
  (if holds' = true then .ok (()) else .er 3)

def F_Settings___init__ (fmt' : St_Format) (slots' : Int) (rows' : Int) (deblock' : Bool) (offset' : Bool) (layers' : Int) : Rx St_Settings :=
  Rx.bind (F__require ((decide (1 ≤ slots') && decide (slots' ≤ 4))) (("there are 1 to 4 slots" : Str))) fun v164 => Rx.bind (F__require ((decide (1 ≤ rows') && decide (rows' ≤ 32))) (("a slice has 1 to 32 rows of blocks" : Str))) fun v168 => Rx.bind (F__require ((decide (1 ≤ layers') && decide (layers' ≤ 4))) (("there are 1 to 4 layers" : Str))) fun v172 => .ok (⟨fmt', slots', rows', deblock', offset', layers'⟩ : St_Settings)

def F__law_settings (n' : (List Int)) : Rx St_Settings :=
  grd (-((n' : (List Int)).length : Int) ≤ 0 ∧ 0 < ((n' : (List Int)).length : Int)) <| grd (-((n' : (List Int)).length : Int) ≤ 1 ∧ 1 < ((n' : (List Int)).length : Int)) <| grd (-((n' : (List Int)).length : Int) ≤ 2 ∧ 2 < ((n' : (List Int)).length : Int)) <| grd (-((n' : (List Int)).length : Int) ≤ 3 ∧ 3 < ((n' : (List Int)).length : Int)) <| Rx.bind (F_Format___init__ ((itD (n') (0))) ((itD (n') (1))) ((itD (n') (2))) ((itD (n') (3)))) fun v224 => grd (-((n' : (List Int)).length : Int) ≤ 4 ∧ 4 < ((n' : (List Int)).length : Int)) <| grd (-((n' : (List Int)).length : Int) ≤ 5 ∧ 5 < ((n' : (List Int)).length : Int)) <| grd (-((n' : (List Int)).length : Int) ≤ 6 ∧ 6 < ((n' : (List Int)).length : Int)) <| grd (-((n' : (List Int)).length : Int) ≤ 7 ∧ 7 < ((n' : (List Int)).length : Int)) <| grd (-((n' : (List Int)).length : Int) ≤ 8 ∧ 8 < ((n' : (List Int)).length : Int)) <| Rx.bind (F_Settings___init__ (v224) ((itD (n') (4))) ((itD (n') (5))) (decide (((itD (n') (6)) : Int) = 1)) (decide (((itD (n') (7)) : Int) = 1)) ((itD (n') (8)))) fun v246 => .ok (⟨v224, v246.slots, v246.rows, v246.deblock, v246.offset, v246.layers⟩ : St_Settings)

def F__law_picture_c1 (draws_274 : (List Int)) (it305 : Int) : Rx (Option Int) :=
  grd (-((draws_274 : (List Int)).length : Int) ≤ 5 ∧ 5 < ((draws_274 : (List Int)).length : Int)) <| grd ((0 : Int) ≤ it305) <| (if ((PySem.Builtin.bitAnd (((itD (draws_274) (5)) / 2 ^ Int.toNat (it305))) (1)) : Int) = 1 then .ok (some it305) else .ok none)

def F__law_picture_k4 (n_410 : (List Int)) (draws_411 : (List Int)) (kind_412 : Int) (store_413 : (List Int)) (refs_414 : (List Int)) (weight_415 : Int) : Rx (List PyData) :=
  grd (-((draws_411 : (List Int)).length : Int) ≤ 0 ∧ 0 < ((draws_411 : (List Int)).length : Int)) <| grd (-((draws_411 : (List Int)).length : Int) ≤ 1 ∧ 1 < ((draws_411 : (List Int)).length : Int)) <| Rx.bind (F__law_between ((itD (draws_411) (0))) ((itD (draws_411) (1))) 0 999) fun v432 => grd (-((draws_411 : (List Int)).length : Int) ≤ 3 ∧ 3 < ((draws_411 : (List Int)).length : Int)) <| grd (-((draws_411 : (List Int)).length : Int) ≤ 4 ∧ 4 < ((draws_411 : (List Int)).length : Int)) <| Rx.bind (F__law_between ((itD (draws_411) (3))) ((itD (draws_411) (4))) 0 31) fun v435 => grd (-((draws_411 : (List Int)).length : Int) ≤ 11 ∧ 11 < ((draws_411 : (List Int)).length : Int)) <| grd (-((n_410 : (List Int)).length : Int) ≤ 8 ∧ 8 < ((n_410 : (List Int)).length : Int)) <| grd (0 < ((itD (n_410) (8)) : Int)) <| grd (-((draws_411 : (List Int)).length : Int) ≤ 12 ∧ 12 < ((draws_411 : (List Int)).length : Int)) <| grd (-((n_410 : (List Int)).length : Int) ≤ 6 ∧ 6 < ((n_410 : (List Int)).length : Int)) <| grd (-((draws_411 : (List Int)).length : Int) ≤ 13 ∧ 13 < ((draws_411 : (List Int)).length : Int)) <| grd ((-(2 ^ 64) < ((itD (n_410) (6)) : Int) ∧ ((itD (n_410) (6)) : Int) < 2 ^ 64) ∨ (-(2 ^ 64) < (((itD (draws_411) (13)) - 6) : Int) ∧ (((itD (draws_411) (13)) - 6) : Int) < 2 ^ 64)) <| .ok ([(PyData.int (v432)), (PyData.int (kind_412)), (PyData.int (v435)), ((encL PyData.int) (store_413)), ((encL PyData.int) (refs_414)), (PyData.int (weight_415)), (PyData.int (((itD (draws_411) (11)) % (itD (n_410) (8))))), (PyData.int ((itD (draws_411) (12)))), (PyData.int (((itD (n_410) (6)) * ((itD (draws_411) (13)) - 6))))])

def F__law_picture_k3 (n_377 : (List Int)) (draws_378 : (List Int)) (kind_379 : Int) (store_380 : (List Int)) (refs_381 : (List Int)) : Rx (List PyData) :=
  Rx.bind (((if (kind_379 : Int) = 2 then grd (-((draws_378 : (List Int)).length : Int) ≤ 9 ∧ 9 < ((draws_378 : (List Int)).length : Int)) <| grd (-((draws_378 : (List Int)).length : Int) ≤ 10 ∧ 10 < ((draws_378 : (List Int)).length : Int)) <| Rx.bind (F__law_between ((itD (draws_378) (9))) ((itD (draws_378) (10))) 0 16) fun v422 => .ok (v422) else .ok (8)) : Rx (Int))) fun s => F__law_picture_k4 (n_377) (draws_378) (kind_379) (store_380) (refs_381) s

def F__law_picture_k2 (n_344 : (List Int)) (draws_345 : (List Int)) (kind_346 : Int) (store_347 : (List Int)) (refs_348 : (List Int)) : Rx (List PyData) :=
  Rx.bind (((if (kind_346 : Int) = 1 then grd (-((draws_345 : (List Int)).length : Int) ≤ 6 ∧ 6 < ((draws_345 : (List Int)).length : Int)) <| (if ((itD (draws_345) (6)) : Int) = 0 then .ok (cutL (refs_348) none (some (1))) else .ok (refs_348)) else .ok (refs_348)) : Rx ((List Int)))) fun s => F__law_picture_k3 (n_344) (draws_345) (kind_346) (store_347) s

def F__law_picture (cell' : Int) (n' : (List Int)) : Rx (List PyData) :=
  Rx.bind (F__law_draws cell' ([6, 1000, 3, 6, 32, 16, 2, 4, 4, 6, 17, 4, 2, 13])) fun v261 => grd (-((v261 : (List Int)).length : Int) ≤ 2 ∧ 2 < ((v261 : (List Int)).length : Int)) <| bnd ((itD (v261) (2))) fun kind_271 => grd (-((n' : (List Int)).length : Int) ≤ 4 ∧ 4 < ((n' : (List Int)).length : Int)) <| grd (-(2 ^ 62) ≤ ((itD (n') (4)) : Int) ∧ ((itD (n') (4)) : Int) < 2 ^ 62) <| Rx.bind (mapF (rng (0) (Int.toNat ((itD (n') (4))))) [] (fun x => noEr (F__law_picture_c1 (v261) x))) fun v275 => grd (-((v261 : (List Int)).length : Int) ≤ 7 ∧ 7 < ((v261 : (List Int)).length : Int)) <| grd (-((n' : (List Int)).length : Int) ≤ 4 ∧ 4 < ((n' : (List Int)).length : Int)) <| grd (0 < ((itD (n') (4)) : Int)) <| grd (-((v261 : (List Int)).length : Int) ≤ 8 ∧ 8 < ((v261 : (List Int)).length : Int)) <| grd (-((n' : (List Int)).length : Int) ≤ 4 ∧ 4 < ((n' : (List Int)).length : Int)) <| grd (0 < ((itD (n') (4)) : Int)) <| Rx.bind (((if (kind_271 : Int) = 0 then .ok (([] : (List Int))) else .ok ([((itD (v261) (7)) % (itD (n') (4))), ((itD (v261) (8)) % (itD (n') (4)))])) : Rx ((List Int)))) fun s => F__law_picture_k2 (n') (v261) (kind_271) (v275) s

def F__law_with (p' : (List PyData)) (k' : Int) (value' : PyData) : Rx (List PyData) :=
  grd ((cutL (p') none (some (k')) : (List PyData)).length + ([value'] : (List PyData)).length ≤ 1000000) <| grd (((cutL (p') none (some (k'))) ++ ([value']) : (List PyData)).length + (cutL (p') (some ((k' + 1))) none : (List PyData)).length ≤ 1000000) <| .ok (((cutL (p') none (some (k'))) ++ ([value'])) ++ (cutL (p') (some ((k' + 1))) none))

def F__law_faults_b5 (p_1502 : (List PyData)) (faults_1518 : (List (List PyData))) (it1521 : Int) : Rx ((List (List PyData))) :=
  grd (-((p_1502 : (List PyData)).length : Int) ≤ 1 ∧ 1 < ((p_1502 : (List PyData)).length : Int)) <| grd ((cI).ok ((itD (p_1502) (1))) = true) <| grd (-(([[0], [1, 2], [2]] : (List (List Int))).length : Int) ≤ ((cI).dec ((itD (p_1502) (1)))) ∧ ((cI).dec ((itD (p_1502) (1)))) < (([[0], [1, 2], [2]] : (List (List Int))).length : Int)) <| (if (it1521 : Int) ∈ ((itD ([[0], [1, 2], [2]]) (((cI).dec ((itD (p_1502) (1)))))) : List Int) then .ok (faults_1518) else grd (-(2 ^ 63) ≤ (it1521 : Int) ∧ (it1521 : Int) < 2 ^ 63 ∧ ([0]).length * Int.toNat (it1521) ≤ 1000000) <| Rx.bind (F__law_with (p_1502) 4 (((encL PyData.int) (repL ([0]) (it1521))))) fun v1610 => grd ((faults_1518).length ≤ 1000000) <| bnd ((faults_1518) ++ [v1610]) fun y1633 => .ok (y1633))

def F__law_faults_k8 (faults_1940 : (List (List PyData))) : Rx (List (List PyData)) :=
  .ok (faults_1940)

def F__law_faults_k7 (p_1805 : (List PyData)) (n_1806 : (List Int)) (far_1807 : Int) (faults_1808 : (List (List PyData))) : Rx (List (List PyData)) :=
  Rx.bind ((grd (-((p_1805 : (List PyData)).length : Int) ≤ 1 ∧ 1 < ((p_1805 : (List PyData)).length : Int)) <| grd ((cI).ok ((itD (p_1805) (1))) = true) <| (if 0 < ((cI).dec ((itD (p_1805) (1)))) then grd (-((n_1806 : (List Int)).length : Int) ≤ 4 ∧ 4 < ((n_1806 : (List Int)).length : Int)) <| Rx.bind (F__law_with (p_1805) 4 (((encL PyData.int) ([(((itD (n_1806) (4)) - 1) + far_1807), 0])))) fun v1967 => grd (-((n_1806 : (List Int)).length : Int) ≤ 4 ∧ 4 < ((n_1806 : (List Int)).length : Int)) <| Rx.bind (F__law_with (p_1805) 4 (((encL PyData.int) ([0, (itD (n_1806) (4))])))) fun v1995 => Rx.bind (F__law_with (p_1805) 4 (((encL PyData.int) ([0, (-far_1807)])))) fun v2022 => grd ((faults_1808 : (List (List PyData))).length + ([v1967, v1995, v2022] : (List (List PyData))).length ≤ 1000000) <| .ok ((faults_1808) ++ ([v1967, v1995, v2022])) else .ok (faults_1808)) : Rx ((List (List PyData))))) fun s => F__law_faults_k8  s

def F__law_faults_k6 (p_1642 : (List PyData)) (n_1643 : (List Int)) (far_1644 : Int) (faults_1645 : (List (List PyData))) : Rx (List (List PyData)) :=
  Rx.bind ((grd (-((p_1642 : (List PyData)).length : Int) ≤ 1 ∧ 1 < ((p_1642 : (List PyData)).length : Int)) <| grd ((cI).ok ((itD (p_1642) (1))) = true) <| (if (((cI).dec ((itD (p_1642) (1)))) : Int) = 2 then Rx.bind (F__law_with (p_1642) 4 (((encL PyData.int) ([(-far_1644), 0])))) fun v1834 => Rx.bind (F__law_with (p_1642) 4 (((encL PyData.int) ([0, (-far_1644)])))) fun v1861 => grd (-((n_1643 : (List Int)).length : Int) ≤ 4 ∧ 4 < ((n_1643 : (List Int)).length : Int)) <| Rx.bind (F__law_with (p_1642) 4 (((encL PyData.int) ([(itD (n_1643) (4)), 0])))) fun v1889 => grd ((faults_1645 : (List (List PyData))).length + ([v1834, v1861, v1889] : (List (List PyData))).length ≤ 1000000) <| .ok ((faults_1645) ++ ([v1834, v1861, v1889])) else .ok (faults_1645)) : Rx ((List (List PyData))))) fun s => F__law_faults_k7 (p_1642) (n_1643) (far_1644) s

def F__law_faults_r5 (p_1503 : (List PyData)) (n_1504 : (List Int)) (far_1505 : Int) (faults_1641 : (List (List PyData))) : Rx (List (List PyData)) :=
  Rx.bind ((grd (-((p_1503 : (List PyData)).length : Int) ≤ 1 ∧ 1 < ((p_1503 : (List PyData)).length : Int)) <| grd ((cI).ok ((itD (p_1503) (1))) = true) <| (if (((cI).dec ((itD (p_1503) (1)))) : Int) = 1 then grd (-((n_1504 : (List Int)).length : Int) ≤ 4 ∧ 4 < ((n_1504 : (List Int)).length : Int)) <| Rx.bind (F__law_with (p_1503) 4 (((encL PyData.int) ([(((itD (n_1504) (4)) - 1) + far_1505)])))) fun v1672 => Rx.bind (F__law_with (p_1503) 4 (((encL PyData.int) ([(-far_1505)])))) fun v1699 => Rx.bind (F__law_with (p_1503) 4 (((encL PyData.int) ([(-far_1505), 0])))) fun v1726 => grd (-((n_1504 : (List Int)).length : Int) ≤ 4 ∧ 4 < ((n_1504 : (List Int)).length : Int)) <| Rx.bind (F__law_with (p_1503) 4 (((encL PyData.int) ([(itD (n_1504) (4)), 0])))) fun v1754 => grd ((faults_1641 : (List (List PyData))).length + ([v1672, v1699, v1726, v1754] : (List (List PyData))).length ≤ 1000000) <| .ok ((faults_1641) ++ ([v1672, v1699, v1726, v1754])) else .ok (faults_1641)) : Rx ((List (List PyData))))) fun s => F__law_faults_k6 (p_1503) (n_1504) (far_1505) s

def F__law_faults_k4 (p_1426 : (List PyData)) (n_1427 : (List Int)) (far_1428 : Int) (faults_1429 : (List (List PyData))) : Rx (List (List PyData)) :=
  Rx.bind (forS (rng (0) (Int.toNat (5))) (faults_1429) (fun s x => F__law_faults_b5 (p_1426) s x)) fun s => F__law_faults_r5 (p_1426) (n_1427) (far_1428) s

def F__law_faults_k3 (p_1324 : (List PyData)) (n_1325 : (List Int)) (far_1326 : Int) (faults_1327 : (List (List PyData))) : Rx (List (List PyData)) :=
  Rx.bind ((grd (-((n_1325 : (List Int)).length : Int) ≤ 6 ∧ 6 < ((n_1325 : (List Int)).length : Int)) <| (if ((itD (n_1325) (6)) : Int) = 0 then Rx.bind (F__law_with (p_1324) 8 ((PyData.int (1)))) fun v1437 => Rx.bind (F__law_with (p_1324) 8 ((PyData.int ((-1))))) fun v1451 => grd ((faults_1327 : (List (List PyData))).length + ([v1437, v1451] : (List (List PyData))).length ≤ 1000000) <| .ok ((faults_1327) ++ ([v1437, v1451])) else .ok (faults_1327)) : Rx ((List (List PyData))))) fun s => F__law_faults_k4 (p_1324) (n_1325) (far_1326) s

def F__law_faults_k2 (p_1195 : (List PyData)) (n_1196 : (List Int)) (far_1197 : Int) (faults_1198 : (List (List PyData))) : Rx (List (List PyData)) :=
  Rx.bind ((grd (-((n_1196 : (List Int)).length : Int) ≤ 4 ∧ 4 < ((n_1196 : (List Int)).length : Int)) <| (if 2 < (itD (n_1196) (4)) then Rx.bind (F__law_with (p_1195) 3 (((encL PyData.int) ([0, 2, 1])))) fun v1348 => Rx.bind (F__law_with (p_1195) 3 (((encL PyData.int) ([0, 1, 1])))) fun v1375 => grd ((faults_1198 : (List (List PyData))).length + ([v1348, v1375] : (List (List PyData))).length ≤ 1000000) <| .ok ((faults_1198) ++ ([v1348, v1375])) else .ok (faults_1198)) : Rx ((List (List PyData))))) fun s => F__law_faults_k3 (p_1195) (n_1196) (far_1197) s

def F__law_faults_k1 (p_1091 : (List PyData)) (n_1092 : (List Int)) (far_1093 : Int) (faults_1094 : (List (List PyData))) : Rx (List (List PyData)) :=
  Rx.bind ((grd (-((n_1092 : (List Int)).length : Int) ≤ 4 ∧ 4 < ((n_1092 : (List Int)).length : Int)) <| (if ((itD (n_1092) (4)) : Int) = 4 then Rx.bind (F__law_with (p_1091) 3 (((encL PyData.int) ([0, 1, 3, 2])))) fun v1219 => Rx.bind (F__law_with (p_1091) 3 (((encL PyData.int) ([0, 2, 1, 3])))) fun v1246 => Rx.bind (F__law_with (p_1091) 3 (((encL PyData.int) ([1, 3, 0])))) fun v1273 => grd ((faults_1094 : (List (List PyData))).length + ([v1219, v1246, v1273] : (List (List PyData))).length ≤ 1000000) <| .ok ((faults_1094) ++ ([v1219, v1246, v1273])) else .ok (faults_1094)) : Rx ((List (List PyData))))) fun s => F__law_faults_k2 (p_1091) (n_1092) (far_1093) s

def F__law_faults (p' : (List PyData)) (n' : (List Int)) (far' : Int) : Rx (List (List PyData)) :=
  Rx.bind (F__law_with (p') 0 ((PyData.int ((999 + far'))))) fun v556 => Rx.bind (F__law_with (p') 0 ((PyData.int ((-far'))))) fun v570 => Rx.bind (F__law_with (p') 2 ((PyData.int ((31 + far'))))) fun v584 => Rx.bind (F__law_with (p') 2 ((PyData.int ((-far'))))) fun v598 => grd (-((n' : (List Int)).length : Int) ≤ 4 ∧ 4 < ((n' : (List Int)).length : Int)) <| Rx.bind (F__law_with (p') 3 (((encL PyData.int) ([(((itD (n') (4)) - 1) + far')])))) fun v636 => Rx.bind (F__law_with (p') 3 (((encL PyData.int) ([(-far')])))) fun v663 => Rx.bind (F__law_with (p') 3 (((encL PyData.int) ([0, 0])))) fun v690 => grd (([v556, v570, v584, v598] : (List (List PyData))).length + ([v636, v663, v690] : (List (List PyData))).length ≤ 1000000) <| grd (-((p' : (List PyData)).length : Int) ≤ 3 ∧ 3 < ((p' : (List PyData)).length : Int)) <| grd (((cL cI)).ok ((itD (p') (3))) = true) <| grd (-((n' : (List Int)).length : Int) ≤ 4 ∧ 4 < ((n' : (List Int)).length : Int)) <| grd (((((cL cI)).dec ((itD (p') (3))))).length + ([(itD (n') (4))]).length ≤ 1000000) <| Rx.bind (F__law_with (p') 3 (((encL PyData.int) (((((cL cI)).dec ((itD (p') (3))))) ++ ([(itD (n') (4))]))))) fun v766 => grd (-((n' : (List Int)).length : Int) ≤ 8 ∧ 8 < ((n' : (List Int)).length : Int)) <| Rx.bind (F__law_with (p') 6 ((PyData.int ((((itD (n') (8)) - 1) + far'))))) fun v781 => Rx.bind (F__law_with (p') 6 ((PyData.int ((-far'))))) fun v795 => grd ((([v556, v570, v584, v598]) ++ ([v636, v663, v690]) : (List (List PyData))).length + ([v766, v781, v795] : (List (List PyData))).length ≤ 1000000) <| grd (-((p' : (List PyData)).length : Int) ≤ 1 ∧ 1 < ((p' : (List PyData)).length : Int)) <| grd ((cI).ok ((itD (p') (1))) = true) <| grd (-(([[0], ([] : (List Int)), [0]] : (List (List Int))).length : Int) ≤ ((cI).dec ((itD (p') (1)))) ∧ ((cI).dec ((itD (p') (1)))) < (([[0], ([] : (List Int)), [0]] : (List (List Int))).length : Int)) <| Rx.bind (F__law_with (p') 4 (((encL PyData.int) ((itD ([[0], ([] : (List Int)), [0]]) (((cI).dec ((itD (p') (1)))))))))) fun v902 => Rx.bind (F__law_with (p') 4 (((encL PyData.int) ([0, 0, 0])))) fun v929 => Rx.bind (F__law_with (p') 8 ((PyData.int ((6 + far'))))) fun v943 => grd (((([v556, v570, v584, v598]) ++ ([v636, v663, v690])) ++ ([v766, v781, v795]) : (List (List PyData))).length + ([v902, v929, v943] : (List (List PyData))).length ≤ 1000000) <| Rx.bind (F__law_with (p') 8 ((PyData.int (((-6) - far'))))) fun v987 => grd (-((p' : (List PyData)).length : Int) ≤ 1 ∧ 1 < ((p' : (List PyData)).length : Int)) <| grd ((cI).ok ((itD (p') (1))) = true) <| grd (-(([7, 9, 17] : (List Int)).length : Int) ≤ ((cI).dec ((itD (p') (1)))) ∧ ((cI).dec ((itD (p') (1)))) < (([7, 9, 17] : (List Int)).length : Int)) <| Rx.bind (F__law_with (p') 5 ((PyData.int ((itD ([7, 9, 17]) (((cI).dec ((itD (p') (1)))))))))) fun v1017 => grd (-((p' : (List PyData)).length : Int) ≤ 1 ∧ 1 < ((p' : (List PyData)).length : Int)) <| grd ((cI).ok ((itD (p') (1))) = true) <| grd (-(([(8 + far'), (8 - far'), (-far')] : (List Int)).length : Int) ≤ ((cI).dec ((itD (p') (1)))) ∧ ((cI).dec ((itD (p') (1)))) < (([(8 + far'), (8 - far'), (-far')] : (List Int)).length : Int)) <| Rx.bind (F__law_with (p') 5 ((PyData.int ((itD ([(8 + far'), (8 - far'), (-far')]) (((cI).dec ((itD (p') (1)))))))))) fun v1047 => grd ((((([v556, v570, v584, v598]) ++ ([v636, v663, v690])) ++ ([v766, v781, v795])) ++ ([v902, v929, v943]) : (List (List PyData))).length + ([v987, v1017, v1047] : (List (List PyData))).length ≤ 1000000) <| Rx.bind ((grd (-((n' : (List Int)).length : Int) ≤ 4 ∧ 4 < ((n' : (List Int)).length : Int)) <| (if 1 < (itD (n') (4)) then Rx.bind (F__law_with (p') 3 (((encL PyData.int) ([1, 0])))) fun v1115 => grd (-((n' : (List Int)).length : Int) ≤ 4 ∧ 4 < ((n' : (List Int)).length : Int)) <| grd (-((n' : (List Int)).length : Int) ≤ 4 ∧ 4 < ((n' : (List Int)).length : Int)) <| Rx.bind (F__law_with (p') 3 (((encL PyData.int) ([0, ((itD (n') (4)) - 1), ((itD (n') (4)) - 1)])))) fun v1144 => grd (((((([v556, v570, v584, v598]) ++ ([v636, v663, v690])) ++ ([v766, v781, v795])) ++ ([v902, v929, v943])) ++ ([v987, v1017, v1047]) : (List (List PyData))).length + ([v1115, v1144] : (List (List PyData))).length ≤ 1000000) <| .ok (((((([v556, v570, v584, v598]) ++ ([v636, v663, v690])) ++ ([v766, v781, v795])) ++ ([v902, v929, v943])) ++ ([v987, v1017, v1047])) ++ ([v1115, v1144])) else .ok ((((([v556, v570, v584, v598]) ++ ([v636, v663, v690])) ++ ([v766, v781, v795])) ++ ([v902, v929, v943])) ++ ([v987, v1017, v1047]))) : Rx ((List (List PyData))))) fun s => F__law_faults_k1 (p') (n') (far') s

def F__law_cell (script' : (List Int)) (k' : Int) : Rx Int :=
  (if k' < (((script') : (List Int)).length : Int) then grd (-((script' : (List Int)).length : Int) ≤ k' ∧ k' < ((script' : (List Int)).length : Int)) <| .ok ((itD (script') (k'))) else .ok (0))

def F_Format_blocks (self' : St_Format) : Rx (Int × Int) :=
  .ok (((((self'.width + 8) - 1) / 8), (((self'.height + 8) - 1) / 8)))

def F_Settings_slices (self' : St_Settings) : Rx Int :=
  Rx.bind (F_Format_blocks (self'.fmt)) fun v2091 => grd (0 < (self'.rows : Int) ∧ (self'.rows : Int) < 2 ^ 128) <| .ok ((((v2091.2 + self'.rows) - 1) / self'.rows))

def F__law_settings_refused (n' : (List Int)) (slots' : Int) (rows' : Int) (layers' : Int) : Rx Bool :=
  grd (-((n' : (List Int)).length : Int) ≤ 0 ∧ 0 < ((n' : (List Int)).length : Int)) <| grd (-((n' : (List Int)).length : Int) ≤ 1 ∧ 1 < ((n' : (List Int)).length : Int)) <| grd (-((n' : (List Int)).length : Int) ≤ 2 ∧ 2 < ((n' : (List Int)).length : Int)) <| grd (-((n' : (List Int)).length : Int) ≤ 3 ∧ 3 < ((n' : (List Int)).length : Int)) <| Rx.bind (F_Format___init__ ((itD (n') (0))) ((itD (n') (1))) ((itD (n') (2))) ((itD (n') (3)))) fun v2123 => tryR (F_Settings___init__ (v2123) slots' rows' false false layers') [3] (fun v2140 => .ok (false)) (fun _ => .ok (true))

def F__check_numbers_k7 (settings_2215 : St_Settings) (header_2216 : St_PictureHeader) : Rx Unit :=
  (if decide ((header_2216.edge : Int) = 0) = true then Rx.bind (F__require true (("there is no edge without the filter" : Str))) fun v2227 => .ok (()) else Rx.bind (F__require settings_2215.deblock (("there is no edge without the filter" : Str))) fun v2228 => .ok (()))

def F__check_numbers_k6 (settings_2204 : St_Settings) (header_2205 : St_PictureHeader) : Rx Unit :=
  Rx.bind (((if (-6) ≤ header_2205.edge then Rx.bind (F__require (decide (header_2205.edge ≤ 6)) (("the edge is from -6 to 6" : Str))) fun v2220 => .ok () else Rx.bind (F__require false (("the edge is from -6 to 6" : Str))) fun v2221 => .ok ()) : Rx Unit)) fun s => F__check_numbers_k7 (settings_2204) (header_2205) 

def F__check_numbers_k5 (settings_2193 : St_Settings) (header_2194 : St_PictureHeader) : Rx Unit :=
  Rx.bind (((if 0 ≤ header_2194.layer then Rx.bind (F__require (decide (header_2194.layer < settings_2193.layers)) (("the layer is below the number of layers" : Str))) fun v2209 => .ok () else Rx.bind (F__require false (("the layer is below the number of layers" : Str))) fun v2210 => .ok ()) : Rx Unit)) fun s => F__check_numbers_k6 (settings_2193) (header_2194) 

def F__check_numbers_k4 (settings_2182 : St_Settings) (header_2183 : St_PictureHeader) : Rx Unit :=
  Rx.bind (((if decide ((header_2183.weight : Int) = 8) = true then Rx.bind (F__require true (("only B pictures have a weight" : Str))) fun v2198 => .ok () else Rx.bind (F__require (decide (V.str (header_2183.kind) = V.str (("B" : Str)))) (("only B pictures have a weight" : Str))) fun v2199 => .ok ()) : Rx Unit)) fun s => F__check_numbers_k5 (settings_2182) (header_2183) 

def F__check_numbers_k3 (settings_2171 : St_Settings) (header_2172 : St_PictureHeader) : Rx Unit :=
  Rx.bind (((if 0 ≤ header_2172.weight then Rx.bind (F__require (decide (header_2172.weight ≤ 16)) (("the weight is from 0 to 16" : Str))) fun v2187 => .ok () else Rx.bind (F__require false (("the weight is from 0 to 16" : Str))) fun v2188 => .ok ()) : Rx Unit)) fun s => F__check_numbers_k4 (settings_2171) (header_2172) 

def F__check_numbers_k2 (settings_2162 : St_Settings) (header_2163 : St_PictureHeader) : Rx Unit :=
  Rx.bind (((if 0 ≤ header_2163.level then Rx.bind (F__require (decide (header_2163.level ≤ 31)) (("the level is from 0 to 31" : Str))) fun v2176 => .ok () else Rx.bind (F__require false (("the level is from 0 to 31" : Str))) fun v2177 => .ok ()) : Rx Unit)) fun s => F__check_numbers_k3 (settings_2162) (header_2163) 

def F__check_numbers_k1 (settings_2151 : St_Settings) (header_2152 : St_PictureHeader) : Rx Unit :=
  Rx.bind ((Rx.bind (F__require (decide ((header_2152.kind : Str) ∈ ([("I" : Str), ("P" : Str), ("B" : Str)] : List Str))) (("the kind of a picture is I, P or B" : Str))) fun v2166 => .ok () : Rx Unit)) fun s => F__check_numbers_k2 (settings_2151) (header_2152) 

def F__check_numbers (settings' : St_Settings) (header' : St_PictureHeader) : Rx Unit :=
  Rx.bind (((if 0 ≤ header'.number then Rx.bind (F__require (decide (header'.number ≤ 999)) (("the number of a picture is from 0 to 999" : Str))) fun v2156 => .ok () else Rx.bind (F__require false (("the number of a picture is from 0 to 999" : Str))) fun v2157 => .ok ()) : Rx Unit)) fun s => F__check_numbers_k1 (settings') (header') 

def F__check_slots_b1 (settings_2239 : St_Settings) (it2257 : Int) : Rx Unit :=
  Rx.bind (F__require ((decide (0 ≤ it2257) && decide (it2257 < settings_2239.slots))) (("there is no such slot" : Str))) fun v2261 => .ok ()

def F__check_slots_r1 (header_2240 : St_PictureHeader) : Rx Unit :=
  grd ((header_2240.store : List Int).length ≤ 50) <| Rx.bind (F__require (decide ((header_2240.store : (List Int)) = (sortSet (header_2240.store)))) (("the slots of store ascend without duplicates" : Str))) fun v2285 => grd (hasG ([("I", [0]), ("P", [1, 2]), ("B", [2])] : List (Str × List Int)) (header_2240.kind) = true) <| Rx.bind (F__require (decide (((((header_2240.refs) : (List Int)).length : Int) : Int) ∈ ((dictG ([("I", [0]), ("P", [1, 2]), ("B", [2])] : List (Str × List Int)) (header_2240.kind)) : List Int))) (("the number of refs does not belong to the kind" : Str))) fun v2287 => .ok (())

def F__check_slots (settings' : St_Settings) (header' : St_PictureHeader) : Rx Unit :=
  grd ((header'.store).length + (header'.refs).length ≤ 1000000) <| Rx.bind (forS ((header'.store) ++ (header'.refs)) () (fun s x => F__check_slots_b1 (settings')  x)) fun s => F__check_slots_r1 (header') 

def F_PictureHeader___init__ (settings' : St_Settings) (number' : Int) (kind' : Str) (level' : Int) (store' : (List Int)) (refs' : (List Int)) (weight' : Int) (layer' : Int) (shown' : Bool) (edge' : Int) : Rx St_PictureHeader :=
  Rx.bind (F__check_numbers (settings') ((⟨number', kind', level', store', refs', weight', layer', shown', edge'⟩ : St_PictureHeader))) fun v2364 => Rx.bind (F__check_slots (settings') ((⟨number', kind', level', store', refs', weight', layer', shown', edge'⟩ : St_PictureHeader))) fun v2371 => .ok (⟨number', kind', level', store', refs', weight', layer', shown', edge'⟩ : St_PictureHeader)

def F__law_header (settings' : St_Settings) (p' : (List PyData)) : Rx St_PictureHeader :=
  grd (-((p' : (List PyData)).length : Int) ≤ 1 ∧ 1 < ((p' : (List PyData)).length : Int)) <| grd ((cI).ok ((itD (p') (1))) = true) <| grd (-(([("I" : Str), ("P" : Str), ("B" : Str)] : (List Str)).length : Int) ≤ ((cI).dec ((itD (p') (1)))) ∧ ((cI).dec ((itD (p') (1)))) < (([("I" : Str), ("P" : Str), ("B" : Str)] : (List Str)).length : Int)) <| grd (-((p' : (List PyData)).length : Int) ≤ 0 ∧ 0 < ((p' : (List PyData)).length : Int)) <| grd ((cI).ok ((itD (p') (0))) = true) <| grd (-((p' : (List PyData)).length : Int) ≤ 2 ∧ 2 < ((p' : (List PyData)).length : Int)) <| grd ((cI).ok ((itD (p') (2))) = true) <| grd (-((p' : (List PyData)).length : Int) ≤ 3 ∧ 3 < ((p' : (List PyData)).length : Int)) <| grd (((cL cI)).ok ((itD (p') (3))) = true) <| grd (-((p' : (List PyData)).length : Int) ≤ 4 ∧ 4 < ((p' : (List PyData)).length : Int)) <| grd (((cL cI)).ok ((itD (p') (4))) = true) <| grd (-((p' : (List PyData)).length : Int) ≤ 5 ∧ 5 < ((p' : (List PyData)).length : Int)) <| grd ((cI).ok ((itD (p') (5))) = true) <| grd (-((p' : (List PyData)).length : Int) ≤ 6 ∧ 6 < ((p' : (List PyData)).length : Int)) <| grd ((cI).ok ((itD (p') (6))) = true) <| grd (-((p' : (List PyData)).length : Int) ≤ 7 ∧ 7 < ((p' : (List PyData)).length : Int)) <| grd ((cI).ok ((itD (p') (7))) = true) <| grd (-((p' : (List PyData)).length : Int) ≤ 8 ∧ 8 < ((p' : (List PyData)).length : Int)) <| grd ((cI).ok ((itD (p') (8))) = true) <| Rx.bind (F_PictureHeader___init__ (settings') (((cI).dec ((itD (p') (0))))) ((itD ([("I" : Str), ("P" : Str), ("B" : Str)]) (((cI).dec ((itD (p') (1))))))) (((cI).dec ((itD (p') (2))))) ((((cL cI)).dec ((itD (p') (3))))) ((((cL cI)).dec ((itD (p') (4))))) (((cI).dec ((itD (p') (5))))) (((cI).dec ((itD (p') (6))))) (decide ((((cI).dec ((itD (p') (7)))) : Int) = 1)) (((cI).dec ((itD (p') (8)))))) fun v2482 => .ok (⟨v2482.number, v2482.kind, v2482.level, v2482.store, v2482.refs, v2482.weight, v2482.layer, v2482.shown, v2482.edge⟩ : St_PictureHeader)

def F__law_picture_refused (settings' : St_Settings) (p' : (List PyData)) (name' : Str) : Rx Bool :=
  grd (-((p' : (List PyData)).length : Int) ≤ 0 ∧ 0 < ((p' : (List PyData)).length : Int)) <| grd ((cI).ok ((itD (p') (0))) = true) <| grd (-((p' : (List PyData)).length : Int) ≤ 2 ∧ 2 < ((p' : (List PyData)).length : Int)) <| grd ((cI).ok ((itD (p') (2))) = true) <| grd (-((p' : (List PyData)).length : Int) ≤ 3 ∧ 3 < ((p' : (List PyData)).length : Int)) <| grd (((cL cI)).ok ((itD (p') (3))) = true) <| grd (-((p' : (List PyData)).length : Int) ≤ 4 ∧ 4 < ((p' : (List PyData)).length : Int)) <| grd (((cL cI)).ok ((itD (p') (4))) = true) <| grd (-((p' : (List PyData)).length : Int) ≤ 5 ∧ 5 < ((p' : (List PyData)).length : Int)) <| grd ((cI).ok ((itD (p') (5))) = true) <| grd (-((p' : (List PyData)).length : Int) ≤ 6 ∧ 6 < ((p' : (List PyData)).length : Int)) <| grd ((cI).ok ((itD (p') (6))) = true) <| grd (-((p' : (List PyData)).length : Int) ≤ 7 ∧ 7 < ((p' : (List PyData)).length : Int)) <| grd ((cI).ok ((itD (p') (7))) = true) <| grd (-((p' : (List PyData)).length : Int) ≤ 8 ∧ 8 < ((p' : (List PyData)).length : Int)) <| grd ((cI).ok ((itD (p') (8))) = true) <| tryR (F_PictureHeader___init__ (settings') (((cI).dec ((itD (p') (0))))) name' (((cI).dec ((itD (p') (2))))) ((((cL cI)).dec ((itD (p') (3))))) ((((cL cI)).dec ((itD (p') (4))))) (((cI).dec ((itD (p') (5))))) (((cI).dec ((itD (p') (6))))) (decide ((((cI).dec ((itD (p') (7)))) : Int) = 1)) (((cI).dec ((itD (p') (8)))))) [3] (fun v2563 => .ok (false)) (fun _ => .ok (true))

def F_SliceHeader___init___k1 (number_2587 : Int) (index_2588 : Int) (delta_2589 : Int) : Rx St_SliceHeader :=
  Rx.bind (F__require ((decide ((-31) ≤ delta_2589) && decide (delta_2589 ≤ 31))) (("delta is from -31 to 31" : Str))) fun v2608 => .ok (⟨number_2587, index_2588, delta_2589⟩ : St_SliceHeader)

def F_SliceHeader___init__ (settings' : St_Settings) (number' : Int) (index' : Int) (delta' : Int) : Rx St_SliceHeader :=
  Rx.bind (F__require ((decide (0 ≤ number') && decide (number' ≤ 999))) (("the number of a picture is from 0 to 999" : Str))) fun v2586 => Rx.bind (((if 0 ≤ index' then Rx.bind (F_Settings_slices (settings')) fun v2593 => Rx.bind (F__require (decide (index' < v2593)) (("there is no such slice" : Str))) fun v2597 => .ok () else Rx.bind (F__require false (("there is no such slice" : Str))) fun v2599 => .ok ()) : Rx Unit)) fun s => F_SliceHeader___init___k1 (number') (index') (delta') 

def F__law_slice_refused (settings' : St_Settings) (number' : Int) (index' : Int) (delta' : Int) : Rx Bool :=
  tryR (F_SliceHeader___init__ (settings') number' index' delta') [3] (fun v2638 => .ok (false)) (fun _ => .ok (true))

def F_law_b1 (n_2786 : (List Int)) (it2818 : (Int × Int × Int)) : Rx (Lp Unit Bool) :=
  Rx.bind (F__law_settings_refused (n_2786) it2818.1 it2818.2.1 it2818.2.2) fun v2819 => (if v2819 = true then .ok (.go ()) else .ok (.rt (false)))

def F_law_b2 (settings_2915 : St_Settings) (name_2916 : Str) (it2948 : (List PyData)) : Rx (Lp Unit Bool) :=
  Rx.bind (F__law_picture_refused (settings_2915) (it2948) name_2916) fun v2949 => (if v2949 = true then .ok (.go ()) else .ok (.rt (false)))

def F_law_b3 (settings_2973 : St_Settings) (p_2974 : (List PyData)) (it3003 : Str) : Rx (Lp Unit Bool) :=
  Rx.bind (F__law_picture_refused (settings_2973) (p_2974) it3003) fun v3004 => (if v3004 = true then .ok (.go ()) else .ok (.rt (false)))

def F_law_b4 (settings_3107 : St_Settings) (it3145 : (Int × Int × Int)) : Rx (Lp Unit Bool) :=
  Rx.bind (F__law_slice_refused (settings_3107) it3145.1 it3145.2.1 it3145.2.2) fun v3146 => (if v3146 = true then .ok (.go ()) else .ok (.rt (false)))

def F_law_r4 (settings_3108 : St_Settings) (p_3109 : (List PyData)) (count_3110 : Int) : Rx Bool :=
  grd (-((p_3109 : (List PyData)).length : Int) ≤ 0 ∧ 0 < ((p_3109 : (List PyData)).length : Int)) <| grd ((cI).ok ((itD (p_3109) (0))) = true) <| Rx.bind (F_SliceHeader___init__ (settings_3108) (((cI).dec ((itD (p_3109) (0))))) ((count_3110 - 1)) ((-31))) fun v3182 => .ok (decide ((v3182.delta : Int) = (-31)))

def F_law_r3 (far_2975 : Int) (settings_2976 : St_Settings) (p_2977 : (List PyData)) : Rx Bool :=
  Rx.bind (F_Settings_slices (settings_2976)) fun v3021 => Rx.bind (forR ([((999 + far_2975), 0, 0), ((-far_2975), 0, 0), (0, ((v3021 - 1) + far_2975), 0), (0, (-far_2975), 0), (0, 0, (31 + far_2975)), (0, 0, ((-31) - far_2975))]) () (fun s x => F_law_b4 (settings_2976)  x)) fun l => l.aft Rx.ok fun s => F_law_r4 (settings_2976) (p_2977) (v3021) 

def F_law_r2 (far_2917 : Int) (settings_2918 : St_Settings) (p_2919 : (List PyData)) : Rx Bool :=
  Rx.bind (forR ([("" : Str), ("i" : Str), ("IP" : Str), ("X" : Str), ("p" : Str), ("b" : Str), ("0" : Str)]) () (fun s x => F_law_b3 (settings_2918) (p_2919)  x)) fun l => l.aft Rx.ok fun s => F_law_r3 (far_2917) (settings_2918) (p_2919) 

def F_law_r1 (script_2787 : (List Int)) (n_2788 : (List Int)) (far_2789 : Int) : Rx Bool :=
  Rx.bind (F__law_settings (n_2788)) fun v2832 => Rx.bind (F__law_cell (script_2787) 1) fun v2847 => Rx.bind (F__law_picture v2847 (n_2788)) fun v2849 => grd (-((v2849 : (List PyData)).length : Int) ≤ 1 ∧ 1 < ((v2849 : (List PyData)).length : Int)) <| grd ((cI).ok ((itD (v2849) (1))) = true) <| grd (-(([("I" : Str), ("P" : Str), ("B" : Str)] : (List Str)).length : Int) ≤ ((cI).dec ((itD (v2849) (1)))) ∧ ((cI).dec ((itD (v2849) (1)))) < (([("I" : Str), ("P" : Str), ("B" : Str)] : (List Str)).length : Int)) <| Rx.bind (F__law_header (v2832) (v2849)) fun v2881 => (if V.str (v2881.kind) = V.str ((itD ([("I" : Str), ("P" : Str), ("B" : Str)]) (((cI).dec ((itD (v2849) (1))))))) then Rx.bind (F__law_faults (v2849) (n_2788) far_2789) fun v2901 => Rx.bind (forR (v2901) () (fun s x => F_law_b2 (v2832) ((itD ([("I" : Str), ("P" : Str), ("B" : Str)]) (((cI).dec ((itD (v2849) (1)))))))  x)) fun l => l.aft Rx.ok fun s => F_law_r2 (far_2789) (v2832) (v2849)  else .ok (false))

def F_law (script' : (List Int)) : Rx Bool :=
  Rx.bind (F__law_cell (script') 0) fun v2649 => Rx.bind (F__law_numbers v2649) fun v2650 => Rx.bind (F__law_cell (script') 2) fun v2659 => Rx.bind (F__law_draws v2659 ([1000])) fun v2669 => grd (-((v2669 : (List Int)).length : Int) ≤ 0 ∧ 0 < ((v2669 : (List Int)).length : Int)) <| bnd ((1 + (itD (v2669) (0)))) fun far_2679 => Rx.bind (forR ([(0, 1, 1), (1, 0, 1), (1, 1, 0), ((4 + far_2679), 1, 1), (1, (32 + far_2679), 1), (1, 1, (4 + far_2679)), ((-far_2679), 2, 2), (2, (-far_2679), 2)]) () (fun s x => F_law_b1 (v2650)  x)) fun l => l.aft Rx.ok fun s => F_law_r1 (script') (v2650) (far_2679) 
theorem cell_gv (s : List Int) (k : Int) (h : 0 ≤ k) : Gv (F__law_cell s k) (fun _ => True) := by
  unfold F__law_cell
  exact Gv.ite (fun c => Gv.grd ⟨by omega, c⟩ (.ok trivial)) fun _ => .ok trivial
def Inb : List Int → List Int → Prop
  | [], [] => True
  | v :: vs, l :: ls => 0 ≤ v ∧ v < l ∧ Inb vs ls
  | _, _ => False
theorem Inb.snoc : ∀ {vs ls : List Int} {y l : Int}, Inb vs ls → 0 ≤ y → y < l → Inb (vs ++ [y]) (ls ++ [l])
  | [], [], _, _, _, h0, h1 => ⟨h0, h1, trivial⟩
  | _ :: _, _ :: _, _, _, h, h0, h1 => ⟨h.1, h.2.1, Inb.snoc h.2.2 h0 h1⟩
  | [], _ :: _, _, _, h, _, _ => h.elim
  | _ :: _, [], _, _, h, _, _ => h.elim
theorem Inb.len : ∀ {vs ls : List Int}, Inb vs ls → vs.length = ls.length
  | [], [], _ => rfl
  | _ :: _, _ :: _, h => congrArg Nat.succ (Inb.len h.2.2)
  | [], _ :: _, h => h.elim
  | _ :: _, [], h => h.elim
theorem Inb.cons {v ls : List Int} {l : Int} (h : Inb v (l :: ls)) : ∃ a r, v = a :: r ∧ 0 ≤ a ∧ a < l ∧ Inb r ls := by
  cases v with
  | nil => exact h.elim
  | cons a r => exact ⟨a, r, rfl, h.1, h.2.1, h.2.2⟩
theorem Inb.nil {v : List Int} (h : Inb v []) : v = [] := by
  cases v with
  | nil => rfl
  | cons a r => exact h.elim
theorem draws_gv (cell : Int) (limits : List Int) (hl : ∀ l ∈ limits, 0 < l ∧ l < 18446744073709551616) (hn : limits.length ≤ 1000000) : Gv (F__law_draws cell limits) (fun v => Inb v limits) := by
  unfold F__law_draws
  refine Gv.bnd fun rest _ => Gv.bnd fun state _ => Gv.bnd fun free _ => Gv.bind (Gv.forS (P := fun i s => Inb s.1 (limits.take i)) ?_ fun i x s hx p => ?_) fun s p => .ok ?_
  · rw [List.take_zero]
    trivial
  · have hb0 := hl x (List.mem_of_getElem? hx)
    have hb : 0 < x ∧ x < 2 ^ 128 := ⟨hb0.1, by omega⟩
    have hlen := p.len
    have hi := get_len hx
    rw [List.length_take] at hlen
    have nx : ∀ y : Int, 0 ≤ y → y < x → Inb (s.1 ++ [y]) (limits.take (i + 1)) := fun y h0 h1 => by
      rw [take_succ_get hx]
      exact p.snoc h0 h1
    unfold F__law_draws_b1
    refine Gv.ite (fun _ => Gv.ite (fun _ => Gv.grd hb.1 (Gv.grd (by omega) (Gv.bnd fun y hy => Gv.grd ⟨hb.1, hb.2⟩ (Gv.bnd fun _ _ => .ok ?_)))) fun _ => Gv.bnd fun _ _ => Gv.bnd fun _ _ => Gv.grd hb.1 (Gv.grd (by omega) (Gv.bnd fun y hy => .ok ?_))) fun _ => Gv.bnd fun _ _ => Gv.bnd fun _ _ => Gv.grd hb.1 (Gv.grd (by omega) (Gv.bnd fun y hy => .ok ?_))
    · subst hy
      exact nx _ (Int.emod_nonneg _ (by omega)) (Int.emod_lt_of_pos _ hb.1)
    · subst hy
      exact nx _ (Int.emod_nonneg _ (by omega)) (Int.emod_lt_of_pos _ hb.1)
    · subst hy
      exact nx _ (Int.emod_nonneg _ (by omega)) (Int.emod_lt_of_pos _ hb.1)
  · rw [List.take_length] at p
    exact p
theorem ixg {xs : List Int} {k : Int} {n : Nat} (e : xs.length = n) (h : -(n : Int) ≤ k ∧ k < n) : -(xs.length : Int) ≤ k ∧ k < xs.length := by
  rw [e]
  exact h
theorem itD_lit {xs : List Int} {a k : Int} (n : Nat) (e : k = (n : Int)) (h : xs[n]? = some a) : itD xs k = a := by
  subst e
  have hl := get_len h
  unfold itD atI ixN
  rw [if_pos (by omega), if_pos (by omega)]
  show (xs[n]?).getD default = a
  rw [h]
  rfl
theorem between_gv (f s lo hi : Int) (h : lo ≤ hi) : Gv (F__law_between f s lo hi) (fun v => lo ≤ v ∧ v ≤ hi) := by
  unfold F__law_between
  refine Gv.ite (fun _ => .ok (by omega)) fun _ => Gv.ite (fun _ => .ok (by omega)) fun _ => Gv.ite (fun _ => .ok ?_) fun _ => Gv.grd (by omega) (.ok ?_)
  · split <;> omega
  · have a := Int.emod_nonneg s (show hi - lo + 1 ≠ 0 by omega)
    have b := Int.emod_lt_of_pos s (show 0 < hi - lo + 1 by omega)
    omega
theorem numbers_gv (cell : Int) : Gv (F__law_numbers cell) (fun n => ∃ w h d c s r a b l : Int, n = [w, h, d, c, s, r, a, b, l] ∧ (1 ≤ w ∧ w ≤ 256) ∧ (1 ≤ h ∧ h ≤ 256) ∧ (8 ≤ d ∧ d ≤ 12) ∧ (0 ≤ c ∧ c ≤ 2) ∧ (1 ≤ s ∧ s ≤ 4) ∧ (1 ≤ r ∧ r ≤ 32) ∧ (1 ≤ l ∧ l ≤ 4) ∧ (0 ≤ a ∧ a ≤ 1) ∧ (0 ≤ b ∧ b ≤ 1)) := by
  unfold F__law_numbers
  refine Gv.bind (draws_gv _ _ (by decide +kernel) (by decide +kernel)) fun v hv => ?_
  obtain ⟨a0, r0, rfl, _, _, hv⟩ := hv.cons
  obtain ⟨a1, r1, rfl, _, _, hv⟩ := hv.cons
  obtain ⟨a2, r2, rfl, _, _, hv⟩ := hv.cons
  obtain ⟨a3, r3, rfl, _, _, hv⟩ := hv.cons
  obtain ⟨a4, r4, rfl, b4, c4, hv⟩ := hv.cons
  obtain ⟨a5, r5, rfl, b5, c5, hv⟩ := hv.cons
  obtain ⟨a6, r6, rfl, b6, c6, hv⟩ := hv.cons
  obtain ⟨a7, r7, rfl, _, _, hv⟩ := hv.cons
  obtain ⟨a8, r8, rfl, _, _, hv⟩ := hv.cons
  obtain ⟨a9, r9, rfl, b9, c9, hv⟩ := hv.cons
  obtain ⟨a10, r10, rfl, b10, c10, hv⟩ := hv.cons
  obtain ⟨a11, r11, rfl, b11, c11, hv⟩ := hv.cons
  obtain rfl := hv.nil
  refine Gv.grd (ixg (n := 12) rfl (by decide)) (Gv.grd (ixg (n := 12) rfl (by decide)) (Gv.bind (between_gv _ _ 1 256 (by decide)) fun w hw => Gv.grd (ixg (n := 12) rfl (by decide)) (Gv.grd (ixg (n := 12) rfl (by decide)) (Gv.bind (between_gv _ _ 1 256 (by decide)) fun h hh => ?_))))
  refine Gv.grd (ixg (n := 12) rfl (by decide)) (Gv.grd (ixg (n := 12) rfl (by decide)) (Gv.bind (between_gv _ _ 1 32 (by decide)) fun r hr => Gv.grd (ixg (n := 12) rfl (by decide)) (Gv.grd (ixg (n := 12) rfl (by decide)) (Gv.grd (ixg (n := 12) rfl (by decide)) (Gv.grd (ixg (n := 12) rfl (by decide)) (Gv.grd (ixg (n := 12) rfl (by decide)) (Gv.grd (ixg (n := 12) rfl (by decide)) (.ok ?_))))))))
  rw [itD_lit (k := 4) (a := a4) 4 rfl rfl, itD_lit (k := 5) (a := a5) 5 rfl rfl, itD_lit (k := 6) (a := a6) 6 rfl rfl, itD_lit (k := 9) (a := a9) 9 rfl rfl, itD_lit (k := 10) (a := a10) 10 rfl rfl, itD_lit (k := 11) (a := a11) 11 rfl rfl]
  exact ⟨w, h, 8 + a4, a5, 1 + a6, r, a9, a10, 1 + a11, rfl, hw, hh, ⟨by omega, by omega⟩, ⟨by omega, by omega⟩, ⟨by omega, by omega⟩, hr, ⟨by omega, by omega⟩, ⟨by omega, by omega⟩, ⟨by omega, by omega⟩⟩
def setv (w h d c s r a b l : Int) : St_Settings := ⟨⟨w, h, d, c⟩, s, r, decide (a = 1), decide (b = 1), l⟩
theorem require_ok {p q : Prop} [Decidable p] [Decidable q] (t : Str) (h1 : p) (h2 : q) : F__require (decide p && decide q) t = .ok () := by
  unfold F__require
  rw [decide_eq_true h1, decide_eq_true h2]
  rfl
theorem settings_ok {w h d c s r a b l : Int} (hw : 1 ≤ w ∧ w ≤ 256) (hh : 1 ≤ h ∧ h ≤ 256) (hd : 8 ≤ d ∧ d ≤ 12) (hc : 0 ≤ c ∧ c ≤ 2) (hs : 1 ≤ s ∧ s ≤ 4) (hr : 1 ≤ r ∧ r ≤ 32) (hl : 1 ≤ l ∧ l ≤ 4) :
    F__law_settings [w, h, d, c, s, r, a, b, l] = .ok (setv w h d c s r a b l) := by
  unfold F__law_settings
  have e : F_Format___init__ w h d c = .ok ⟨w, h, d, c⟩ := by
    unfold F_Format___init__
    rw [if_pos hw.1, if_pos hw.2, if_pos hh.1, if_pos hh.2, if_pos hd.1, if_pos hd.2, if_pos hc.1, if_pos hc.2]
  have e2 : F_Settings___init__ ⟨w, h, d, c⟩ s r (decide (a = 1)) (decide (b = 1)) l = .ok (setv w h d c s r a b l) := by
    unfold F_Settings___init__
    rw [require_ok _ hs.1 hs.2, bind_ok, require_ok _ hr.1 hr.2, bind_ok, require_ok _ hl.1 hl.2, bind_ok]
    rfl
  refine Gv.get ?_
  refine Gv.grd (ixg (n := 9) rfl (by decide)) (Gv.grd (ixg (n := 9) rfl (by decide)) (Gv.grd (ixg (n := 9) rfl (by decide)) (Gv.grd (ixg (n := 9) rfl (by decide)) (Gv.bind_eq e (Gv.grd (ixg (n := 9) rfl (by decide)) (Gv.grd (ixg (n := 9) rfl (by decide)) (Gv.grd (ixg (n := 9) rfl (by decide)) (Gv.grd (ixg (n := 9) rfl (by decide)) (Gv.grd (ixg (n := 9) rfl (by decide)) (Gv.bind_eq e2 (.ok rfl)))))))))))
section
variable {w h d c s r a b l : Int}
theorem slices_ok (hr : 1 ≤ r ∧ r ≤ 32) : F_Settings_slices (setv w h d c s r a b l) = .ok (((h + 7) / 8 + r - 1) / r) := by
  unfold F_Settings_slices F_Format_blocks
  rw [bind_ok, grd_pos ⟨show 0 < r by omega, show r < 2 ^ 128 by omega⟩]
  show Rx.ok (((h + 8 - 1) / 8 + r - 1) / r) = _
  rw [show h + 8 - 1 = h + 7 by omega]
end
/-! ### headers of pictures -/
def rq (b : Bool) : Rx Unit := if b = true then .ok () else .er 3
theorem rq_req (b : Bool) (t : Str) : F__require b t = rq b := rfl
theorem rq_bind (a b : Bool) {f : Unit → Rx Unit} (h : f () = rq b) : (rq a).bind f = rq (a && b) := by
  cases a
  · rfl
  · show f () = _
    rw [h]
    rfl
theorem rq_if {p : Prop} [Decidable p] (b : Bool) (t : Str) : (if p then (F__require b t).bind fun _ => .ok () else (F__require false t).bind fun _ => .ok () : Rx Unit) = rq (decide p && b) := by
  by_cases h : p
  · rw [if_pos h, decide_eq_true h]
    cases b <;> rfl
  · rw [if_neg h, decide_eq_false h]
    rfl
theorem rq_or {c : Bool} (b : Bool) (t : Str) : (if c = true then (F__require true t).bind fun _ => .ok () else (F__require b t).bind fun _ => .ok () : Rx Unit) = rq (c || b) := by
  cases c <;> cases b <;> rfl
abbrev CNT : List (Str × List Int) := [("I", [0]), ("P", [1, 2]), ("B", [2])]
/-- what a header of a picture must be -/
structure HOk (S : St_Settings) (n : Int) (k : Str) (l : Int) (st rf : List Int) (w ly ed : Int) : Prop where
  num : 0 ≤ n ∧ n ≤ 999
  kind : k ∈ ([("I" : Str), ("P" : Str), ("B" : Str)] : List Str)
  level : 0 ≤ l ∧ l ≤ 31
  weight : 0 ≤ w ∧ w ≤ 16
  even : w = 8 ∨ k = "B"
  layer : 0 ≤ ly ∧ ly < S.layers
  edge : -6 ≤ ed ∧ ed ≤ 6
  deb : ed = 0 ∨ S.deblock = true
  slots : ∀ x ∈ st ++ rf, 0 ≤ x ∧ x < S.slots
  asc : st = sortSet st
  cnt : (rf.length : Int) ∈ dictG CNT k
def nB (S : St_Settings) (h : St_PictureHeader) : Bool :=
  (decide (0 ≤ h.number) && decide (h.number ≤ 999)) && (decide (h.kind ∈ ([("I" : Str), ("P" : Str), ("B" : Str)] : List Str)) && ((decide (0 ≤ h.level) && decide (h.level ≤ 31)) && ((decide (0 ≤ h.weight) && decide (h.weight ≤ 16)) && ((decide (h.weight = 8) || decide (V.str h.kind = V.str ("B" : Str))) && ((decide (0 ≤ h.layer) && decide (h.layer < S.layers)) && ((decide (-6 ≤ h.edge) && decide (h.edge ≤ 6)) && (decide (h.edge = 0) || S.deblock)))))))
theorem numbers_eq (S : St_Settings) (h : St_PictureHeader) : F__check_numbers S h = rq (nB S h) := by
  unfold F__check_numbers
  rw [rq_if]
  refine rq_bind _ _ ?_
  show F__check_numbers_k1 S h = _
  unfold F__check_numbers_k1
  rw [rq_req]
  have e : ∀ b : Bool, ((rq b).bind fun _ => Rx.ok ()) = rq b := fun b => by cases b <;> rfl
  rw [e]
  refine rq_bind _ _ ?_
  show F__check_numbers_k2 S h = _
  unfold F__check_numbers_k2
  rw [rq_if]
  refine rq_bind _ _ ?_
  show F__check_numbers_k3 S h = _
  unfold F__check_numbers_k3
  rw [rq_if]
  refine rq_bind _ _ ?_
  show F__check_numbers_k4 S h = _
  unfold F__check_numbers_k4
  rw [rq_or]
  refine rq_bind _ _ ?_
  show F__check_numbers_k5 S h = _
  unfold F__check_numbers_k5
  rw [rq_if]
  refine rq_bind _ _ ?_
  show F__check_numbers_k6 S h = _
  unfold F__check_numbers_k6
  rw [rq_if]
  refine rq_bind _ _ ?_
  show F__check_numbers_k7 S h = _
  unfold F__check_numbers_k7
  exact rq_or _ _
def sB (S : St_Settings) (x : Int) : Bool := decide (0 ≤ x) && decide (x < S.slots)
theorem loop_eq (S : St_Settings) : ∀ xs : List Int, forS xs () (fun _ x => F__check_slots_b1 S x) = rq (xs.all (sB S))
  | [] => rfl
  | x :: r => by
    rw [List.all_cons]
    show (F__check_slots_b1 S x).bind (fun _ => forS r () (fun _ x => F__check_slots_b1 S x)) = _
    have e : F__check_slots_b1 S x = rq (sB S x) := by
      unfold F__check_slots_b1
      rw [rq_req]
      show (rq (sB S x)).bind _ = _
      cases sB S x <;> rfl
    rw [e]
    exact rq_bind _ _ (loop_eq S r)
theorem slots_eq (S : St_Settings) (h : St_PictureHeader) (h1 : h.store.length ≤ 50) (h2 : h.refs.length ≤ 50) (hk : hasG CNT h.kind = true) :
    F__check_slots S h = rq ((h.store ++ h.refs).all (sB S) && (decide (h.store = sortSet h.store) && decide ((h.refs.length : Int) ∈ dictG CNT h.kind))) := by
  unfold F__check_slots
  rw [grd_pos (by omega), loop_eq]
  refine rq_bind _ _ ?_
  show F__check_slots_r1 h = _
  unfold F__check_slots_r1
  rw [grd_pos h1, rq_req]
  refine rq_bind _ _ ?_
  show grd (hasG CNT h.kind = true) _ = _
  rw [grd_pos hk, rq_req]
  show (rq (decide ((h.refs.length : Int) ∈ dictG CNT h.kind))).bind _ = _
  cases decide ((h.refs.length : Int) ∈ dictG CNT h.kind) <;> rfl
theorem kind_has {k : Str} (h : k ∈ ([("I" : Str), ("P" : Str), ("B" : Str)] : List Str)) : hasG CNT k = true := by
  simp only [List.mem_cons, List.not_mem_nil, or_false] at h
  rcases h with rfl | rfl | rfl <;> decide +kernel
section
variable {S : St_Settings} {n : Int} {k : Str} {l : Int} {st rf : List Int} {w ly ed : Int} {sh : Bool}
theorem nB_iff : nB S ⟨n, k, l, st, rf, w, ly, sh, ed⟩ = true ↔ (0 ≤ n ∧ n ≤ 999) ∧ k ∈ ([("I" : Str), ("P" : Str), ("B" : Str)] : List Str) ∧ (0 ≤ l ∧ l ≤ 31) ∧ (0 ≤ w ∧ w ≤ 16) ∧ (w = 8 ∨ k = "B") ∧ (0 ≤ ly ∧ ly < S.layers) ∧ (-6 ≤ ed ∧ ed ≤ 6) ∧ (ed = 0 ∨ S.deblock = true) := by
  have e : (V.str k = V.str ("B" : Str)) ↔ k = "B" := ⟨fun h => V.str.inj h, fun h => h ▸ rfl⟩
  unfold nB
  simp only [Bool.and_eq_true, Bool.or_eq_true, decide_eq_true_iff, e]
theorem hok_iff : (nB S ⟨n, k, l, st, rf, w, ly, sh, ed⟩ = true ∧ ((st ++ rf).all (sB S) && (decide (st = sortSet st) && decide ((rf.length : Int) ∈ dictG CNT k))) = true) ↔ HOk S n k l st rf w ly ed := by
  have e : ∀ x, sB S x = true ↔ (0 ≤ x ∧ x < S.slots) := fun x => by unfold sB; rw [Bool.and_eq_true, decide_eq_true_iff, decide_eq_true_iff]
  rw [nB_iff, Bool.and_eq_true, Bool.and_eq_true, decide_eq_true_iff, decide_eq_true_iff, List.all_eq_true]
  constructor
  · rintro ⟨⟨a, b, c, d, f, g, h, i⟩, j, m, o⟩
    exact ⟨a, b, c, d, f, g, h, i, fun x hx => (e x).mp (j x hx), m, o⟩
  · rintro ⟨a, b, c, d, f, g, h, i, j, m, o⟩
    exact ⟨⟨a, b, c, d, f, g, h, i⟩, fun x hx => (e x).mpr (j x hx), m, o⟩
theorem pic_ok (h1 : st.length ≤ 50) (h2 : rf.length ≤ 50) (h : HOk S n k l st rf w ly ed) : F_PictureHeader___init__ S n k l st rf w ly sh ed = .ok ⟨n, k, l, st, rf, w, ly, sh, ed⟩ := by
  have z := (hok_iff (sh := sh)).mpr h
  unfold F_PictureHeader___init__
  rw [numbers_eq, z.1, slots_eq S ⟨n, k, l, st, rf, w, ly, sh, ed⟩ h1 h2 (kind_has h.kind), z.2]
  rfl
theorem pic_er (h1 : st.length ≤ 50) (h2 : rf.length ≤ 50) (h : ¬ HOk S n k l st rf w ly ed) : F_PictureHeader___init__ S n k l st rf w ly sh ed = .er 3 := by
  unfold F_PictureHeader___init__
  rw [numbers_eq]
  cases e : nB S ⟨n, k, l, st, rf, w, ly, sh, ed⟩ with
  | false => rfl
  | true =>
    rw [slots_eq S ⟨n, k, l, st, rf, w, ly, sh, ed⟩ h1 h2 (kind_has (nB_iff.mp e).2.1)]
    cases e2 : ((st ++ rf).all (sB S) && (decide (st = sortSet st) && decide ((rf.length : Int) ∈ dictG CNT k))) with
    | false => rfl
    | true => exact absurd (hok_iff.mp ⟨e, e2⟩) h
end
abbrev PL (nu kd lv : Int) (st rf : List Int) (wt ly sh ed : Int) : List PyData := [.int nu, .int kd, .int lv, encL PyData.int st, encL PyData.int rf, .int wt, .int ly, .int sh, .int ed]
theorem pl_at (a0 a1 a2 a3 a4 a5 a6 a7 a8 : PyData) : itD [a0, a1, a2, a3, a4, a5, a6, a7, a8] 0 = a0 ∧ itD [a0, a1, a2, a3, a4, a5, a6, a7, a8] 1 = a1 := ⟨rfl, rfl⟩
section
variable {a0 a1 a2 a3 a4 a5 a6 a7 a8 v : PyData}
theorem with0 : F__law_with [a0, a1, a2, a3, a4, a5, a6, a7, a8] 0 v = .ok [v, a1, a2, a3, a4, a5, a6, a7, a8] := rfl
theorem with2 : F__law_with [a0, a1, a2, a3, a4, a5, a6, a7, a8] 2 v = .ok [a0, a1, v, a3, a4, a5, a6, a7, a8] := rfl
theorem with3 : F__law_with [a0, a1, a2, a3, a4, a5, a6, a7, a8] 3 v = .ok [a0, a1, a2, v, a4, a5, a6, a7, a8] := rfl
theorem with4 : F__law_with [a0, a1, a2, a3, a4, a5, a6, a7, a8] 4 v = .ok [a0, a1, a2, a3, v, a5, a6, a7, a8] := rfl
theorem with5 : F__law_with [a0, a1, a2, a3, a4, a5, a6, a7, a8] 5 v = .ok [a0, a1, a2, a3, a4, v, a6, a7, a8] := rfl
theorem with6 : F__law_with [a0, a1, a2, a3, a4, a5, a6, a7, a8] 6 v = .ok [a0, a1, a2, a3, a4, a5, v, a7, a8] := rfl
theorem with8 : F__law_with [a0, a1, a2, a3, a4, a5, a6, a7, a8] 8 v = .ok [a0, a1, a2, a3, a4, a5, a6, a7, v] := rfl
end
def Bad (S : St_Settings) (name : Str) (f : List PyData) : Prop := ∃ nu kd lv st rf wt ly sh ed, f = PL nu kd lv st rf wt ly sh ed ∧ st.length ≤ 50 ∧ rf.length ≤ 50 ∧ ¬ HOk S nu name lv st rf wt ly ed
theorem ok_L (xs : List Int) : (cL cI).ok (encL PyData.int xs) = true := (cL cI).oke xs
theorem de_L (xs : List Int) : (cL cI).dec (encL PyData.int xs) = xs := (cL cI).de xs
theorem refused_bad {S : St_Settings} {name : Str} {f : List PyData} (h : Bad S name f) : F__law_picture_refused S f name = .ok true := by
  obtain ⟨nu, kd, lv, st, rf, wt, ly, sh, ed, rfl, h1, h2, h3⟩ := h
  have g : ∀ k : Int, 0 ≤ k → k < 9 → -((PL nu kd lv st rf wt ly sh ed).length : Int) ≤ k ∧ k < ((PL nu kd lv st rf wt ly sh ed).length : Int) := fun k a b => by
    show -(9 : Int) ≤ k ∧ k < (9 : Int)
    omega
  have gl : ∀ k : Int, 0 ≤ k ∧ k < 9 → -((PL nu kd lv st rf wt ly sh ed).length : Int) ≤ k ∧ k < ((PL nu kd lv st rf wt ly sh ed).length : Int) := fun k a => g k a.1 a.2
  unfold F__law_picture_refused
  refine Gv.get (Gv.grd (gl _ (by decide)) (Gv.grd rfl (Gv.grd (gl _ (by decide)) (Gv.grd rfl (Gv.grd (gl _ (by decide)) (Gv.grd (ok_L st) (Gv.grd (gl _ (by decide)) (Gv.grd (ok_L rf) (Gv.grd (gl _ (by decide)) (Gv.grd rfl (Gv.grd (gl _ (by decide)) (Gv.grd rfl (Gv.grd (gl _ (by decide)) (Gv.grd rfl (Gv.grd (gl _ (by decide)) (Gv.grd rfl ?_))))))))))))))))
  refine Gv.tryEr (e := 3) ?_ (by simp) (.ok rfl)
  have e3 : (cL cI).dec (itD (PL nu kd lv st rf wt ly sh ed) 3) = st := de_L st
  have e4 : (cL cI).dec (itD (PL nu kd lv st rf wt ly sh ed) 4) = rf := de_L rf
  rw [e3, e4]
  exact pic_er h1 h2 h3
section
variable {S : St_Settings} {name : Str} {nu kd lv wt ly sh ed : Int} {st rf : List Int}
theorem w0 {x : Int} (h1 : st.length ≤ 50) (h2 : rf.length ≤ 50) (h : ¬ (0 ≤ x ∧ x ≤ 999)) : Gv (F__law_with (PL nu kd lv st rf wt ly sh ed) 0 (.int x)) (Bad S name) := Gv.of_eq with0 ⟨x, kd, lv, st, rf, wt, ly, sh, ed, rfl, h1, h2, fun z => h z.num⟩
theorem w2 {x : Int} (h1 : st.length ≤ 50) (h2 : rf.length ≤ 50) (h : ¬ (0 ≤ x ∧ x ≤ 31)) : Gv (F__law_with (PL nu kd lv st rf wt ly sh ed) 2 (.int x)) (Bad S name) := Gv.of_eq with2 ⟨nu, kd, x, st, rf, wt, ly, sh, ed, rfl, h1, h2, fun z => h z.level⟩
theorem w3 {x : List Int} (h1 : x.length ≤ 50) (h2 : rf.length ≤ 50) (h : ¬ ((∀ y ∈ x, 0 ≤ y ∧ y < S.slots) ∧ x = sortSet x)) : Gv (F__law_with (PL nu kd lv st rf wt ly sh ed) 3 (encL PyData.int x)) (Bad S name) := Gv.of_eq with3 ⟨nu, kd, lv, x, rf, wt, ly, sh, ed, rfl, h1, h2, fun z => h ⟨fun y hy => z.slots y (List.mem_append_left _ hy), z.asc⟩⟩
theorem w4 {x : List Int} (h1 : st.length ≤ 50) (h2 : x.length ≤ 50) (h : ¬ ((∀ y ∈ x, 0 ≤ y ∧ y < S.slots) ∧ (x.length : Int) ∈ dictG CNT name)) : Gv (F__law_with (PL nu kd lv st rf wt ly sh ed) 4 (encL PyData.int x)) (Bad S name) := Gv.of_eq with4 ⟨nu, kd, lv, st, x, wt, ly, sh, ed, rfl, h1, h2, fun z => h ⟨fun y hy => z.slots y (List.mem_append_right _ hy), z.cnt⟩⟩
theorem w5 {x : Int} (h1 : st.length ≤ 50) (h2 : rf.length ≤ 50) (h : ¬ ((0 ≤ x ∧ x ≤ 16) ∧ (x = 8 ∨ name = "B"))) : Gv (F__law_with (PL nu kd lv st rf wt ly sh ed) 5 (.int x)) (Bad S name) := Gv.of_eq with5 ⟨nu, kd, lv, st, rf, x, ly, sh, ed, rfl, h1, h2, fun z => h ⟨z.weight, z.even⟩⟩
theorem w6 {x : Int} (h1 : st.length ≤ 50) (h2 : rf.length ≤ 50) (h : ¬ (0 ≤ x ∧ x < S.layers)) : Gv (F__law_with (PL nu kd lv st rf wt ly sh ed) 6 (.int x)) (Bad S name) := Gv.of_eq with6 ⟨nu, kd, lv, st, rf, wt, x, sh, ed, rfl, h1, h2, fun z => h z.layer⟩
theorem w8 {x : Int} (h1 : st.length ≤ 50) (h2 : rf.length ≤ 50) (h : ¬ ((-6 ≤ x ∧ x ≤ 6) ∧ (x = 0 ∨ S.deblock = true))) : Gv (F__law_with (PL nu kd lv st rf wt ly sh ed) 8 (.int x)) (Bad S name) := Gv.of_eq with8 ⟨nu, kd, lv, st, rf, wt, ly, sh, x, rfl, h1, h2, fun z => h ⟨z.edge, z.deb⟩⟩
end
def nm (kd : Int) : Str := itD [("I" : Str), ("P" : Str), ("B" : Str)] kd
theorem k3 {kd : Int} (h : 0 ≤ kd ∧ kd < 3) : kd = 0 ∨ kd = 1 ∨ kd = 2 := by omega
theorem cnt_of {kd : Int} (h : 0 ≤ kd ∧ kd < 3) : dictG CNT (nm kd) = itD [[0], [1, 2], [2]] kd := by rcases k3 h with rfl | rfl | rfl <;> decide +kernel
def AllB (S : St_Settings) (name : Str) (fs : List (List PyData)) : Prop := fs.length ≤ 100 ∧ ∀ f ∈ fs, Bad S name f
theorem AllB.app {S : St_Settings} {name : Str} {a b : List (List PyData)} (h : a.length ≤ 60 ∧ ∀ f ∈ a, Bad S name f) (g : b.length ≤ 40 ∧ ∀ f ∈ b, Bad S name f) : AllB S name (a ++ b) := ⟨by rw [List.length_append]; omega, fun f hf => (List.mem_append.mp hf).elim (h.2 f) (g.2 f)⟩
section
variable {w h d c s r a b l : Int} {nu kd lv wt ly sh ed far : Int} {st rf : List Int}
abbrev NL (w h d c s r a b l : Int) : List Int := [w, h, d, c, s, r, a, b, l]
theorem n_at (w h d c s r a b l : Int) : itD (NL w h d c s r a b l) 4 = s ∧ itD (NL w h d c s r a b l) 6 = a ∧ itD (NL w h d c s r a b l) 8 = l := ⟨rfl, rfl, rfl⟩
theorem not_all {S : St_Settings} {xs : List Int} {P : Prop} (y : Int) (hy : y ∈ xs) (hb : ¬ (0 ≤ y ∧ y < S.slots)) : ¬ ((∀ y ∈ xs, 0 ≤ y ∧ y < S.slots) ∧ P) := fun z => hb (z.1 y hy)
theorem b5_gv (fs : List (List PyData)) (x : Int) (hk : 0 ≤ kd ∧ kd < 3) (h1 : st.length ≤ 50) (hx : 0 ≤ x ∧ x < 5) (hf : fs.length ≤ 60) (hb : ∀ f ∈ fs, Bad (setv w h d c s r a b l) (nm kd) f) :
    Gv (F__law_faults_b5 (PL nu kd lv st rf wt ly sh ed) fs x) (fun v => v.length ≤ fs.length + 1 ∧ ∀ f ∈ v, Bad (setv w h d c s r a b l) (nm kd) f) := by
  have W4 : ∀ {x : List Int}, x.length ≤ 50 → ¬ ((∀ y ∈ x, 0 ≤ y ∧ y < (setv w h d c s r a b l).slots) ∧ (x.length : Int) ∈ dictG CNT (nm kd)) → Gv (F__law_with (PL nu kd lv st rf wt ly sh ed) 4 (encL PyData.int x)) (Bad (setv w h d c s r a b l) (nm kd)) := fun a b => w4 h1 a b
  unfold F__law_faults_b5
  have e : cI.dec (itD (PL nu kd lv st rf wt ly sh ed) 1) = kd := rfl
  rw [e]
  refine Gv.grd (by show -(9 : Int) ≤ 1 ∧ (1 : Int) < 9; decide) (Gv.grd rfl (Gv.grd (by show -(3 : Int) ≤ kd ∧ kd < 3; omega) (Gv.ite (fun _ => .ok ⟨by omega, hb⟩) fun cx => Gv.grd ⟨by omega, by omega, by show 1 * x.toNat ≤ _; omega⟩ (Gv.bind (W4 ?_ ?_) fun v hv => Gv.grd (by omega) (Gv.bnd fun y hy => .ok ?_)))))
  · unfold repL; simp; omega
  · intro z
    have z2 := z.2
    rw [cnt_of hk] at z2
    have el : ((repL [(0 : Int)] x).length : Int) = x := by unfold repL; simp; omega
    rw [el] at z2
    exact cx z2
  · subst hy
    refine ⟨by rw [List.length_append]; exact Nat.le_refl _, fun f hf => ?_⟩
    rcases List.mem_append.mp hf with q | q
    · exact hb f q
    · rw [List.mem_singleton.mp q]; exact hv
/-- all further faults -/
theorem tail_gv (fs : List (List PyData)) (hk : 0 ≤ kd ∧ kd < 3) (h1 : st.length ≤ 50) (h2 : rf.length ≤ 50) (hs : 1 ≤ s ∧ s ≤ 4) (hfar : 1 ≤ far) (hf : fs.length ≤ 30) (hb : ∀ f ∈ fs, Bad (setv w h d c s r a b l) (nm kd) f) :
    Gv (F__law_faults_k4 (PL nu kd lv st rf wt ly sh ed) (NL w h d c s r a b l) far fs) (fun v => ∀ f ∈ v, Bad (setv w h d c s r a b l) (nm kd) f) := by
  have W4 : ∀ {x : List Int}, x.length ≤ 50 → ¬ ((∀ y ∈ x, 0 ≤ y ∧ y < (setv w h d c s r a b l).slots) ∧ (x.length : Int) ∈ dictG CNT (nm kd)) → Gv (F__law_with (PL nu kd lv st rf wt ly sh ed) 4 (encL PyData.int x)) (Bad (setv w h d c s r a b l) (nm kd)) := fun a b => w4 h1 a b
  unfold F__law_faults_k4
  refine Gv.bind (Gv.forS (P := fun i s' => s'.length ≤ fs.length + i ∧ ∀ f ∈ s', Bad (setv w h d c s r a b l) (nm kd) f) ⟨Nat.le_refl _, hb⟩ fun i x s' hx p => ?_) fun v hv => ?_
  · obtain ⟨rfl, hi⟩ := rng_at hx
    have hi : i < 5 := hi
    exact (b5_gv s' _ hk h1 (by omega) (by omega) p.2).imp fun v q => ⟨by omega, q.2⟩
  rw [rng_len] at hv
  have hl : v.length ≤ 35 := by have := hv.1; have e : Int.toNat 5 = 5 := rfl; omega
  have gn : -((NL w h d c s r a b l).length : Int) ≤ 4 ∧ 4 < ((NL w h d c s r a b l).length : Int) := by show -(9 : Int) ≤ 4 ∧ (4 : Int) < 9; decide
  have gp : -((PL nu kd lv st rf wt ly sh ed).length : Int) ≤ 1 ∧ 1 < ((PL nu kd lv st rf wt ly sh ed).length : Int) := by show -(9 : Int) ≤ 1 ∧ (1 : Int) < 9; decide
  have ek : cI.dec (itD (PL nu kd lv st rf wt ly sh ed) 1) = kd := rfl
  have es : itD (NL w h d c s r a b l) 4 = s := rfl
  have out : ∀ {xs : List Int} {P : Prop} (y : Int), y ∈ xs → ¬ (0 ≤ y ∧ y < s) → ¬ ((∀ y ∈ xs, 0 ≤ y ∧ y < (setv w h d c s r a b l).slots) ∧ P) := fun y hy hb => not_all y hy hb
  have AP : ∀ {u : List (List PyData)} {n : Nat}, (v.length ≤ n ∧ ∀ f ∈ v, Bad (setv w h d c s r a b l) (nm kd) f) → (∀ f ∈ u, Bad (setv w h d c s r a b l) (nm kd) f) → ∀ f ∈ v ++ u, Bad (setv w h d c s r a b l) (nm kd) f := fun p q f hf => (List.mem_append.mp hf).elim (p.2 f) (q f)
  unfold F__law_faults_r5
  rw [ek, es]
  refine Gv.bind (P := fun q => q.length ≤ 39 ∧ ∀ f ∈ q, Bad (setv w h d c s r a b l) (nm kd) f) (Gv.grd gp (Gv.grd rfl (Gv.ite (fun c1 => Gv.grd gn (Gv.bind (W4 (by decide : 1 ≤ 50) (out (s - 1 + far) (by simp) (by omega))) fun v1 b1 => Gv.bind (W4 (by decide : 1 ≤ 50) (out (-far) (by simp) (by omega))) fun v2 b2 => Gv.bind (W4 (by decide : 2 ≤ 50) (out (-far) (by simp) (by omega))) fun v3 b3 => Gv.grd gn (Gv.bind (W4 (by decide : 2 ≤ 50) (out s (by simp) (by omega))) fun v4 b4 => Gv.grd (by show v.length + 4 ≤ _; omega) (.ok ?_)))) fun _ => .ok ⟨by omega, hv.2⟩))) fun q hq => ?_
  · refine ⟨by rw [List.length_append]; show v.length + 4 ≤ 39; omega, fun f hf => ?_⟩
    simp only [List.mem_append, List.mem_cons, List.not_mem_nil, or_false] at hf
    rcases hf with hf | rfl | rfl | rfl | rfl
    · exact hv.2 f hf
    all_goals assumption
  show Gv (F__law_faults_k6 (PL nu kd lv st rf wt ly sh ed) (NL w h d c s r a b l) far q) _
  unfold F__law_faults_k6
  rw [ek, es]
  refine Gv.bind (P := fun q => q.length ≤ 42 ∧ ∀ f ∈ q, Bad (setv w h d c s r a b l) (nm kd) f) (Gv.grd gp (Gv.grd rfl (Gv.ite (fun c1 => Gv.bind (W4 (by decide : 2 ≤ 50) (out (-far) (by simp) (by omega))) fun v1 b1 => Gv.bind (W4 (by decide : 2 ≤ 50) (out (-far) (by simp) (by omega))) fun v2 b2 => Gv.grd gn (Gv.bind (W4 (by decide : 2 ≤ 50) (out s (by simp) (by omega))) fun v3 b3 => Gv.grd (by show q.length + 3 ≤ _; omega) (.ok ?_))) fun _ => .ok ⟨by omega, hq.2⟩))) fun q2 hq2 => ?_
  · refine ⟨by rw [List.length_append]; show q.length + 3 ≤ 42; omega, fun f hf => ?_⟩
    simp only [List.mem_append, List.mem_cons, List.not_mem_nil, or_false] at hf
    rcases hf with hf | rfl | rfl | rfl
    · exact hq.2 f hf
    all_goals assumption
  show Gv (F__law_faults_k7 (PL nu kd lv st rf wt ly sh ed) (NL w h d c s r a b l) far q2) _
  unfold F__law_faults_k7
  rw [ek, es]
  refine Gv.bind (P := fun q => ∀ f ∈ q, Bad (setv w h d c s r a b l) (nm kd) f) (Gv.grd gp (Gv.grd rfl (Gv.ite (fun c1 => Gv.grd gn (Gv.bind (W4 (by decide : 2 ≤ 50) (out (s - 1 + far) (by simp) (by omega))) fun v1 b1 => Gv.grd gn (Gv.bind (W4 (by decide : 2 ≤ 50) (out s (by simp) (by omega))) fun v2 b2 => Gv.bind (W4 (by decide : 2 ≤ 50) (out (-far) (by simp) (by omega))) fun v3 b3 => Gv.grd (by show q2.length + 3 ≤ _; omega) (.ok ?_)))) fun _ => .ok hq2.2))) fun q3 hq3 => .ok hq3
  intro f hf
  simp only [List.mem_append, List.mem_cons, List.not_mem_nil, or_false] at hf
  rcases hf with hf | rfl | rfl | rfl
  · exact hq2.2 f hf
  all_goals assumption
end
section
variable {w h d c s r a b l : Int} {nu kd lv wt ly sh ed far : Int} {st rf : List Int}
theorem head_gv (hk : 0 ≤ kd ∧ kd < 3) (h1 : st.length ≤ 4) (h2 : rf.length ≤ 4) (hs : 1 ≤ s ∧ s ≤ 4) (hl : 1 ≤ l ∧ l ≤ 4) (hfar : 1 ≤ far) :
    Gv (F__law_faults (PL nu kd lv st rf wt ly sh ed) (NL w h d c s r a b l) far) (fun v => ∀ f ∈ v, Bad (setv w h d c s r a b l) (nm kd) f) := by
  have h150 : st.length ≤ 50 := by omega
  have h250 : rf.length ≤ 50 := by omega
  have gn : ∀ k : Int, 0 ≤ k ∧ k < 9 → -((NL w h d c s r a b l).length : Int) ≤ k ∧ k < ((NL w h d c s r a b l).length : Int) := fun k z => by show -(9 : Int) ≤ k ∧ k < (9 : Int); omega
  have gp : ∀ k : Int, 0 ≤ k ∧ k < 9 → -((PL nu kd lv st rf wt ly sh ed).length : Int) ≤ k ∧ k < ((PL nu kd lv st rf wt ly sh ed).length : Int) := fun k z => by show -(9 : Int) ≤ k ∧ k < (9 : Int); omega
  have ek : cI.dec (itD (PL nu kd lv st rf wt ly sh ed) 1) = kd := rfl
  have e3 : (cL cI).dec (itD (PL nu kd lv st rf wt ly sh ed) 3) = st := de_L st
  have es : itD (NL w h d c s r a b l) 4 = s := rfl
  have ea : itD (NL w h d c s r a b l) 6 = a := rfl
  have el : itD (NL w h d c s r a b l) 8 = l := rfl
  have W0 : ∀ {x : Int}, ¬ (0 ≤ x ∧ x ≤ 999) → Gv (F__law_with (PL nu kd lv st rf wt ly sh ed) 0 (.int x)) (Bad (setv w h d c s r a b l) (nm kd)) := fun z => w0 h150 h250 z
  have W2 : ∀ {x : Int}, ¬ (0 ≤ x ∧ x ≤ 31) → Gv (F__law_with (PL nu kd lv st rf wt ly sh ed) 2 (.int x)) (Bad (setv w h d c s r a b l) (nm kd)) := fun z => w2 h150 h250 z
  have W3 : ∀ {x : List Int}, x.length ≤ 50 → ¬ ((∀ y ∈ x, 0 ≤ y ∧ y < (setv w h d c s r a b l).slots) ∧ x = sortSet x) → Gv (F__law_with (PL nu kd lv st rf wt ly sh ed) 3 (encL PyData.int x)) (Bad (setv w h d c s r a b l) (nm kd)) := fun y z => w3 y h250 z
  have W4 : ∀ {x : List Int}, x.length ≤ 50 → ¬ ((∀ y ∈ x, 0 ≤ y ∧ y < (setv w h d c s r a b l).slots) ∧ (x.length : Int) ∈ dictG CNT (nm kd)) → Gv (F__law_with (PL nu kd lv st rf wt ly sh ed) 4 (encL PyData.int x)) (Bad (setv w h d c s r a b l) (nm kd)) := fun y z => w4 h150 y z
  have W5 : ∀ {x : Int}, ¬ ((0 ≤ x ∧ x ≤ 16) ∧ (x = 8 ∨ nm kd = "B")) → Gv (F__law_with (PL nu kd lv st rf wt ly sh ed) 5 (.int x)) (Bad (setv w h d c s r a b l) (nm kd)) := fun z => w5 h150 h250 z
  have W6 : ∀ {x : Int}, ¬ (0 ≤ x ∧ x < (setv w h d c s r a b l).layers) → Gv (F__law_with (PL nu kd lv st rf wt ly sh ed) 6 (.int x)) (Bad (setv w h d c s r a b l) (nm kd)) := fun z => w6 h150 h250 z
  have W8 : ∀ {x : Int}, ¬ ((-6 ≤ x ∧ x ≤ 6) ∧ (x = 0 ∨ (setv w h d c s r a b l).deblock = true)) → Gv (F__law_with (PL nu kd lv st rf wt ly sh ed) 8 (.int x)) (Bad (setv w h d c s r a b l) (nm kd)) := fun z => w8 h150 h250 z
  have out : ∀ {xs : List Int} {P : Prop} (y : Int), y ∈ xs → ¬ (0 ≤ y ∧ y < s) → ¬ ((∀ y ∈ xs, 0 ≤ y ∧ y < (setv w h d c s r a b l).slots) ∧ P) := fun y hy hb => not_all y hy hb
  have nB0 : nm 0 = "I" := rfl
  have nB1 : nm 1 = "P" := rfl
  -- k3, k2, k1
  have K3 : ∀ fs : List (List PyData), fs.length ≤ 28 → (∀ f ∈ fs, Bad (setv w h d c s r a b l) (nm kd) f) → Gv (F__law_faults_k3 (PL nu kd lv st rf wt ly sh ed) (NL w h d c s r a b l) far fs) (fun v => ∀ f ∈ v, Bad (setv w h d c s r a b l) (nm kd) f) := fun fs hf hb => by
    unfold F__law_faults_k3
    rw [ea]
    refine Gv.bind (P := fun q => q.length ≤ 30 ∧ ∀ f ∈ q, Bad (setv w h d c s r a b l) (nm kd) f) (Gv.grd (gn 6 (by decide)) (Gv.ite (fun c1 => ?_) fun _ => .ok ⟨by omega, hb⟩)) fun q hq => tail_gv q hk h150 h250 hs hfar hq.1 hq.2
    have nd : ¬ ((setv w h d c s r a b l).deblock = true) := by show ¬ (decide (a = 1) = true); rw [decide_eq_true_iff]; omega
    refine Gv.bind (W8 (fun z => z.2.elim (by decide) nd)) fun v1 b1 => Gv.bind (W8 (fun z => z.2.elim (by decide) nd)) fun v2 b2 => Gv.grd (by show fs.length + 2 ≤ _; omega) (.ok ⟨by rw [List.length_append]; show fs.length + 2 ≤ 30; omega, fun f hf => ?_⟩)
    simp only [List.mem_append, List.mem_cons, List.not_mem_nil, or_false] at hf
    rcases hf with hf | rfl | rfl
    · exact hb f hf
    all_goals assumption
  have K2 : ∀ fs : List (List PyData), fs.length ≤ 26 → (∀ f ∈ fs, Bad (setv w h d c s r a b l) (nm kd) f) → Gv (F__law_faults_k2 (PL nu kd lv st rf wt ly sh ed) (NL w h d c s r a b l) far fs) (fun v => ∀ f ∈ v, Bad (setv w h d c s r a b l) (nm kd) f) := fun fs hf hb => by
    unfold F__law_faults_k2
    rw [es]
    refine Gv.bind (P := fun q => q.length ≤ 28 ∧ ∀ f ∈ q, Bad (setv w h d c s r a b l) (nm kd) f) (Gv.grd (gn 4 (by decide)) (Gv.ite (fun c1 => ?_) fun _ => .ok ⟨by omega, hb⟩)) fun q hq => K3 q hq.1 hq.2
    refine Gv.bind (W3 (by decide) fun z => absurd z.2 (by decide)) fun v1 b1 => Gv.bind (W3 (by decide) fun z => absurd z.2 (by decide)) fun v2 b2 => Gv.grd (by show fs.length + 2 ≤ _; omega) (.ok ⟨by rw [List.length_append]; show fs.length + 2 ≤ 28; omega, fun f hf => ?_⟩)
    simp only [List.mem_append, List.mem_cons, List.not_mem_nil, or_false] at hf
    rcases hf with hf | rfl | rfl
    · exact hb f hf
    all_goals assumption
  have K1 : ∀ fs : List (List PyData), fs.length ≤ 20 → (∀ f ∈ fs, Bad (setv w h d c s r a b l) (nm kd) f) → Gv (F__law_faults_k1 (PL nu kd lv st rf wt ly sh ed) (NL w h d c s r a b l) far fs) (fun v => ∀ f ∈ v, Bad (setv w h d c s r a b l) (nm kd) f) := fun fs hf hb => by
    unfold F__law_faults_k1
    rw [es]
    refine Gv.bind (P := fun q => q.length ≤ 26 ∧ ∀ f ∈ q, Bad (setv w h d c s r a b l) (nm kd) f) (Gv.grd (gn 4 (by decide)) (Gv.ite (fun c1 => ?_) fun _ => .ok ⟨by omega, hb⟩)) fun q hq => K2 q hq.1 hq.2
    refine Gv.bind (W3 (by decide) fun z => absurd z.2 (by decide)) fun v1 b1 => Gv.bind (W3 (by decide) fun z => absurd z.2 (by decide)) fun v2 b2 => Gv.bind (W3 (by decide) fun z => absurd z.2 (by decide)) fun v3 b3 => Gv.grd (by show fs.length + 3 ≤ _; omega) (.ok ⟨by rw [List.length_append]; show fs.length + 3 ≤ 26; omega, fun f hf => ?_⟩)
    simp only [List.mem_append, List.mem_cons, List.not_mem_nil, or_false] at hf
    rcases hf with hf | rfl | rfl | rfl
    · exact hb f hf
    all_goals assumption
  unfold F__law_faults
  rw [ek, e3, es, el]
  refine Gv.bind (W0 (by omega)) fun v1 b1 => Gv.bind (W0 (by omega)) fun v2 b2 => Gv.bind (W2 (by omega)) fun v3 b3 => Gv.bind (W2 (by omega)) fun v4 b4 => Gv.grd (gn 4 (by decide)) ?_
  refine Gv.bind (W3 (by show 1 ≤ 50; decide) (out (s - 1 + far) (by simp) (by omega))) fun v5 b5 => Gv.bind (W3 (by show 1 ≤ 50; decide) (out (-far) (by simp) (by omega))) fun v6 b6 => Gv.bind (W3 (by decide) fun z => absurd z.2 (by decide)) fun v7 b7 => Gv.grd (by show 4 + 3 ≤ 1000000; decide) ?_
  refine Gv.grd (gp 3 (by decide)) (Gv.grd (ok_L st) (Gv.grd (gn 4 (by decide)) (Gv.grd (by show st.length + 1 ≤ 1000000; omega) (Gv.bind (W3 (by rw [List.length_append]; show st.length + 1 ≤ 50; omega) (out s (by simp) (by omega))) fun v8 b8 => Gv.grd (gn 8 (by decide)) ?_))))
  refine Gv.bind (W6 (by show ¬ (0 ≤ l - 1 + far ∧ l - 1 + far < l); omega)) fun v9 b9 => Gv.bind (W6 (by show ¬ (0 ≤ -far ∧ -far < l); omega)) fun v10 b10 => Gv.grd (by show 7 + 3 ≤ 1000000; decide) (Gv.grd (gp 1 (by decide)) (Gv.grd rfl (Gv.grd (by show -(3 : Int) ≤ kd ∧ kd < 3; omega) ?_)))
  refine Gv.bind (W4 ?_ ?_) fun v11 b11 => Gv.bind (W4 (by decide) ?_) fun v12 b12 => Gv.bind (W8 (by omega)) fun v13 b13 => Gv.grd (by show 10 + 3 ≤ 1000000; decide) ?_
  · rcases k3 hk with rfl | rfl | rfl <;> decide
  · intro z
    have z := z.2
    rcases k3 hk with rfl | rfl | rfl <;> exact absurd z (by decide +kernel)
  · intro z
    have z := z.2
    rcases k3 hk with rfl | rfl | rfl <;> exact absurd z (by decide +kernel)
  refine Gv.bind (W8 (by omega)) fun v14 b14 => Gv.grd (gp 1 (by decide)) (Gv.grd rfl (Gv.grd (by show -(3 : Int) ≤ kd ∧ kd < 3; omega) ?_))
  refine Gv.bind (W5 ?_) fun v15 b15 => Gv.grd (gp 1 (by decide)) (Gv.grd rfl (Gv.grd (by show -(3 : Int) ≤ kd ∧ kd < 3; omega) ?_))
  · intro z
    rcases k3 hk with rfl | rfl | rfl <;> exact absurd z (by decide +kernel)
  refine Gv.bind (W5 ?_) fun v16 b16 => Gv.grd (by show 13 + 3 ≤ 1000000; decide) ?_
  · have e : itD [8 + far, 8 - far, -far] kd = 8 + far ∧ kd = 0 ∨ itD [8 + far, 8 - far, -far] kd = 8 - far ∧ kd = 1 ∨ itD [8 + far, 8 - far, -far] kd = -far ∧ kd = 2 := by
      rcases k3 hk with rfl | rfl | rfl
      · exact .inl ⟨rfl, rfl⟩
      · exact .inr (.inl ⟨rfl, rfl⟩)
      · exact .inr (.inr ⟨rfl, rfl⟩)
    have ne1 : ¬ (nm 0 = "B") := by decide +kernel
    have ne2 : ¬ (nm 1 = "B") := by decide +kernel
    rintro ⟨z1, z2⟩
    rcases e with ⟨e, rfl⟩ | ⟨e, rfl⟩ | ⟨e, rfl⟩
    · rw [e] at z1 z2
      exact z2.elim (by omega) ne1
    · rw [e] at z1 z2
      exact z2.elim (by omega) ne2
    · rw [e] at z1
      omega
  have all16 : ∀ f ∈ ((([v1, v2, v3, v4] ++ [v5, v6, v7]) ++ [v8, v9, v10]) ++ [v11, v12, v13]) ++ [v14, v15, v16], Bad (setv w h d c s r a b l) (nm kd) f := fun f hf => by
    simp only [List.mem_append, List.mem_cons, List.not_mem_nil, or_false] at hf
    rcases hf with (((hf | hf) | hf) | hf) | hf
    · rcases hf with rfl | rfl | rfl | rfl <;> assumption
    all_goals (rcases hf with rfl | rfl | rfl <;> assumption)
  refine Gv.bind (P := fun q => q.length ≤ 20 ∧ ∀ f ∈ q, Bad (setv w h d c s r a b l) (nm kd) f) (Gv.grd (gn 4 (by decide)) (Gv.ite (fun c1 => ?_) fun _ => .ok ⟨by show 16 ≤ 20; decide, all16⟩)) fun q hq => K1 q hq.1 hq.2
  refine Gv.bind (W3 (by decide) fun z => absurd z.2 (by decide)) fun v17 b17 => Gv.grd (gn 4 (by decide)) (Gv.grd (gn 4 (by decide)) (Gv.bind (W3 (by show 3 ≤ 50; decide) fun z => ?_) fun v18 b18 => Gv.grd (by show 16 + 2 ≤ 1000000; decide) (.ok ⟨by show 18 ≤ 20; decide, fun f hf => ?_⟩)))
  · have z := z.2
    have : s = 2 ∨ s = 3 ∨ s = 4 := by omega
    rcases this with rfl | rfl | rfl <;> exact absurd z (by decide)
  · rcases List.mem_append.mp hf with hf | hf
    · exact all16 f hf
    · simp only [List.mem_cons, List.not_mem_nil, or_false] at hf
      rcases hf with rfl | rfl <;> assumption
end
theorem fm_filter {q : Int → Bool} : ∀ xs : List Int, (xs.filterMap fun x => if q x = true then some x else none) = xs.filter q
  | [] => rfl
  | x :: r => by
    rw [List.filterMap_cons, List.filter_cons, fm_filter r]
    by_cases h : q x = true
    · rw [if_pos h, if_pos h]
    · rw [if_neg h, if_neg h]
theorem rng_pw (n : Nat) : (rng 0 n).Pairwise (· < ·) := by
  unfold rng
  rw [List.pairwise_map]
  exact List.pairwise_lt_range.imp fun {a b} h => by omega
section
variable {w h d c s r a b l : Int}
theorem k4_gv {D : List Int} {d0 d1 d2 d3 d4 d5 d6 d7 d8 d9 d10 d11 d12 d13 kd wt : Int} {st rf : List Int} (hD : D = [d0, d1, d2, d3, d4, d5, d6, d7, d8, d9, d10, d11, d12, d13]) (h13 : 0 ≤ d13 ∧ d13 < 13) (ha : 0 ≤ a ∧ a ≤ 1) (hl : 1 ≤ l ∧ l ≤ 4)
    (hk : 0 ≤ kd ∧ kd < 3) (hw : 0 ≤ wt ∧ wt ≤ 16) (hw2 : wt = 8 ∨ kd = 2) (hs : ∀ x ∈ st ++ rf, 0 ≤ x ∧ x < s) (hst : st = sortSet st) (hrf : (rf.length : Int) ∈ dictG CNT (nm kd)) (h1 : st.length ≤ 4) (h2 : rf.length ≤ 4) :
    Gv (F__law_picture_k4 (NL w h d c s r a b l) D kd st rf wt) (fun p => ∃ nu kd lv st rf wt ly sh ed, p = PL nu kd lv st rf wt ly sh ed ∧ (0 ≤ kd ∧ kd < 3) ∧ st.length ≤ 4 ∧ rf.length ≤ 4 ∧ HOk (setv w h d c s r a b l) nu (nm kd) lv st rf wt ly ed) := by
  subst hD
  have gd : ∀ k : Int, 0 ≤ k ∧ k < 14 → -(([d0, d1, d2, d3, d4, d5, d6, d7, d8, d9, d10, d11, d12, d13] : List Int).length : Int) ≤ k ∧ k < (([d0, d1, d2, d3, d4, d5, d6, d7, d8, d9, d10, d11, d12, d13] : List Int).length : Int) := fun k z => by show -(14 : Int) ≤ k ∧ k < (14 : Int); omega
  have gn : ∀ k : Int, 0 ≤ k ∧ k < 9 → -((NL w h d c s r a b l).length : Int) ≤ k ∧ k < ((NL w h d c s r a b l).length : Int) := fun k z => by show -(9 : Int) ≤ k ∧ k < (9 : Int); omega
  have ea : itD (NL w h d c s r a b l) 6 = a := rfl
  have el : itD (NL w h d c s r a b l) 8 = l := rfl
  have e13 : itD [d0, d1, d2, d3, d4, d5, d6, d7, d8, d9, d10, d11, d12, d13] 13 = d13 := rfl
  have e11 : itD [d0, d1, d2, d3, d4, d5, d6, d7, d8, d9, d10, d11, d12, d13] 11 = d11 := rfl
  unfold F__law_picture_k4
  rw [ea, el, e13, e11]
  refine Gv.grd (gd 0 (by decide)) (Gv.grd (gd 1 (by decide)) (Gv.bind (between_gv _ _ 0 999 (by decide)) fun nu hnu => Gv.grd (gd 3 (by decide)) (Gv.grd (gd 4 (by decide)) (Gv.bind (between_gv _ _ 0 31 (by decide)) fun lv hlv => Gv.grd (gd 11 (by decide)) (Gv.grd (gn 8 (by decide)) (Gv.grd (by omega) (Gv.grd (gd 12 (by decide)) (Gv.grd (gn 6 (by decide)) (Gv.grd (gd 13 (by decide)) (Gv.grd (.inl ⟨by omega, by omega⟩) (.ok ?_)))))))))))
  have m0 := Int.emod_nonneg d11 (show l ≠ 0 by omega)
  have m1 := Int.emod_lt_of_pos d11 (show 0 < l by omega)
  refine ⟨nu, kd, lv, st, rf, wt, d11 % l, _, a * (d13 - 6), rfl, hk, h1, h2, ⟨hnu, ?_, hlv, hw, ?_, ⟨m0, m1⟩, ?_, ?_, hs, hst, hrf⟩⟩
  · rcases k3 hk with rfl | rfl | rfl <;> decide +kernel
  · rcases hw2 with z | rfl
    · exact .inl z
    · exact .inr rfl
  · rcases (show a = 0 ∨ a = 1 by omega) with rfl | rfl <;> omega
  · rcases (show a = 0 ∨ a = 1 by omega) with rfl | rfl
    · exact .inl (Int.zero_mul _)
    · exact .inr rfl
theorem picture_gv (cell : Int) (ha : 0 ≤ a ∧ a ≤ 1) (hs : 1 ≤ s ∧ s ≤ 4) (hl : 1 ≤ l ∧ l ≤ 4) :
    Gv (F__law_picture cell (NL w h d c s r a b l)) (fun p => ∃ nu kd lv st rf wt ly sh ed, p = PL nu kd lv st rf wt ly sh ed ∧ (0 ≤ kd ∧ kd < 3) ∧ st.length ≤ 4 ∧ rf.length ≤ 4 ∧ HOk (setv w h d c s r a b l) nu (nm kd) lv st rf wt ly ed) := by
  unfold F__law_picture
  refine Gv.bind (draws_gv _ _ (by decide +kernel) (by decide +kernel)) fun v hv => ?_
  obtain ⟨d0, r0, rfl, _, _, hv⟩ := hv.cons
  obtain ⟨d1, r1, rfl, _, _, hv⟩ := hv.cons
  obtain ⟨d2, r2, rfl, b2, c2, hv⟩ := hv.cons
  obtain ⟨d3, r3, rfl, _, _, hv⟩ := hv.cons
  obtain ⟨d4, r4, rfl, _, _, hv⟩ := hv.cons
  obtain ⟨d5, r5, rfl, _, _, hv⟩ := hv.cons
  obtain ⟨d6, r6, rfl, _, _, hv⟩ := hv.cons
  obtain ⟨d7, r7, rfl, _, _, hv⟩ := hv.cons
  obtain ⟨d8, r8, rfl, _, _, hv⟩ := hv.cons
  obtain ⟨d9, r9, rfl, _, _, hv⟩ := hv.cons
  obtain ⟨d10, r10, rfl, _, _, hv⟩ := hv.cons
  obtain ⟨d11, r11, rfl, _, _, hv⟩ := hv.cons
  obtain ⟨d12, r12, rfl, _, _, hv⟩ := hv.cons
  obtain ⟨d13, r13, rfl, b13, c13, hv⟩ := hv.cons
  obtain rfl := hv.nil
  generalize hD : ([d0, d1, d2, d3, d4, d5, d6, d7, d8, d9, d10, d11, d12, d13] : List Int) = D
  have gd : ∀ k : Int, 0 ≤ k ∧ k < 14 → -((D : List Int).length : Int) ≤ k ∧ k < ((D : List Int).length : Int) := fun k z => by rw [← hD]; show -(14 : Int) ≤ k ∧ k < (14 : Int); omega
  have gn : ∀ k : Int, 0 ≤ k ∧ k < 9 → -((NL w h d c s r a b l).length : Int) ≤ k ∧ k < ((NL w h d c s r a b l).length : Int) := fun k z => by show -(9 : Int) ≤ k ∧ k < (9 : Int); omega
  have es : itD (NL w h d c s r a b l) 4 = s := rfl
  have e2 : itD D 2 = d2 := by rw [← hD]; rfl
  rw [es, e2]
  have fm : mapF (rng 0 (Int.toNat s)) [] (fun x => noEr (F__law_picture_c1 D x)) = .ok ((rng 0 (Int.toNat s)).filter fun x => decide (PySem.Builtin.bitAnd (itD D 5 / 2 ^ Int.toNat x) 1 = 1)) := by
    rw [mapF_pure (g := fun x => if decide (PySem.Builtin.bitAnd (itD D 5 / 2 ^ Int.toNat x) 1 = 1) = true then some x else none) (fun x hx => ?_) (by rw [rng_len]; show 0 + _ ≤ _; omega), List.nil_append, fm_filter]
    have := rng_mem hx
    unfold F__law_picture_c1
    rw [grd_pos (gd 5 (by decide)), grd_pos this.1]
    by_cases z : PySem.Builtin.bitAnd (itD D 5 / 2 ^ Int.toNat x) 1 = 1
    · rw [if_pos z, if_pos (decide_eq_true z)]; rfl
    · rw [if_neg z, if_neg (by rw [decide_eq_true_iff]; exact z)]; rfl
  refine Gv.grd (gd 2 (by decide)) (Gv.bnd fun kd hkd => Gv.grd (gn 4 (by decide)) (Gv.grd ⟨by omega, by omega⟩ (Gv.bind_eq fm (Gv.grd (gd 7 (by decide)) (Gv.grd (gn 4 (by decide)) (Gv.grd (by omega) (Gv.grd (gd 8 (by decide)) (Gv.grd (gn 4 (by decide)) (Gv.grd (by omega) ?_)))))))))
  subst hkd
  generalize hst : (rng 0 (Int.toNat s)).filter (fun x => decide (PySem.Builtin.bitAnd (itD D 5 / 2 ^ Int.toNat x) 1 = 1)) = st
  have s1 : st.length ≤ 4 := by
    rw [← hst]
    refine Nat.le_trans (List.length_filter_le _ _) ?_
    rw [rng_len]
    omega
  have s2 : ∀ x ∈ st, 0 ≤ x ∧ x < s := fun x hx => by
    rw [← hst] at hx
    have := rng_mem (List.mem_filter.mp hx).1
    omega
  have s3 : st = sortSet st := sortSet_of (by rw [← hst]; exact (rng_pw _).filter _) fun _ => Iff.rfl
  have m : ∀ z : Int, 0 ≤ z % s ∧ z % s < s := fun z => ⟨Int.emod_nonneg z (by omega), Int.emod_lt_of_pos z (by omega)⟩
  refine Gv.bind (P := fun rf => (kd = 0 ∧ rf = []) ∨ (kd ≠ 0 ∧ ∃ x y, rf = [x, y] ∧ (0 ≤ x ∧ x < s) ∧ 0 ≤ y ∧ y < s)) (Gv.ite (fun z => .ok (.inl ⟨z, rfl⟩)) fun z => .ok (.inr ⟨z, _, _, rfl, m _, m _⟩)) fun rf hrf => ?_
  unfold F__law_picture_k2
  refine Gv.bind (P := fun rf => rf.length ≤ 4 ∧ (∀ x ∈ rf, 0 ≤ x ∧ x < s) ∧ (rf.length : Int) ∈ dictG CNT (nm kd)) ?_ fun rf hrf => ?_
  · have base : ¬ (kd = 1) → rf.length ≤ 4 ∧ (∀ x ∈ rf, 0 ≤ x ∧ x < s) ∧ (rf.length : Int) ∈ dictG CNT (nm kd) := fun n1 => by
      rcases hrf with ⟨z, rfl⟩ | ⟨z, x, y, rfl, hx, hy⟩
      · subst z
        exact ⟨by decide, fun x hx => (List.not_mem_nil hx).elim, by decide +kernel⟩
      · have : kd = 2 := by omega
        subst this
        refine ⟨by show 2 ≤ 4; decide, fun u hu => ?_, ?_⟩
        · simp only [List.mem_cons, List.not_mem_nil, or_false] at hu
          rcases hu with rfl | rfl <;> assumption
        · show (2 : Int) ∈ _
          decide +kernel
    refine Gv.ite (fun z => Gv.grd (gd 6 (by decide)) ?_) fun z => .ok (base z)
    subst z
    rcases hrf with ⟨z, _⟩ | ⟨_, x, y, rfl, hx, hy⟩
    · cases z
    refine Gv.ite (fun _ => .ok ?_) fun _ => .ok ?_
    · show ([x] : List Int).length ≤ 4 ∧ (∀ u ∈ ([x] : List Int), 0 ≤ u ∧ u < s) ∧ (1 : Int) ∈ dictG CNT (nm 1)
      refine ⟨by show 1 ≤ 4; decide, fun u hu => ?_, by decide +kernel⟩
      rw [List.mem_singleton.mp hu]; exact hx
    · refine ⟨by show 2 ≤ 4; decide, fun u hu => ?_, ?_⟩
      · simp only [List.mem_cons, List.not_mem_nil, or_false] at hu
        rcases hu with rfl | rfl <;> assumption
      · show (2 : Int) ∈ _
        decide +kernel
  unfold F__law_picture_k3
  refine Gv.bind (P := fun wt => (0 ≤ wt ∧ wt ≤ 16) ∧ (wt = 8 ∨ kd = 2)) (Gv.ite (fun z => Gv.grd (gd 9 (by decide)) (Gv.grd (gd 10 (by decide)) (Gv.bind (between_gv _ _ 0 16 (by decide)) fun u hu => .ok ⟨hu, .inr z⟩))) fun _ => .ok ⟨by decide, .inl rfl⟩) fun wt hwt => ?_
  exact k4_gv hD.symm ⟨b13, c13⟩ ha hl ⟨b2, c2⟩ hwt.1 hwt.2 (fun x hx => (List.mem_append.mp hx).elim (s2 x) (hrf.2.1 x)) s3 hrf.2.2 s1 hrf.1
theorem header_ok {nu kd lv wt ly sh ed : Int} {st rf : List Int} {S : St_Settings} (hk : 0 ≤ kd ∧ kd < 3) (h1 : st.length ≤ 4) (h2 : rf.length ≤ 4) (H : HOk S nu (nm kd) lv st rf wt ly ed) :
    F__law_header S (PL nu kd lv st rf wt ly sh ed) = .ok ⟨nu, nm kd, lv, st, rf, wt, ly, decide (sh = 1), ed⟩ := by
  have gp : ∀ k : Int, 0 ≤ k ∧ k < 9 → -((PL nu kd lv st rf wt ly sh ed).length : Int) ≤ k ∧ k < ((PL nu kd lv st rf wt ly sh ed).length : Int) := fun k z => by show -(9 : Int) ≤ k ∧ k < (9 : Int); omega
  have e3 : (cL cI).dec (itD (PL nu kd lv st rf wt ly sh ed) 3) = st := de_L st
  have e4 : (cL cI).dec (itD (PL nu kd lv st rf wt ly sh ed) 4) = rf := de_L rf
  unfold F__law_header
  rw [e3, e4]
  refine Gv.get (Gv.grd (gp 1 (by decide)) (Gv.grd rfl (Gv.grd (by show -(3 : Int) ≤ kd ∧ kd < 3; omega) (Gv.grd (gp 0 (by decide)) (Gv.grd rfl (Gv.grd (gp 2 (by decide)) (Gv.grd rfl (Gv.grd (gp 3 (by decide)) (Gv.grd (ok_L st) (Gv.grd (gp 4 (by decide)) (Gv.grd (ok_L rf) (Gv.grd (gp 5 (by decide)) (Gv.grd rfl (Gv.grd (gp 6 (by decide)) (Gv.grd rfl (Gv.grd (gp 7 (by decide)) (Gv.grd rfl (Gv.grd (gp 8 (by decide)) (Gv.grd rfl ?_)))))))))))))))))))
  exact Gv.bind_eq (pic_ok (sh := decide (sh = 1)) (by omega) (by omega) H) (.ok rfl)
end
theorem set_refused {w h d c s r a b l sl ro la : Int} (hw : 1 ≤ w ∧ w ≤ 256) (hh : 1 ≤ h ∧ h ≤ 256) (hd : 8 ≤ d ∧ d ≤ 12) (hc : 0 ≤ c ∧ c ≤ 2) (hb : ¬ ((1 ≤ sl ∧ sl ≤ 4) ∧ (1 ≤ ro ∧ ro ≤ 32) ∧ (1 ≤ la ∧ la ≤ 4))) : F__law_settings_refused (NL w h d c s r a b l) sl ro la = .ok true := by
  have gn : ∀ k : Int, 0 ≤ k ∧ k < 9 → -((NL w h d c s r a b l).length : Int) ≤ k ∧ k < ((NL w h d c s r a b l).length : Int) := fun k z => by show -(9 : Int) ≤ k ∧ k < (9 : Int); omega
  have e : F_Format___init__ w h d c = .ok ⟨w, h, d, c⟩ := by
    unfold F_Format___init__
    rw [if_pos hw.1, if_pos hw.2, if_pos hh.1, if_pos hh.2, if_pos hd.1, if_pos hd.2, if_pos hc.1, if_pos hc.2]
  unfold F__law_settings_refused
  refine Gv.get (Gv.grd (gn 0 (by decide)) (Gv.grd (gn 1 (by decide)) (Gv.grd (gn 2 (by decide)) (Gv.grd (gn 3 (by decide)) (Gv.bind_eq e ?_)))))
  refine Gv.tryEr (e := 3) ?_ (by simp) (.ok rfl)
  unfold F_Settings___init__
  rw [rq_req, rq_req, rq_req]
  cases e1 : (decide (1 ≤ sl) && decide (sl ≤ 4)) with
  | false => rfl
  | true =>
    cases e2 : (decide (1 ≤ ro) && decide (ro ≤ 32)) with
    | false => rfl
    | true =>
      cases e3 : (decide (1 ≤ la) && decide (la ≤ 4)) with
      | false => rfl
      | true =>
        rw [Bool.and_eq_true, decide_eq_true_iff, decide_eq_true_iff] at e1 e2 e3
        exact absurd ⟨e1, e2, e3⟩ hb
section
variable {w h d c s r a b l : Int}
theorem slice_init {n i q : Int} (hr : 1 ≤ r ∧ r ≤ 32) : F_SliceHeader___init__ (setv w h d c s r a b l) n i q = (rq ((decide (0 ≤ n) && decide (n ≤ 999)) && ((decide (0 ≤ i) && decide (i < ((h + 7) / 8 + r - 1) / r)) && (decide (-31 ≤ q) && decide (q ≤ 31))))).bind fun _ => .ok ⟨n, i, q⟩ := by
  unfold F_SliceHeader___init__
  rw [slices_ok hr, rq_req]
  cases (decide (0 ≤ n) && decide (n ≤ 999))
  · rfl
  · show (if 0 ≤ i then _ else _ : Rx Unit).bind _ = _
    by_cases hi : 0 ≤ i
    · rw [if_pos hi, bind_ok, decide_eq_true hi]
      show ((rq (decide (i < ((h + 7) / 8 + r - 1) / r))).bind _).bind _ = _
      cases decide (i < ((h + 7) / 8 + r - 1) / r)
      · rfl
      · show F_SliceHeader___init___k1 n i q = _
        unfold F_SliceHeader___init___k1
        rw [rq_req]
        cases (decide (-31 ≤ q) && decide (q ≤ 31)) <;> rfl
    · rw [if_neg hi, decide_eq_false hi]
      rfl
theorem slice_refused {n i q : Int} (hr : 1 ≤ r ∧ r ≤ 32) (hb : ¬ ((0 ≤ n ∧ n ≤ 999) ∧ (0 ≤ i ∧ i < ((h + 7) / 8 + r - 1) / r) ∧ (-31 ≤ q ∧ q ≤ 31))) : F__law_slice_refused (setv w h d c s r a b l) n i q = .ok true := by
  unfold F__law_slice_refused
  have e : F_SliceHeader___init__ (setv w h d c s r a b l) n i q = .er 3 := by
    rw [slice_init hr]
    cases z : ((decide (0 ≤ n) && decide (n ≤ 999)) && ((decide (0 ≤ i) && decide (i < ((h + 7) / 8 + r - 1) / r)) && (decide (-31 ≤ q) && decide (q ≤ 31)))) with
    | false => rfl
    | true =>
      simp only [Bool.and_eq_true, decide_eq_true_iff] at z
      exact absurd z hb
  rw [e, tryR_er (by simp)]
theorem name_not {nm' : Str} (h : ¬ (nm' ∈ ([("I" : Str), ("P" : Str), ("B" : Str)] : List Str))) {nu kd lv wt ly sh ed : Int} {st rf : List Int} {S : St_Settings} (h1 : st.length ≤ 4) (h2 : rf.length ≤ 4) : F__law_picture_refused S (PL nu kd lv st rf wt ly sh ed) nm' = .ok true :=
  refused_bad ⟨nu, kd, lv, st, rf, wt, ly, sh, ed, rfl, by omega, by omega, fun z => h z.kind⟩
end
theorem law_true (xs : List Int) (hx : xs.length ≤ 63) : F_law xs = .ok true := by
  refine Gv.get ?_
  unfold F_law
  refine Gv.bind (cell_gv xs 0 (by decide)) fun cell _ => Gv.bind (numbers_gv cell) fun n hn => Gv.bind (cell_gv xs 2 (by decide)) fun cell2 _ => ?_
  obtain ⟨w, h, d, c, s, r, a, b, l, rfl, hw, hh, hd, hc, hs, hr, hl, ha, hb⟩ := hn
  refine Gv.bind (draws_gv _ _ (by decide +kernel) (by decide +kernel)) fun v hv => ?_
  obtain ⟨f0, r0, rfl, hf0, _, hv⟩ := hv.cons
  obtain rfl := hv.nil
  refine Gv.grd (by show -(1 : Int) ≤ 0 ∧ (0 : Int) < 1; decide) (Gv.bnd fun far hfar => ?_)
  have hfar : 1 ≤ far := by have e : itD [f0] 0 = f0 := rfl; rw [e] at hfar; omega
  have set1 : ∀ sl ro la : Int, ¬ ((1 ≤ sl ∧ sl ≤ 4) ∧ (1 ≤ ro ∧ ro ≤ 32) ∧ (1 ≤ la ∧ la ≤ 4)) → F_law_b1 (NL w h d c s r a b l) (sl, ro, la) = .ok (.go ()) := fun sl ro la z => by
    unfold F_law_b1
    rw [set_refused hw hh hd hc z, bind_ok, if_pos rfl]
  refine Gv.bind_eq (a := .go ()) (forR_unit fun x hx => ?_) ?_
  · simp only [List.mem_cons, List.not_mem_nil, or_false] at hx
    rcases hx with rfl | rfl | rfl | rfl | rfl | rfl | rfl | rfl <;> exact set1 _ _ _ (by omega)
  show Gv (F_law_r1 xs (NL w h d c s r a b l) far) _
  unfold F_law_r1
  refine Gv.bind_eq (settings_ok hw hh hd hc hs hr hl) (Gv.bind (cell_gv xs 1 (by decide)) fun cell3 _ => Gv.bind (picture_gv cell3 ha hs hl) fun p hp => ?_)
  obtain ⟨nu, kd, lv, st, rf, wt, ly, sh, ed, rfl, hk, h1, h2, H⟩ := hp
  have ek : cI.dec (itD (PL nu kd lv st rf wt ly sh ed) 1) = kd := rfl
  rw [ek]
  refine Gv.grd (by show -(9 : Int) ≤ 1 ∧ (1 : Int) < 9; decide) (Gv.grd rfl (Gv.grd (by show -(3 : Int) ≤ kd ∧ kd < 3; omega) (Gv.bind_eq (header_ok hk h1 h2 H) (Gv.pos rfl (Gv.bind (head_gv hk h1 h2 hs hl hfar) fun fs hfs => ?_)))))
  refine Gv.bind_eq (a := .go ()) (forR_unit fun x hx => ?_) ?_
  · unfold F_law_b2
    have e : F__law_picture_refused (setv w h d c s r a b l) x (nm kd) = .ok true := refused_bad (hfs x hx)
    show (F__law_picture_refused (setv w h d c s r a b l) x (nm kd)).bind _ = _
    rw [e, bind_ok, if_pos rfl]
  show Gv (F_law_r2 far (setv w h d c s r a b l) (PL nu kd lv st rf wt ly sh ed)) _
  unfold F_law_r2
  have names : ∀ x : Str, ¬ (x ∈ ([("I" : Str), ("P" : Str), ("B" : Str)] : List Str)) → F_law_b3 (setv w h d c s r a b l) (PL nu kd lv st rf wt ly sh ed) x = .ok (.go ()) := fun x z => by
    unfold F_law_b3
    rw [name_not z h1 h2, bind_ok, if_pos rfl]
  refine Gv.bind_eq (a := .go ()) (forR_unit fun x hx => ?_) ?_
  · simp only [List.mem_cons, List.not_mem_nil, or_false] at hx
    rcases hx with rfl | rfl | rfl | rfl | rfl | rfl | rfl <;> exact names _ (by decide +kernel)
  show Gv (F_law_r3 far (setv w h d c s r a b l) (PL nu kd lv st rf wt ly sh ed)) _
  unfold F_law_r3
  have cpos : 1 ≤ ((h + 7) / 8 + r - 1) / r := by
    rw [Int.le_ediv_iff_mul_le (by omega)]
    omega
  have sl1 : ∀ n i q : Int, ¬ ((0 ≤ n ∧ n ≤ 999) ∧ (0 ≤ i ∧ i < ((h + 7) / 8 + r - 1) / r) ∧ (-31 ≤ q ∧ q ≤ 31)) → F_law_b4 (setv w h d c s r a b l) (n, i, q) = .ok (.go ()) := fun n i q z => by
    unfold F_law_b4
    rw [slice_refused hr z, bind_ok, if_pos rfl]
  refine Gv.bind_eq (slices_ok hr) ?_
  generalize hcnt : ((h + 7) / 8 + r - 1) / r = cnt at cpos sl1
  refine Gv.bind_eq (a := .go ()) (forR_unit fun x hx => ?_) ?_
  · simp only [List.mem_cons, List.not_mem_nil, or_false] at hx
    rcases hx with rfl | rfl | rfl | rfl | rfl | rfl <;> exact sl1 _ _ _ (by omega)
  show Gv (F_law_r4 (setv w h d c s r a b l) (PL nu kd lv st rf wt ly sh ed) cnt) _
  unfold F_law_r4
  have e0 : cI.dec (itD (PL nu kd lv st rf wt ly sh ed) 0) = nu := rfl
  rw [e0, slice_init hr, hcnt]
  refine Gv.grd (by show -(9 : Int) ≤ 0 ∧ (0 : Int) < 9; decide) (Gv.grd rfl ?_)
  have t : ((decide (0 ≤ nu) && decide (nu ≤ 999)) && ((decide (0 ≤ cnt - 1) && decide (cnt - 1 < cnt)) && (decide (-31 ≤ (-31 : Int)) && decide ((-31 : Int) ≤ 31)))) = true := by
    simp only [Bool.and_eq_true, decide_eq_true_iff]
    exact ⟨H.num, ⟨by omega, by omega⟩, by decide, by decide⟩
  rw [t]
  exact .ok rfl

end Vx
namespace Vx
open PySem PySem.Spec PyProof.Rows L2
def topS (i : Nat) : Stmt := PySem.Challenge.pw_thaumatrope_k24_headers_refused.main.body.getD i (.Pass ⟨0, 0, 0, 0⟩)
abbrev s__law_draws : Stmt := topS 23
abbrev s__law_between : Stmt := topS 24
abbrev s__law_numbers : Stmt := topS 25
abbrev s_Format___init__ : Stmt := inClass (topS 8) 0
abbrev s__require : Stmt := topS 18
abbrev s_Settings___init__ : Stmt := inClass (topS 15) 0
abbrev s__law_settings : Stmt := topS 26
abbrev s__law_picture : Stmt := topS 27
abbrev s__law_with : Stmt := topS 32
abbrev s__law_faults : Stmt := topS 33
abbrev s__law_cell : Stmt := topS 22
abbrev s_Format_blocks : Stmt := inClass (topS 8) 7
abbrev s_Settings_slices : Stmt := inClass (topS 15) 2
abbrev s__law_settings_refused : Stmt := topS 29
abbrev s__check_numbers : Stmt := topS 19
abbrev s__check_slots : Stmt := topS 20
abbrev s_PictureHeader___init__ : Stmt := inClass (topS 16) 0
abbrev s__law_header : Stmt := topS 28
abbrev s__law_picture_refused : Stmt := topS 30
abbrev s_SliceHeader___init__ : Stmt := inClass (topS 17) 0
abbrev s__law_slice_refused : Stmt := topS 31
abbrev s_law : Stmt := topS 34
structure Ads where
  td_PictureHeader___init___store : Addr
  td_PictureHeader___init___refs : Addr
  c_Format : Addr
  c_Settings : Addr
  c_PictureHeader : Addr
  c_SliceHeader : Addr
  x_CodecError : Addr
  x_BadFormat : Addr
  x_OutOfRange : Addr
  x_BadHeader : Addr
  t_KINDS : Addr
  t_REF_COUNTS : Addr
  t_REF_COUNTS_0 : Addr
  t_REF_COUNTS_1 : Addr
  t_REF_COUNTS_2 : Addr
  z0 : Addr
def excA (AD : Ads) : Nat → Addr
  | 0 => AD.x_CodecError
  | 1 => AD.x_BadFormat
  | 2 => AD.x_OutOfRange
  | 3 => AD.x_BadHeader
  | _ => AD.z0
structure Txt (w : World) (K : PySem.W.Frag) (mg : Str → Option Value) (AD : Ads) : Prop where
  b_abs : mg "abs" = none
  b_int : mg "int" = none
  b_min : mg "min" = none
  b_range : mg "range" = none
  b_len : mg "len" = none
  g_BLOCK : ∃ u, mg "BLOCK" = some u ∧ RelV (V.int 8) u
  b_isinstance : mg "isinstance" = none
  g_GREATEST_NUMBER : ∃ u, mg "GREATEST_NUMBER" = some u ∧ RelV (V.int 999) u
  g_KINDS : ∃ u, mg "KINDS" = some u ∧ RelV (V.ref AD.t_KINDS) u
  ts_KINDS : ∀ H, SqT K H AD.t_KINDS ((["I", "P", "B"] : List Str).map V.str)
  g_GREATEST_LEVEL : ∃ u, mg "GREATEST_LEVEL" = some u ∧ RelV (V.int 31) u
  g_EVEN_WEIGHT : ∃ u, mg "EVEN_WEIGHT" = some u ∧ RelV (V.int 8) u
  b_sorted : mg "sorted" = none
  b_set : mg "set" = none
  g_REF_COUNTS : ∃ u, mg "REF_COUNTS" = some u ∧ RelV (V.ref AD.t_REF_COUNTS) u
  kd_REF_COUNTS : KDA K w AD.t_REF_COUNTS ([("I", AD.t_REF_COUNTS_0), ("P", AD.t_REF_COUNTS_1), ("B", AD.t_REF_COUNTS_2)] : List (Str × Addr))
  th_REF_COUNTS : ∀ z, hasG ([("I", [0]), ("P", [1, 2]), ("B", [2])] : List (Str × List Int)) z = true → hasG ([("I", AD.t_REF_COUNTS_0), ("P", AD.t_REF_COUNTS_1), ("B", AD.t_REF_COUNTS_2)] : List (Str × Addr)) z = true
  tt_REF_COUNTS : ∀ z, hasG ([("I", [0]), ("P", [1, 2]), ("B", [2])] : List (Str × List Int)) z = true → ∀ H, SqT K H (dictG ([("I", AD.t_REF_COUNTS_0), ("P", AD.t_REF_COUNTS_1), ("B", AD.t_REF_COUNTS_2)] : List (Str × Addr)) z) ((dictG ([("I", [0]), ("P", [1, 2]), ("B", [2])] : List (Str × List Int)) z).map V.int)
  b_list : mg "list" = none
  b_tuple : mg "tuple" = none
  td_PictureHeader___init___store : ∀ H, SqT K H AD.td_PictureHeader___init___store (([] : List Int).map V.int)
  td_PictureHeader___init___refs : ∀ H, SqT K H AD.td_PictureHeader___init___refs (([] : List Int).map V.int)
  cl_Format : Cls K AD.c_Format
  n_Format_width : NoAttr K AD.c_Format "width"
  n_Format_height : NoAttr K AD.c_Format "height"
  n_Format_depth : NoAttr K AD.c_Format "depth"
  n_Format_chroma : NoAttr K AD.c_Format "chroma"
  cl_Settings : Cls K AD.c_Settings
  n_Settings_fmt : NoAttr K AD.c_Settings "fmt"
  n_Settings_slots : NoAttr K AD.c_Settings "slots"
  n_Settings_rows : NoAttr K AD.c_Settings "rows"
  n_Settings_deblock : NoAttr K AD.c_Settings "deblock"
  n_Settings_offset : NoAttr K AD.c_Settings "offset"
  n_Settings_layers : NoAttr K AD.c_Settings "layers"
  cl_PictureHeader : Cls K AD.c_PictureHeader
  n_PictureHeader_number : NoAttr K AD.c_PictureHeader "number"
  n_PictureHeader_kind : NoAttr K AD.c_PictureHeader "kind"
  n_PictureHeader_level : NoAttr K AD.c_PictureHeader "level"
  n_PictureHeader_store : NoAttr K AD.c_PictureHeader "store"
  n_PictureHeader_refs : NoAttr K AD.c_PictureHeader "refs"
  n_PictureHeader_weight : NoAttr K AD.c_PictureHeader "weight"
  n_PictureHeader_layer : NoAttr K AD.c_PictureHeader "layer"
  n_PictureHeader_shown : NoAttr K AD.c_PictureHeader "shown"
  n_PictureHeader_edge : NoAttr K AD.c_PictureHeader "edge"
  cl_SliceHeader : Cls K AD.c_SliceHeader
  n_SliceHeader_number : NoAttr K AD.c_SliceHeader "number"
  n_SliceHeader_index : NoAttr K AD.c_SliceHeader "index"
  n_SliceHeader_delta : NoAttr K AD.c_SliceHeader "delta"
  xg_BadFormat : mg "BadFormat" = some (.ref AD.x_BadFormat)
  xx_BadFormat : PySem.W.excIn K AD.x_BadFormat [.type "ValueError", .type "Exception", .type "BaseException", .type "object"] "ValueError.__new__" = true
  xk_BadFormat : PySem.W.keepIn K (.ref AD.x_BadFormat) = true
  xb_BadFormat : PySem.W.subIn K (.ref AD.x_BadFormat) (.type "BaseException") = some true
  xt_BadFormat : PySem.W.typeIn K (.ref AD.x_BadFormat) = some (.type "type")
  xg_BadHeader : mg "BadHeader" = some (.ref AD.x_BadHeader)
  xx_BadHeader : PySem.W.excIn K AD.x_BadHeader [.type "ValueError", .type "Exception", .type "BaseException", .type "object"] "ValueError.__new__" = true
  xk_BadHeader : PySem.W.keepIn K (.ref AD.x_BadHeader) = true
  xb_BadHeader : PySem.W.subIn K (.ref AD.x_BadHeader) (.type "BaseException") = some true
  xt_BadHeader : PySem.W.typeIn K (.ref AD.x_BadHeader) = some (.type "type")
  xg_CodecError : mg "CodecError" = some (.ref AD.x_CodecError)
  xx_CodecError : PySem.W.excIn K AD.x_CodecError [.type "ValueError", .type "Exception", .type "BaseException", .type "object"] "ValueError.__new__" = true
  xk_CodecError : PySem.W.keepIn K (.ref AD.x_CodecError) = true
  xb_CodecError : PySem.W.subIn K (.ref AD.x_CodecError) (.type "BaseException") = some true
  xt_CodecError : PySem.W.typeIn K (.ref AD.x_CodecError) = some (.type "type")
  xm_BadHeader_BadHeader : PySem.W.exmOne K (.ref AD.x_BadHeader) (.ref AD.x_BadHeader) = some true
  xo_BadHeader_CodecError : PySem.W.kitOne K (.ref AD.x_BadHeader) (.ref AD.x_CodecError) = some true
  xn_BadHeader_BadFormat : PySem.W.kitOne K (.ref AD.x_BadHeader) (.ref AD.x_BadFormat) = some false
  xc_BadHeader : ExcC K AD.x_BadHeader
abbrev pat__law_draws_0 : Pat := (2, [], fun vs _ => vs)
abbrev pats__law_draws : List Pat := [pat__law_draws_0]
abbrev pat__law_between_0 : Pat := (4, [], fun vs _ => vs)
abbrev pats__law_between : List Pat := [pat__law_between_0]
abbrev pat__law_numbers_0 : Pat := (1, [], fun vs _ => vs)
abbrev pats__law_numbers : List Pat := [pat__law_numbers_0]
abbrev pat_Format___init___0 : Pat := (3, ["depth", "chroma"], fun vs zs => match vs, zs with | [a0, a1, a2], [b0, b1] => [a0, a1, a2, b0, b1] | _, _ => [])
abbrev pats_Format___init__ : List Pat := [pat_Format___init___0]
abbrev pat__require_0 : Pat := (2, [], fun vs _ => vs)
abbrev pats__require : List Pat := [pat__require_0]
abbrev pat_Settings___init___0 : Pat := (2, ["slots", "rows", "deblock", "offset", "layers"], fun vs zs => match vs, zs with | [a0, a1], [b0, b1, b2, b3, b4] => [a0, a1, b0, b1, b2, b3, b4] | _, _ => [])
def gk_Settings___init___1 {α : Type} (us mz ws : List α) : List α := match us, mz, ws with | [a0, a1], [m0, m1], [b0, b1, b2] => [a0, a1, b0, b1, m0, m1, b2] | _, _, _ => []
theorem gknil_Settings___init___1 {α : Type} {us mz ws : List α} (h : us.length ≠ 2 ∨ mz.length ≠ 2 ∨ ws.length ≠ 3) : gk_Settings___init___1 us mz ws = [] := by
  unfold gk_Settings___init___1
  split
  · simp at h
  · rfl
theorem gkrel_Settings___init___1 {vs mz zs : List V} {us mv ws : List Value} (r : Vals vs us) (s : Vals mz mv) (q : Vals zs ws) : Vals (gk_Settings___init___1 vs mz zs) (gk_Settings___init___1 us mv ws) := by
  by_cases h1 : vs.length = 2
  · by_cases h2 : mz.length = 2
    · by_cases h3 : zs.length = 3
      · obtain ⟨a0, a1, rfl⟩ := len2 h1
        obtain ⟨m0, m1, rfl⟩ := len2 h2
        obtain ⟨b0, b1, b2, rfl⟩ := len3 h3
        cases r with | cons r0 r =>
          cases r with | cons r1 r =>
            cases r
            cases s with | cons s0 s =>
              cases s with | cons s1 s =>
                cases s
                cases q with | cons q0 q =>
                  cases q with | cons q1 q =>
                    cases q with | cons q2 q =>
                      cases q
                      exact (.cons r0 (.cons r1 (.cons q0 (.cons q1 (.cons s0 (.cons s1 (.cons q2 .nil)))))))
      · have k : ws.length ≠ 3 := fun z => h3 (q.length.trans z)
        rw [gknil_Settings___init___1 (by first | exact .inl h3 | exact .inr (.inl h3) | exact .inr (.inr h3)), gknil_Settings___init___1 (by first | exact .inl k | exact .inr (.inl k) | exact .inr (.inr k))]
        exact .nil
    · have k : mv.length ≠ 2 := fun z => h2 (s.length.trans z)
      rw [gknil_Settings___init___1 (by first | exact .inl h2 | exact .inr (.inl h2) | exact .inr (.inr h2)), gknil_Settings___init___1 (by first | exact .inl k | exact .inr (.inl k) | exact .inr (.inr k))]
      exact .nil
  · have k : us.length ≠ 2 := fun z => h1 (r.length.trans z)
    rw [gknil_Settings___init___1 (by first | exact .inl h1 | exact .inr (.inl h1) | exact .inr (.inr h1)), gknil_Settings___init___1 (by first | exact .inl k | exact .inr (.inl k) | exact .inr (.inr k))]
    exact .nil
abbrev pat_Settings___init___1 : Pat := (2, ["slots", "rows", "layers"], fun vs zs => gk_Settings___init___1 vs [V.bl false, V.bl false] zs)
abbrev pats_Settings___init__ : List Pat := [pat_Settings___init___0, pat_Settings___init___1]
abbrev pat__law_settings_0 : Pat := (1, [], fun vs _ => vs)
abbrev pats__law_settings : List Pat := [pat__law_settings_0]
abbrev pat__law_picture_0 : Pat := (2, [], fun vs _ => vs)
abbrev pats__law_picture : List Pat := [pat__law_picture_0]
abbrev pat__law_with_0 : Pat := (3, [], fun vs _ => vs)
abbrev pats__law_with : List Pat := [pat__law_with_0]
abbrev pat__law_faults_0 : Pat := (3, [], fun vs _ => vs)
abbrev pats__law_faults : List Pat := [pat__law_faults_0]
abbrev pat__law_cell_0 : Pat := (2, [], fun vs _ => vs)
abbrev pats__law_cell : List Pat := [pat__law_cell_0]
abbrev pat_Format_blocks_0 : Pat := (1, [], fun vs _ => vs)
abbrev pats_Format_blocks : List Pat := [pat_Format_blocks_0]
abbrev pat_Settings_slices_0 : Pat := (1, [], fun vs _ => vs)
abbrev pats_Settings_slices : List Pat := [pat_Settings_slices_0]
abbrev pat__law_settings_refused_0 : Pat := (4, [], fun vs _ => vs)
abbrev pats__law_settings_refused : List Pat := [pat__law_settings_refused_0]
abbrev pat__check_numbers_0 : Pat := (2, [], fun vs _ => vs)
abbrev pats__check_numbers : List Pat := [pat__check_numbers_0]
abbrev pat__check_slots_0 : Pat := (2, [], fun vs _ => vs)
abbrev pats__check_slots : List Pat := [pat__check_slots_0]
abbrev pat_PictureHeader___init___0 (AD : Ads) : Pat := (2, ["number", "kind", "level", "store", "refs", "weight", "layer", "shown", "edge"], fun vs zs => match vs, zs with | [a0, a1], [b0, b1, b2, b3, b4, b5, b6, b7, b8] => [a0, a1, b0, b1, b2, b3, b4, b5, b6, b7, b8] | _, _ => [])
abbrev pats_PictureHeader___init__ (AD : Ads) : List Pat := [pat_PictureHeader___init___0 AD]
abbrev pat__law_header_0 : Pat := (2, [], fun vs _ => vs)
abbrev pats__law_header : List Pat := [pat__law_header_0]
abbrev pat__law_picture_refused_0 : Pat := (3, [], fun vs _ => vs)
abbrev pats__law_picture_refused : List Pat := [pat__law_picture_refused_0]
abbrev pat_SliceHeader___init___0 : Pat := (2, ["number", "index", "delta"], fun vs zs => match vs, zs with | [a0, a1], [b0, b1, b2] => [a0, a1, b0, b1, b2] | _, _ => [])
abbrev pats_SliceHeader___init__ : List Pat := [pat_SliceHeader___init___0]
abbrev pat__law_slice_refused_0 : Pat := (4, [], fun vs _ => vs)
abbrev pats__law_slice_refused : List Pat := [pat__law_slice_refused_0]
abbrev pats_law : List Pat := []
def sp__law_draws (K : PySem.W.Frag) (AD : Ads) : Sp := fun vs H Q E => ∃ (G : Hp) (cell' : Int) (a_limits : Addr) (limits' : List Int), vs = [.int cell', .ref a_limits] ∧ Same G H ∧ (hideL [] H) a_limits = some (.lst ((limits' : List Int).map V.int)) ∧ cW (F__law_draws cell' limits') (fun v => ∀ p H', H p = none → Same H H' → H' p = some (.lst (v.map V.int)) → Q (.ref p) H') (fun e => ∀ H', Same H H' → E (.ref (excA AD e)) none H')
def sp__law_between (K : PySem.W.Frag) (AD : Ads) : Sp := fun vs H Q E => ∃ (G : Hp) (first' : Int) (second' : Int) (low' : Int) (high' : Int), vs = [.int first', .int second', .int low', .int high'] ∧ Same G H ∧ cW (F__law_between first' second' low' high') (fun v => Q (.int v) H) (fun e => E (.ref (excA AD e)) none H)
def sp__law_numbers (K : PySem.W.Frag) (AD : Ads) : Sp := fun vs H Q E => ∃ (G : Hp) (cell' : Int), vs = [.int cell'] ∧ Same G H ∧ cW (F__law_numbers cell') (fun v => ∀ p H', H p = none → Same H H' → H' p = some (.lst (v.map V.int)) → Q (.ref p) H') (fun e => ∀ H', Same H H' → E (.ref (excA AD e)) none H')
def sp_Format___init__ (K : PySem.W.Frag) (AD : Ads) : Sp := fun vs H Q E => ∃ (G : Hp) (p_self dx_self : Addr) (width' : Int) (height' : Int) (depth' : Int) (chroma' : Int), vs = [.ref p_self, .int width', .int height', .int depth', .int chroma'] ∧ Same G H ∧ (∀ a ∈ [p_self], G a = none) ∧ H p_self = some (.ins AD.c_Format dx_self []) ∧ cW (F_Format___init__ width' height' depth' chroma') (fun v => ∀ (H' : Hp), SameX p_self H H' → H' p_self = some (.ins AD.c_Format dx_self [("width", V.int v.width), ("height", V.int v.height), ("depth", V.int v.depth), ("chroma", V.int v.chroma)]) → Q .non H') (fun e => ∀ H', SameX p_self H H' → E (.ref (excA AD e)) none H')
def sp__require (K : PySem.W.Frag) (AD : Ads) : Sp := fun vs H Q E => ∃ (G : Hp) (holds' : Bool) (text' : Str), vs = [.bl holds', .str text'] ∧ Same G H ∧ cW (F__require holds' text') (fun v => Q .non H) (fun e => E (.ref (excA AD e)) none H)
def sp_Settings___init__ (K : PySem.W.Frag) (AD : Ads) : Sp := fun vs H Q E => ∃ (G : Hp) (p_self dx_self : Addr) (p_fmt dx_fmt : Addr) (fmt' : St_Format) (slots' : Int) (rows' : Int) (deblock' : Bool) (offset' : Bool) (layers' : Int), vs = [.ref p_self, .ref p_fmt, .int slots', .int rows', .bl deblock', .bl offset', .int layers'] ∧ Same G H ∧ (∀ a ∈ [p_self], G a = none) ∧ H p_self = some (.ins AD.c_Settings dx_self []) ∧ (hideL [p_self] H) p_fmt = some (.ins AD.c_Format dx_fmt [("width", V.int fmt'.width), ("height", V.int fmt'.height), ("depth", V.int fmt'.depth), ("chroma", V.int fmt'.chroma)]) ∧ cW (F_Settings___init__ fmt' slots' rows' deblock' offset' layers') (fun v => ∀ (H' : Hp), SameX p_self H H' → H' p_self = some (.ins AD.c_Settings dx_self [("fmt", V.ref p_fmt), ("slots", V.int v.slots), ("rows", V.int v.rows), ("deblock", V.bl v.deblock), ("offset", V.bl v.offset), ("layers", V.int v.layers)]) → Q .non H') (fun e => ∀ H', SameX p_self H H' → E (.ref (excA AD e)) none H')
def sp__law_settings (K : PySem.W.Frag) (AD : Ads) : Sp := fun vs H Q E => ∃ (G : Hp) (a_n : Addr) (n' : List Int), vs = [.ref a_n] ∧ Same G H ∧ (hideL [] H) a_n = some (.lst ((n' : List Int).map V.int)) ∧ cW (F__law_settings n') (fun v => ∀ (H' : Hp) (p_ret p_ret_fmt dx_ret dx_ret_fmt : Addr), Same H H' → H p_ret = none → H p_ret_fmt = none → p_ret ≠ p_ret_fmt → H' p_ret = some (.ins AD.c_Settings dx_ret [("fmt", V.ref p_ret_fmt), ("slots", V.int v.slots), ("rows", V.int v.rows), ("deblock", V.bl v.deblock), ("offset", V.bl v.offset), ("layers", V.int v.layers)]) → H' p_ret_fmt = some (.ins AD.c_Format dx_ret_fmt [("width", V.int v.fmt.width), ("height", V.int v.fmt.height), ("depth", V.int v.fmt.depth), ("chroma", V.int v.fmt.chroma)]) → Q (.ref p_ret) H') (fun e => ∀ H', Same H H' → E (.ref (excA AD e)) none H')
def sp__law_picture (K : PySem.W.Frag) (AD : Ads) : Sp := fun vs H Q E => ∃ (G : Hp) (cell' : Int) (a_n : Addr) (n' : List Int), vs = [.int cell', .ref a_n] ∧ Same G H ∧ (hideL [] H) a_n = some (.lst ((n' : List Int).map V.int)) ∧ cW (F__law_picture cell' n') (fun v => ∀ u H' G', Same H H' → Same G G' → Same G' H' → (∀ b, H b ≠ none → G b = none → G' b = none) → Rp G' u ((encL encD) v) → Q u H') (fun e => ∀ H', Same H H' → E (.ref (excA AD e)) none H')
def sp__law_with (K : PySem.W.Frag) (AD : Ads) : Sp := fun vs H Q E => ∃ (G : Hp) (v_p : V) (p' : (List PyData)) (k' : Int) (v_value : V) (value' : PyData), vs = [v_p, .int k', v_value] ∧ Same G H ∧ Rp G v_p ((encL encD) p') ∧ Rp G v_value (encD value') ∧ cW (F__law_with p' k' value') (fun v => ∀ u H' G', Same H H' → Same G G' → Same G' H' → (∀ b, H b ≠ none → G b = none → G' b = none) → Rp G' u ((encL encD) v) → Q u H') (fun e => ∀ H', Same H H' → E (.ref (excA AD e)) none H')
def sp__law_faults (K : PySem.W.Frag) (AD : Ads) : Sp := fun vs H Q E => ∃ (G : Hp) (v_p : V) (p' : (List PyData)) (a_n : Addr) (n' : List Int) (far' : Int), vs = [v_p, .ref a_n, .int far'] ∧ Same G H ∧ Rp G v_p ((encL encD) p') ∧ (hideL [] H) a_n = some (.lst ((n' : List Int).map V.int)) ∧ cW (F__law_faults p' n' far') (fun v => ∀ u H' G', Same H H' → Same G G' → Same G' H' → (∀ b, H b ≠ none → G b = none → G' b = none) → Rp G' u ((encL (encL encD)) v) → Q u H') (fun e => ∀ H', Same H H' → E (.ref (excA AD e)) none H')
def sp__law_cell (K : PySem.W.Frag) (AD : Ads) : Sp := fun vs H Q E => ∃ (G : Hp) (a_script : Addr) (script' : List Int) (k' : Int), vs = [.ref a_script, .int k'] ∧ Same G H ∧ SqL K H a_script ((script' : List Int).map V.int) ∧ cW (F__law_cell script' k') (fun v => Q (.int v) H) (fun e => E (.ref (excA AD e)) none H)
def sp_Format_blocks (K : PySem.W.Frag) (AD : Ads) : Sp := fun vs H Q E => ∃ (G : Hp) (p_self dx_self : Addr) (self' : St_Format), vs = [.ref p_self] ∧ Same G H ∧ (hideL [] H) p_self = some (.ins AD.c_Format dx_self [("width", V.int self'.width), ("height", V.int self'.height), ("depth", V.int self'.depth), ("chroma", V.int self'.chroma)]) ∧ cW (F_Format_blocks self') (fun v => ∀ u H' G', Same H H' → Same G G' → Same G' H' → (∀ b, H b ≠ none → G b = none → G' b = none) → Rp G' u ((encT2 PyData.int PyData.int) v) → Q u H') (fun e => ∀ H', Same H H' → E (.ref (excA AD e)) none H')
def sp_Settings_slices (K : PySem.W.Frag) (AD : Ads) : Sp := fun vs H Q E => ∃ (G : Hp) (p_self p_self_fmt dx_self dx_self_fmt : Addr) (self' : St_Settings), vs = [.ref p_self] ∧ Same G H ∧ (hideL [] H) p_self = some (.ins AD.c_Settings dx_self [("fmt", V.ref p_self_fmt), ("slots", V.int self'.slots), ("rows", V.int self'.rows), ("deblock", V.bl self'.deblock), ("offset", V.bl self'.offset), ("layers", V.int self'.layers)]) ∧ (hideL [] H) p_self_fmt = some (.ins AD.c_Format dx_self_fmt [("width", V.int self'.fmt.width), ("height", V.int self'.fmt.height), ("depth", V.int self'.fmt.depth), ("chroma", V.int self'.fmt.chroma)]) ∧ cW (F_Settings_slices self') (fun v => ∀ H', Same H H' → Q (.int v) H') (fun e => ∀ H', Same H H' → E (.ref (excA AD e)) none H')
def sp__law_settings_refused (K : PySem.W.Frag) (AD : Ads) : Sp := fun vs H Q E => ∃ (G : Hp) (a_n : Addr) (n' : List Int) (slots' : Int) (rows' : Int) (layers' : Int), vs = [.ref a_n, .int slots', .int rows', .int layers'] ∧ Same G H ∧ (hideL [] H) a_n = some (.lst ((n' : List Int).map V.int)) ∧ cW (F__law_settings_refused n' slots' rows' layers') (fun v => ∀ H', Same H H' → Q (.bl v) H') (fun e => ∀ H', Same H H' → E (.ref (excA AD e)) none H')
def sp__check_numbers (K : PySem.W.Frag) (AD : Ads) : Sp := fun vs H Q E => ∃ (G : Hp) (p_settings p_settings_fmt dx_settings dx_settings_fmt : Addr) (settings' : St_Settings) (p_header l_header_store l_header_refs dx_header : Addr) (header' : St_PictureHeader), vs = [.ref p_settings, .ref p_header] ∧ Same G H ∧ (hideL [] H) p_settings = some (.ins AD.c_Settings dx_settings [("fmt", V.ref p_settings_fmt), ("slots", V.int settings'.slots), ("rows", V.int settings'.rows), ("deblock", V.bl settings'.deblock), ("offset", V.bl settings'.offset), ("layers", V.int settings'.layers)]) ∧ (hideL [] H) p_settings_fmt = some (.ins AD.c_Format dx_settings_fmt [("width", V.int settings'.fmt.width), ("height", V.int settings'.fmt.height), ("depth", V.int settings'.fmt.depth), ("chroma", V.int settings'.fmt.chroma)]) ∧ (hideL [] H) p_header = some (.ins AD.c_PictureHeader dx_header [("number", V.int header'.number), ("kind", V.str header'.kind), ("level", V.int header'.level), ("store", V.ref l_header_store), ("refs", V.ref l_header_refs), ("weight", V.int header'.weight), ("layer", V.int header'.layer), ("shown", V.bl header'.shown), ("edge", V.int header'.edge)]) ∧ (hideL [] H) l_header_store = some (.lst ((header'.store : (List Int)).map V.int)) ∧ (hideL [] H) l_header_refs = some (.lst ((header'.refs : (List Int)).map V.int)) ∧ cW (F__check_numbers settings' header') (fun v => ∀ H', Same H H' → Q .non H') (fun e => ∀ H', Same H H' → E (.ref (excA AD e)) none H')
def sp__check_slots (K : PySem.W.Frag) (AD : Ads) : Sp := fun vs H Q E => ∃ (G : Hp) (p_settings p_settings_fmt dx_settings dx_settings_fmt : Addr) (settings' : St_Settings) (p_header l_header_store l_header_refs dx_header : Addr) (header' : St_PictureHeader), vs = [.ref p_settings, .ref p_header] ∧ Same G H ∧ (hideL [] H) p_settings = some (.ins AD.c_Settings dx_settings [("fmt", V.ref p_settings_fmt), ("slots", V.int settings'.slots), ("rows", V.int settings'.rows), ("deblock", V.bl settings'.deblock), ("offset", V.bl settings'.offset), ("layers", V.int settings'.layers)]) ∧ (hideL [] H) p_settings_fmt = some (.ins AD.c_Format dx_settings_fmt [("width", V.int settings'.fmt.width), ("height", V.int settings'.fmt.height), ("depth", V.int settings'.fmt.depth), ("chroma", V.int settings'.fmt.chroma)]) ∧ (hideL [] H) p_header = some (.ins AD.c_PictureHeader dx_header [("number", V.int header'.number), ("kind", V.str header'.kind), ("level", V.int header'.level), ("store", V.ref l_header_store), ("refs", V.ref l_header_refs), ("weight", V.int header'.weight), ("layer", V.int header'.layer), ("shown", V.bl header'.shown), ("edge", V.int header'.edge)]) ∧ (hideL [] H) l_header_store = some (.lst ((header'.store : (List Int)).map V.int)) ∧ (hideL [] H) l_header_refs = some (.lst ((header'.refs : (List Int)).map V.int)) ∧ cW (F__check_slots settings' header') (fun v => ∀ H', Same H H' → Q .non H') (fun e => ∀ H', Same H H' → E (.ref (excA AD e)) none H')
def sp_PictureHeader___init__ (K : PySem.W.Frag) (AD : Ads) : Sp := fun vs H Q E => ∃ (G : Hp) (p_self dx_self : Addr) (p_settings p_settings_fmt dx_settings dx_settings_fmt : Addr) (settings' : St_Settings) (number' : Int) (kind' : Str) (level' : Int) (v_store : V) (store' : (List Int)) (v_refs : V) (refs' : (List Int)) (weight' : Int) (layer' : Int) (shown' : Bool) (edge' : Int), vs = [.ref p_self, .ref p_settings, .int number', .str kind', .int level', v_store, v_refs, .int weight', .int layer', .bl shown', .int edge'] ∧ Same G H ∧ (∀ a ∈ [p_self], G a = none) ∧ H p_self = some (.ins AD.c_PictureHeader dx_self []) ∧ (hideL [p_self] H) p_settings = some (.ins AD.c_Settings dx_settings [("fmt", V.ref p_settings_fmt), ("slots", V.int settings'.slots), ("rows", V.int settings'.rows), ("deblock", V.bl settings'.deblock), ("offset", V.bl settings'.offset), ("layers", V.int settings'.layers)]) ∧ (hideL [p_self] H) p_settings_fmt = some (.ins AD.c_Format dx_settings_fmt [("width", V.int settings'.fmt.width), ("height", V.int settings'.fmt.height), ("depth", V.int settings'.fmt.depth), ("chroma", V.int settings'.fmt.chroma)]) ∧ SeqI K (hideL [p_self] H) v_store store' ∧ SeqI K (hideL [p_self] H) v_refs refs' ∧ cW (F_PictureHeader___init__ settings' number' kind' level' store' refs' weight' layer' shown' edge') (fun v => ∀ (H' : Hp) (l_store l_refs : Addr), SameX p_self H H' → H l_store = none → H l_refs = none → l_store ≠ l_refs → H' p_self = some (.ins AD.c_PictureHeader dx_self [("number", V.int v.number), ("kind", V.str v.kind), ("level", V.int v.level), ("store", V.ref l_store), ("refs", V.ref l_refs), ("weight", V.int v.weight), ("layer", V.int v.layer), ("shown", V.bl v.shown), ("edge", V.int v.edge)]) → H' l_store = some (.lst (v.store.map V.int)) → H' l_refs = some (.lst (v.refs.map V.int)) → Q .non H') (fun e => ∀ H', SameX p_self H H' → E (.ref (excA AD e)) none H')
def sp__law_header (K : PySem.W.Frag) (AD : Ads) : Sp := fun vs H Q E => ∃ (G : Hp) (p_settings p_settings_fmt dx_settings dx_settings_fmt : Addr) (settings' : St_Settings) (v_p : V) (p' : (List PyData)), vs = [.ref p_settings, v_p] ∧ Same G H ∧ (hideL [] H) p_settings = some (.ins AD.c_Settings dx_settings [("fmt", V.ref p_settings_fmt), ("slots", V.int settings'.slots), ("rows", V.int settings'.rows), ("deblock", V.bl settings'.deblock), ("offset", V.bl settings'.offset), ("layers", V.int settings'.layers)]) ∧ (hideL [] H) p_settings_fmt = some (.ins AD.c_Format dx_settings_fmt [("width", V.int settings'.fmt.width), ("height", V.int settings'.fmt.height), ("depth", V.int settings'.fmt.depth), ("chroma", V.int settings'.fmt.chroma)]) ∧ Rp (hideL [] H) v_p ((encL encD) p') ∧ cW (F__law_header settings' p') (fun v => ∀ (H' : Hp) (p_ret l_ret_store l_ret_refs dx_ret : Addr), Same H H' → H p_ret = none → H l_ret_store = none → H l_ret_refs = none → l_ret_store ≠ l_ret_refs → H' p_ret = some (.ins AD.c_PictureHeader dx_ret [("number", V.int v.number), ("kind", V.str v.kind), ("level", V.int v.level), ("store", V.ref l_ret_store), ("refs", V.ref l_ret_refs), ("weight", V.int v.weight), ("layer", V.int v.layer), ("shown", V.bl v.shown), ("edge", V.int v.edge)]) → H' l_ret_store = some (.lst ((v.store : (List Int)).map V.int)) → H' l_ret_refs = some (.lst ((v.refs : (List Int)).map V.int)) → Q (.ref p_ret) H') (fun e => ∀ H', Same H H' → E (.ref (excA AD e)) none H')
def sp__law_picture_refused (K : PySem.W.Frag) (AD : Ads) : Sp := fun vs H Q E => ∃ (G : Hp) (p_settings p_settings_fmt dx_settings dx_settings_fmt : Addr) (settings' : St_Settings) (v_p : V) (p' : (List PyData)) (name' : Str), vs = [.ref p_settings, v_p, .str name'] ∧ Same G H ∧ (hideL [] H) p_settings = some (.ins AD.c_Settings dx_settings [("fmt", V.ref p_settings_fmt), ("slots", V.int settings'.slots), ("rows", V.int settings'.rows), ("deblock", V.bl settings'.deblock), ("offset", V.bl settings'.offset), ("layers", V.int settings'.layers)]) ∧ (hideL [] H) p_settings_fmt = some (.ins AD.c_Format dx_settings_fmt [("width", V.int settings'.fmt.width), ("height", V.int settings'.fmt.height), ("depth", V.int settings'.fmt.depth), ("chroma", V.int settings'.fmt.chroma)]) ∧ Rp (hideL [] H) v_p ((encL encD) p') ∧ cW (F__law_picture_refused settings' p' name') (fun v => ∀ H', Same H H' → Q (.bl v) H') (fun e => ∀ H', Same H H' → E (.ref (excA AD e)) none H')
def sp_SliceHeader___init__ (K : PySem.W.Frag) (AD : Ads) : Sp := fun vs H Q E => ∃ (G : Hp) (p_self dx_self : Addr) (p_settings p_settings_fmt dx_settings dx_settings_fmt : Addr) (settings' : St_Settings) (number' : Int) (index' : Int) (delta' : Int), vs = [.ref p_self, .ref p_settings, .int number', .int index', .int delta'] ∧ Same G H ∧ (∀ a ∈ [p_self], G a = none) ∧ H p_self = some (.ins AD.c_SliceHeader dx_self []) ∧ (hideL [p_self] H) p_settings = some (.ins AD.c_Settings dx_settings [("fmt", V.ref p_settings_fmt), ("slots", V.int settings'.slots), ("rows", V.int settings'.rows), ("deblock", V.bl settings'.deblock), ("offset", V.bl settings'.offset), ("layers", V.int settings'.layers)]) ∧ (hideL [p_self] H) p_settings_fmt = some (.ins AD.c_Format dx_settings_fmt [("width", V.int settings'.fmt.width), ("height", V.int settings'.fmt.height), ("depth", V.int settings'.fmt.depth), ("chroma", V.int settings'.fmt.chroma)]) ∧ cW (F_SliceHeader___init__ settings' number' index' delta') (fun v => ∀ (H' : Hp), SameX p_self H H' → H' p_self = some (.ins AD.c_SliceHeader dx_self [("number", V.int v.number), ("index", V.int v.index), ("delta", V.int v.delta)]) → Q .non H') (fun e => ∀ H', SameX p_self H H' → E (.ref (excA AD e)) none H')
def sp__law_slice_refused (K : PySem.W.Frag) (AD : Ads) : Sp := fun vs H Q E => ∃ (G : Hp) (p_settings p_settings_fmt dx_settings dx_settings_fmt : Addr) (settings' : St_Settings) (number' : Int) (index' : Int) (delta' : Int), vs = [.ref p_settings, .int number', .int index', .int delta'] ∧ Same G H ∧ (hideL [] H) p_settings = some (.ins AD.c_Settings dx_settings [("fmt", V.ref p_settings_fmt), ("slots", V.int settings'.slots), ("rows", V.int settings'.rows), ("deblock", V.bl settings'.deblock), ("offset", V.bl settings'.offset), ("layers", V.int settings'.layers)]) ∧ (hideL [] H) p_settings_fmt = some (.ins AD.c_Format dx_settings_fmt [("width", V.int settings'.fmt.width), ("height", V.int settings'.fmt.height), ("depth", V.int settings'.fmt.depth), ("chroma", V.int settings'.fmt.chroma)]) ∧ cW (F__law_slice_refused settings' number' index' delta') (fun v => ∀ H', Same H H' → Q (.bl v) H') (fun e => ∀ H', Same H H' → E (.ref (excA AD e)) none H')
def sp_law (K : PySem.W.Frag) (AD : Ads) : Sp := fun vs H Q E => ∃ (a_script : Addr) (script : List Int), vs = [.ref a_script] ∧ SqL K H a_script (script.map V.int) ∧ cW (F_law script) (fun v => v = true) (fun _ => False) ∧ ∀ H', Q (.bl true) H'
section
variable {P : Program} {w : World} {K : PySem.W.Frag} {mg : Str → Option Value} {base : Heap} {AD : Ads}
abbrev N__law_draws : List Str := ["cell", "limits", "found", "rest", "state", "free", "limit"]
theorem sc__law_draws : FnScope N__law_draws ["cell", "limits"] (defScope s__law_draws) := ⟨rfl, rfl, rfl, by decide +kernel, rfl, by decide +kernel, by decide +kernel⟩
theorem ok__law_draws (D : DefX K mg "_law_draws" s__law_draws ["cell", "limits"] pats__law_draws) (T : Txt w K mg AD)  : CalX P w K mg base 1 "_law_draws" (sp__law_draws K AD) pats__law_draws := by
  refine D.ok sc__law_draws (fun vs H Q E h => ?_) (fun f cdv A_ outer s H vs Q E hr h => ?_)
  · obtain ⟨G, cell', a_limits, limits', rfl, _⟩ := h
    rfl
  · obtain ⟨G, cell', a_limits, limits', rfl, sG, q_limits, hw⟩ := h
    refine ⟨_, (pss_cons (ps_set (i := 2) sc__law_draws.nd rfl (Or.inl rfl) (pe_lst pa_nil))
      (pss_cons (ps_set (i := 3) sc__law_draws.nd rfl (Or.inl rfl) (pe_callB call_abs (by rfl) T.b_abs (by decide +kernel) (pa_cons (pe_callTy call_int1 (by rfl) T.b_int (by decide +kernel) (pa_cons (pv 0) pa_nil)) pa_nil)))
      (pss_cons (ps_set (i := 4) sc__law_draws.nd rfl (Or.inl rfl) (pe_op op_mod (pe_callTy call_int1 (by rfl) T.b_int (by decide +kernel) (pa_cons (pv 3) pa_nil)) pe_int))
      (pss_cons (ps_set (i := 5) sc__law_draws.nd rfl (Or.inl rfl) (pe_or (pe_cmp (pc_lt (pv 0) pe_int)) (pe_one (pe_cmp (pc_ge (pv 0) (pe_op op_pow pe_int pe_int))))))
      (pss_cons (ps_for (passes_of rfl) rfl (pi_listK (K := K) (pv 1)) (pg_name (i := 6) sc__law_draws.nd rfl (Or.inl rfl)) (pss_one (ps_if (PW.pt (pw_and (pt_val (pv 5)) (pw_and1 (pt_cmp (pc_gt (pv 3) pe_int))))) (pss_cons (ps_expr (pe_bm PySem.F.plainAttrs_list PySem.F.slot_list_append PySem.F.type_list_append mt_append (pv 2) (pa_cons (pe_op op_mod (pe_callTy call_int1 (by rfl) T.b_int (by decide +kernel) (pa_cons (pv 3) pa_nil)) (pv 6)) pa_nil)))
      (pss_one (ps_set (i := 3) sc__law_draws.nd rfl (Or.inl rfl) (pe_op op_fdivW (pv 3) (pv 6))))) (pss_cons (ps_set (i := 4) sc__law_draws.nd rfl (Or.inl rfl) (pe_op op_mod (pe_callTy call_int1 (by rfl) T.b_int (by decide +kernel) (pa_cons (pe_op op_add (pe_op op_mul (pv 4) pe_int) pe_int) pa_nil)) pe_int))
      (pss_cons (ps_set (i := 4) sc__law_draws.nd rfl (Or.inl rfl) (pe_op op_mod (pe_callTy call_int1 (by rfl) T.b_int (by decide +kernel) (pa_cons (pe_op op_add (pe_op op_mul (pv 4) pe_int) pe_int) pa_nil)) pe_int))
      (pss_one (ps_expr (pe_bm PySem.F.plainAttrs_list PySem.F.slot_list_append PySem.F.type_list_append mt_append (pv 2) (pa_cons (pe_op op_mod (pe_callTy call_int1 (by rfl) T.b_int (by decide +kernel) (pa_cons (pe_op op_fdivW (pv 4) pe_int) pa_nil)) (pv 6)) pa_nil)))))))))
      (pss_one (ps_ret (pv 2)))))))), ?_⟩
    obtain ⟨KK, EE, hK0, hE, hw⟩ := cW_gen hw
    have S0 := Sep.startG sG
    unfold F__law_draws at hw
    refine ⟨(by show 0 ≤ sizeLine; decide), fun p1 n2 => ?_⟩
    generalize g3 : upd H p1 _ = H4
    obtain ⟨e5, h6⟩ := gen_new n2 g3
    have h7 : H4 p1 = some (.lst ((([] : (List Int)) : (List Int)).map V.int)) := h6
    have fr8 := S0.free n2
    have S9 := S0.new n2 e5 h7 fr8
    refine ⟨_, rfl, .inl ⟨_, rfl, ?_⟩⟩
    refine ⟨_, rfl, ?_⟩
    have hw := cW_bnd hw
    refine ⟨_, rfl, .inl ⟨_, rfl, ?_⟩⟩
    refine ⟨_, _, rfl, rfl, (show (0 : Int) < 2147483647 by decide), ?_⟩
    have hw := cW_bnd hw
    refine vv_or (ta := (tLt (tVar 0) (tC (V.int 0)))) (tb := (tGe (tVar 0) (tOp (rI CPow fun i j => V.int (i ^ j.toNat)) (tC (V.int 10)) (tC (V.int 18))))) (a := decide (cell' < 0)) (b := decide (((10 : Int) ^ Int.toNat 18) ≤ cell')) ?ha12 ?hb13 _ ?_
    case ha12 => exact (vv_cmp (val_var rfl) val_c (fun Q q => ⟨_, _, rfl, rfl, q⟩))
    case hb13 => exact (vv_cmp (val_var rfl) (val_op val_c val_c (fun Q q => ⟨_, _, rfl, rfl, ⟨by decide, by decide, by decide⟩, q⟩)) (fun Q q => ⟨_, _, rfl, rfl, q⟩))
    have hw := cW_bnd hw
    obtain ⟨K16, hK17, hw⟩ := cW_push hw
    refine ⟨_, rfl, _, rfl, ⟨_, (SqL.of (S9.bM _ _ q_limits))⟩, for_list (K := K) (a := a_limits) (xs := (limits' : List Int).map V.int) (fun i σ H' => ∃ (found_18 : (List Int)) (rest_19 : Int) (state_20 : Int) (u21 : Option V) (G' : Hp), σ = [some (V.int (cell')), some (V.ref a_limits), some (V.ref p1), some (V.int rest_19), some (V.int state_20), some (V.bl ((decide (cell' < 0) || decide (((10 : Int) ^ Int.toNat 18) ≤ cell')))), u21] ∧ Same G G' ∧ Sep [] H G G' H' [p1] ∧ H' p1 = some (.lst ((found_18 : (List Int)).map V.int)) ∧ cW (forS (List.drop i (limits')) (found_18, rest_19, state_20) (fun s x => F__law_draws_b1 ((decide (cell' < 0) || decide (((10 : Int) ^ Int.toNat 18) ≤ cell'))) (s.1) (s.2.1) (s.2.2) x)) K16 EE) ?_ ?_ ?_ ?_⟩
    · exact ⟨(([] : (List Int))), ((if cell' < 0 then -cell' else cell')), (((if cell' < 0 then -cell' else cell') % 2147483647)), _, _, rfl, (Same.refl _), S9, h7, hw⟩
    · intro i σ H22 _ hw
      obtain ⟨found_18, rest_19, state_20, u21, G25, rfl, eG26, S23, h24, hw⟩ := hw
      exact (SqL.of (S23.bM _ _ q_limits))
    · intro i x σ H27 hj hw
      obtain ⟨found_18, rest_19, state_20, u21, G30, rfl, eG31, S28, h29, hw⟩ := hw
      obtain ⟨x32, hx, rfl⟩ := map_get hj
      have hw := cW_forS hx hw
      have hw : cW (F__law_draws_b1 ((decide (cell' < 0) || decide (((10 : Int) ^ Int.toNat 18) ≤ cell'))) (found_18) (rest_19) (state_20) (x32)) _ EE := hw
      unfold F__law_draws_b1 at hw
      obtain ⟨K36, hK37, hw⟩ := cW_name hw
      refine ⟨_, rfl, _, rfl, ?_⟩
      refine iteB (fun c39 => ?_) (fun c39 => ?_)
      · have hw := cW_pos c39 hw
        refine ⟨_, rfl, _, _, rfl, rfl, _, rfl, ?_⟩
        refine iteD (fun c40 => ?_) (fun c40 => ?_)
        · have hw := cW_pos c40 hw
          refine ⟨_, rfl, (.inl ⟨rfl, _, SqL.of h29⟩), _, rfl, .inl ⟨_, rfl, ?_⟩⟩
          obtain ⟨g41, hw⟩ := cW_grd hw
          obtain ⟨g42, hw⟩ := cW_grd hw
          refine ⟨_, rfl, _, _, rfl, rfl, g41, _, _, _, rfl, rfl, h29, (app_lenM g42), ?_⟩
          generalize g43 : upd H27 p1 _ = H44
          obtain ⟨x45, h46⟩ := gen_mut g43
          have h47 : H44 p1 = some (.lst (((found_18) ++ [(rest_19 % x32)] : (List Int)).map V.int)) := snoc_map h46
          have S48 := S28.mut1 x45 (.head _) h47
          have hw := cW_bnd hw
          obtain ⟨g50, hw⟩ := cW_grd hw
          refine ⟨_, rfl, _, rfl, _, _, rfl, rfl, (divW_small g50.1 g50.2), ?_⟩
          have hw := cW_bnd hw
          have hw := cW_ok hw
          have hw := hK37 _ hw
          exact ⟨((found_18) ++ [(rest_19 % x32)]), ((rest_19 / x32)), (state_20), _, _, rfl, eG31, S48, h47, hw⟩
        · have hw := cW_neg c40 hw
          refine ⟨_, rfl, _, _, rfl, rfl, (.inr ⟨by decide, by decide⟩), _, _, rfl, rfl, .inl ⟨_, rfl, ?_⟩⟩
          refine ⟨_, _, rfl, rfl, (show (0 : Int) < 2147483647 by decide), ?_⟩
          have hw := cW_bnd hw
          refine ⟨_, rfl, _, _, rfl, rfl, (.inr ⟨by decide, by decide⟩), _, _, rfl, rfl, .inl ⟨_, rfl, ?_⟩⟩
          refine ⟨_, _, rfl, rfl, (show (0 : Int) < 2147483647 by decide), ?_⟩
          have hw := cW_bnd hw
          refine ⟨_, rfl, (.inl ⟨rfl, _, SqL.of h29⟩), _, rfl, _, _, rfl, rfl, (divW_lit (by decide) (by decide)), .inl ⟨_, rfl, ?_⟩⟩
          obtain ⟨g54, hw⟩ := cW_grd hw
          obtain ⟨g55, hw⟩ := cW_grd hw
          refine ⟨_, rfl, _, _, rfl, rfl, g54, _, _, _, rfl, rfl, h29, (app_lenM g55), ?_⟩
          generalize g56 : upd H27 p1 _ = H57
          obtain ⟨x58, h59⟩ := gen_mut g56
          have h60 : H57 p1 = some (.lst (((found_18) ++ [((((((((state_20 * 48271) + 11) % 2147483647) * 69621) + 7) % 2147483647) / 13) % x32)] : (List Int)).map V.int)) := snoc_map h59
          have S61 := S28.mut1 x58 (.head _) h60
          have hw := cW_bnd hw
          have hw := cW_ok hw
          have hw := hK37 _ hw
          exact ⟨((found_18) ++ [((((((((state_20 * 48271) + 11) % 2147483647) * 69621) + 7) % 2147483647) / 13) % x32)]), (rest_19), (((((((state_20 * 48271) + 11) % 2147483647) * 69621) + 7) % 2147483647)), _, _, rfl, eG31, S61, h60, hw⟩
      · have hw := cW_negB c39 hw
        refine iteF ?_
        refine ⟨_, rfl, _, _, rfl, rfl, (.inr ⟨by decide, by decide⟩), _, _, rfl, rfl, .inl ⟨_, rfl, ?_⟩⟩
        refine ⟨_, _, rfl, rfl, (show (0 : Int) < 2147483647 by decide), ?_⟩
        have hw := cW_bnd hw
        refine ⟨_, rfl, _, _, rfl, rfl, (.inr ⟨by decide, by decide⟩), _, _, rfl, rfl, .inl ⟨_, rfl, ?_⟩⟩
        refine ⟨_, _, rfl, rfl, (show (0 : Int) < 2147483647 by decide), ?_⟩
        have hw := cW_bnd hw
        refine ⟨_, rfl, (.inl ⟨rfl, _, SqL.of h29⟩), _, rfl, _, _, rfl, rfl, (divW_lit (by decide) (by decide)), .inl ⟨_, rfl, ?_⟩⟩
        obtain ⟨g65, hw⟩ := cW_grd hw
        obtain ⟨g66, hw⟩ := cW_grd hw
        refine ⟨_, rfl, _, _, rfl, rfl, g65, _, _, _, rfl, rfl, h29, (app_lenM g66), ?_⟩
        generalize g67 : upd H27 p1 _ = H68
        obtain ⟨x69, h70⟩ := gen_mut g67
        have h71 : H68 p1 = some (.lst (((found_18) ++ [((((((((state_20 * 48271) + 11) % 2147483647) * 69621) + 7) % 2147483647) / 13) % x32)] : (List Int)).map V.int)) := snoc_map h70
        have S72 := S28.mut1 x69 (.head _) h71
        have hw := cW_bnd hw
        have hw := cW_ok hw
        have hw := hK37 _ hw
        exact ⟨((found_18) ++ [((((((((state_20 * 48271) + 11) % 2147483647) * 69621) + 7) % 2147483647) / 13) % x32)]), (rest_19), (((((((state_20 * 48271) + 11) % 2147483647) * 69621) + 7) % 2147483647)), _, _, rfl, eG31, S72, h71, hw⟩
    · intro σ H74 hw
      obtain ⟨found_18, rest_19, state_20, u21, G77, rfl, eG78, S75, h76, hw⟩ := hw
      have hw := hK17 _ (cW_forS0 (by rw [List.length_map]) hw)
      have hw : cW (F__law_draws_r1  (found_18) (rest_19) (state_20)) _ EE := hw
      unfold F__law_draws_r1 at hw
      refine ⟨_, rfl, ?_⟩
      have hw := cW_ok hw
      exact hK0 _ hw _ _ fr8 S75.b0 h76

abbrev N__law_between : List Str := ["first", "second", "low", "high"]
theorem sc__law_between : FnScope N__law_between ["first", "second", "low", "high"] (defScope s__law_between) := ⟨rfl, rfl, rfl, by decide +kernel, rfl, by decide +kernel, by decide +kernel⟩
theorem ok__law_between (D : DefX K mg "_law_between" s__law_between ["first", "second", "low", "high"] pats__law_between) (T : Txt w K mg AD)  : CalX P w K mg base 1 "_law_between" (sp__law_between K AD) pats__law_between := by
  refine D.ok sc__law_between (fun vs H Q E h => ?_) (fun f cdv A_ outer s H vs Q E hr h => ?_)
  · obtain ⟨G, first', second', low', high', rfl, _⟩ := h
    rfl
  · obtain ⟨G, first', second', low', high', rfl, sG, hw⟩ := h
    refine ⟨_, (pss_cons (ps_if (pt_cmp (pc_eqI (pv 0) pe_int)) (pss_one (ps_ret (pv 2))) pss_nil)
      (pss_cons (ps_if (pt_cmp (pc_eqI (pv 0) pe_int)) (pss_one (ps_ret (pv 3))) pss_nil)
      (pss_cons (ps_if (pt_cmp (pc_eqI (pv 0) pe_int)) (pss_one (ps_ret (pe_callB (call_min2 rfl) (by rfl) T.b_min (by decide +kernel) (pa_cons (pe_op op_add (pv 2) pe_int) (pa_cons (pv 3) pa_nil))))) pss_nil)
      (pss_one (ps_ret (pe_op op_add (pv 2) (pe_op op_mod (pe_callTy call_int1 (by rfl) T.b_int (by decide +kernel) (pa_cons (pv 1) pa_nil)) (pe_op op_add (pe_op op_sub (pv 3) (pv 2)) pe_int)))))))), ?_⟩
    obtain ⟨KK, EE, hK0, hE, hw⟩ := cW_gen hw
    have S0 := Sep.startG sG
    unfold F__law_between at hw
    refine ⟨_, rfl, _, _, rfl, rfl, _, rfl, ?_⟩
    refine iteD (fun c82 => ?_) (fun c82 => ?_)
    · have hw := cW_pos c82 hw
      refine ⟨_, rfl, ?_⟩
      have hw := cW_ok hw
      exact hK0 _ hw
    · have hw := cW_neg c82 hw
      refine ⟨_, rfl, _, _, rfl, rfl, _, rfl, ?_⟩
      refine iteD (fun c83 => ?_) (fun c83 => ?_)
      · have hw := cW_pos c83 hw
        refine ⟨_, rfl, ?_⟩
        have hw := cW_ok hw
        exact hK0 _ hw
      · have hw := cW_neg c83 hw
        refine ⟨_, rfl, _, _, rfl, rfl, _, rfl, ?_⟩
        refine iteD (fun c84 => ?_) (fun c84 => ?_)
        · have hw := cW_pos c84 hw
          refine ⟨_, rfl, _, _, rfl, rfl, _, rfl, _, _, rfl, ?_⟩
          have hw := cW_ok hw
          exact hK0 _ hw
        · have hw := cW_neg c84 hw
          refine ⟨_, rfl, _, rfl, .inl ⟨_, rfl, ?_⟩⟩
          obtain ⟨g85, hw⟩ := cW_grd hw
          refine ⟨_, rfl, _, rfl, _, _, rfl, rfl, _, _, rfl, rfl, _, _, rfl, rfl, g85, _, _, rfl, rfl, ?_⟩
          have hw := cW_ok hw
          exact hK0 _ hw

abbrev N__law_numbers : List Str := ["cell", "draws", "width", "height", "rows"]
theorem sc__law_numbers : FnScope N__law_numbers ["cell"] (defScope s__law_numbers) := ⟨rfl, rfl, rfl, by decide +kernel, rfl, by decide +kernel, by decide +kernel⟩
theorem ok__law_numbers (D : DefX K mg "_law_numbers" s__law_numbers ["cell"] pats__law_numbers) (T : Txt w K mg AD) (c__law_draws : CalX P w K mg base 1 "_law_draws" (sp__law_draws K AD) pats__law_draws) (c__law_between : CalX P w K mg base 1 "_law_between" (sp__law_between K AD) pats__law_between) : CalX P w K mg base 2 "_law_numbers" (sp__law_numbers K AD) pats__law_numbers := by
  refine D.ok sc__law_numbers (fun vs H Q E h => ?_) (fun f cdv A_ outer s H vs Q E hr h => ?_)
  · obtain ⟨G, cell', rfl, _⟩ := h
    rfl
  · obtain ⟨G, cell', rfl, sG, hw⟩ := h
    refine ⟨_, (pss_cons (ps_set (i := 1) sc__law_numbers.nd rfl (Or.inl rfl) (vx_callX c__law_draws pat__law_draws_0 (.head _) hr (by decide) (takes_of rfl rfl rfl rfl) rfl (pa_cons (pv 0) (pa_cons (pe_lst (pa_cons pe_int (pa_cons pe_int (pa_cons pe_int (pa_cons pe_int (pa_cons pe_int (pa_cons pe_int (pa_cons pe_int (pa_cons pe_int (pa_cons pe_int (pa_cons pe_int (pa_cons pe_int (pa_cons pe_int pa_nil))))))))))))) pa_nil)) pk_nil))
      (pss_cons (ps_set (i := 2) sc__law_numbers.nd rfl (Or.inl rfl) (vx_callX c__law_between pat__law_between_0 (.head _) hr (by decide) (takes_of rfl rfl rfl rfl) rfl (pa_cons (pe_ix (ix_listK (K := K)) (pv 1) pe_int (fun _ _ => rfl)) (pa_cons (pe_ix (ix_listK (K := K)) (pv 1) pe_int (fun _ _ => rfl)) (pa_cons pe_int (pa_cons pe_int pa_nil)))) pk_nil))
      (pss_cons (ps_set (i := 3) sc__law_numbers.nd rfl (Or.inl rfl) (vx_callX c__law_between pat__law_between_0 (.head _) hr (by decide) (takes_of rfl rfl rfl rfl) rfl (pa_cons (pe_ix (ix_listK (K := K)) (pv 1) pe_int (fun _ _ => rfl)) (pa_cons (pe_ix (ix_listK (K := K)) (pv 1) pe_int (fun _ _ => rfl)) (pa_cons pe_int (pa_cons pe_int pa_nil)))) pk_nil))
      (pss_cons (ps_set (i := 4) sc__law_numbers.nd rfl (Or.inl rfl) (vx_callX c__law_between pat__law_between_0 (.head _) hr (by decide) (takes_of rfl rfl rfl rfl) rfl (pa_cons (pe_ix (ix_listK (K := K)) (pv 1) pe_int (fun _ _ => rfl)) (pa_cons (pe_ix (ix_listK (K := K)) (pv 1) pe_int (fun _ _ => rfl)) (pa_cons pe_int (pa_cons pe_int pa_nil)))) pk_nil))
      (pss_one (ps_ret (pe_lst (pa_cons (pv 2) (pa_cons (pv 3) (pa_cons (pe_op op_add pe_int (pe_ix (ix_listK (K := K)) (pv 1) pe_int (fun _ _ => rfl))) (pa_cons (pe_ix (ix_listK (K := K)) (pv 1) pe_int (fun _ _ => rfl)) (pa_cons (pe_op op_add pe_int (pe_ix (ix_listK (K := K)) (pv 1) pe_int (fun _ _ => rfl))) (pa_cons (pv 4) (pa_cons (pe_ix (ix_listK (K := K)) (pv 1) pe_int (fun _ _ => rfl)) (pa_cons (pe_ix (ix_listK (K := K)) (pv 1) pe_int (fun _ _ => rfl)) (pa_cons (pe_op op_add pe_int (pe_ix (ix_listK (K := K)) (pv 1) pe_int (fun _ _ => rfl))) pa_nil)))))))))))))))), ?_⟩
    obtain ⟨KK, EE, hK0, hE, hw⟩ := cW_gen hw
    have S0 := Sep.startG sG
    unfold F__law_numbers at hw
    refine ⟨_, rfl, (by show 12 ≤ sizeLine; decide), fun p86 n87 => ?_⟩
    generalize g88 : upd H p86 _ = H89
    obtain ⟨e90, h91⟩ := gen_new n87 g88
    have h92 : H89 p86 = some (.lst (([6, 256, 6, 256, 5, 3, 4, 6, 32, 2, 2, 4] : (List Int)).map V.int)) := h91
    have fr93 := S0.free n87
    have S94 := S0.new n87 e90 h92 fr93
    refine ⟨rfl, rfl, G, _, _, _, rfl, S94.sG, (hide_nil h92), cW_call hw (fun v95 hw p98 H96 n99 e97 h100 => ?_) (fun e he H2 e2 => hE e he H2 (Same.trans S94.b0 e2))⟩
    have h101 : H96 p98 = some (.lst ((v95 : (List Int)).map V.int)) := h100
    have fr102 := S94.free n99
    have S103 := S94.new n99 e97 h101 fr102
    obtain ⟨g104, hw⟩ := cW_grd hw
    obtain ⟨g105, hw⟩ := cW_grd hw
    refine ⟨_, rfl, _, _, _, _, rfl, rfl, (SqL.of h101), (atI_map g104), _, rfl, _, _, _, _, rfl, rfl, (SqL.of h101), (atI_map g105), rfl, rfl, G, _, _, _, _, rfl, S103.sG, cW_call hw (fun v106 hw => ?_) (fun e he => hE e he _ S103.b0)⟩
    obtain ⟨g107, hw⟩ := cW_grd hw
    obtain ⟨g108, hw⟩ := cW_grd hw
    refine ⟨_, rfl, _, _, _, _, rfl, rfl, (SqL.of h101), (atI_map g107), _, rfl, _, _, _, _, rfl, rfl, (SqL.of h101), (atI_map g108), rfl, rfl, G, _, _, _, _, rfl, S103.sG, cW_call hw (fun v109 hw => ?_) (fun e he => hE e he _ S103.b0)⟩
    obtain ⟨g110, hw⟩ := cW_grd hw
    obtain ⟨g111, hw⟩ := cW_grd hw
    refine ⟨_, rfl, _, _, _, _, rfl, rfl, (SqL.of h101), (atI_map g110), _, rfl, _, _, _, _, rfl, rfl, (SqL.of h101), (atI_map g111), rfl, rfl, G, _, _, _, _, rfl, S103.sG, cW_call hw (fun v112 hw => ?_) (fun e he => hE e he _ S103.b0)⟩
    obtain ⟨g113, hw⟩ := cW_grd hw
    obtain ⟨g114, hw⟩ := cW_grd hw
    obtain ⟨g115, hw⟩ := cW_grd hw
    obtain ⟨g116, hw⟩ := cW_grd hw
    obtain ⟨g117, hw⟩ := cW_grd hw
    obtain ⟨g118, hw⟩ := cW_grd hw
    refine ⟨_, rfl, _, rfl, _, rfl, _, _, _, _, rfl, rfl, (SqL.of h101), (atI_map g113), _, _, rfl, rfl, _, rfl, _, _, _, _, rfl, rfl, (SqL.of h101), (atI_map g114), _, rfl, _, _, _, _, rfl, rfl, (SqL.of h101), (atI_map g115), _, _, rfl, rfl, _, rfl, _, rfl, _, _, _, _, rfl, rfl, (SqL.of h101), (atI_map g116), _, rfl, _, _, _, _, rfl, rfl, (SqL.of h101), (atI_map g117), _, rfl, _, _, _, _, rfl, rfl, (SqL.of h101), (atI_map g118), _, _, rfl, rfl, (by show 9 ≤ sizeLine; decide), fun p119 n120 => ?_⟩
    generalize g121 : upd H96 p119 _ = H122
    obtain ⟨e123, h124⟩ := gen_new n120 g121
    have h125 : H122 p119 = some (.lst (([v106, v109, (8 + (itD (v95) (4))), (itD (v95) (5)), (1 + (itD (v95) (6))), v112, (itD (v95) (9)), (itD (v95) (10)), (1 + (itD (v95) (11)))] : (List Int)).map V.int)) := h124
    have fr126 := S103.free n120
    have S127 := S103.new n120 e123 h125 fr126
    have hw := cW_ok hw
    exact hK0 _ hw _ _ fr126 S127.b0 h125

abbrev N_Format___init__ : List Str := ["self", "width", "height", "depth", "chroma"]
theorem sc_Format___init__ : FnScope N_Format___init__ ["self", "width", "height", "depth", "chroma"] (defScope s_Format___init__) := ⟨rfl, rfl, rfl, by decide +kernel, rfl, by decide +kernel, by decide +kernel⟩
theorem ok_Format___init__ (D : InitX K mg AD.c_Format "Format" "Format.__init__" s_Format___init__ ["self", "width", "height", "depth", "chroma"] pats_Format___init__) (T : Txt w K mg AD)  : MakX P w K mg base 1 "Format" AD.c_Format (sp_Format___init__ K AD) pats_Format___init__ := by
  refine D.ok sc_Format___init__ (fun vs H Q E h => ?_) (fun f cdv A_ outer s H vs Q E hr h => ?_)
  · obtain ⟨G, p_self, dx_self, width', height', depth', chroma', rfl, _⟩ := h
    rfl
  · obtain ⟨G, p_self, dx_self, width', height', depth', chroma', rfl, sG, gM, h_self, hw⟩ := h
    refine ⟨_, (pss_cons (ps_if (pt_not (PW.pt (pw_and (pt_chain op_le op_le pe_int (pv 1) pe_int) (pw_and1 (pt_chain op_le op_le pe_int (pv 2) pe_int))))) (pss_one (ps_raise rfl (takes_of rfl rfl rfl rfl) (pmk_own PySem.F.excBase_ValueError T.xx_BadFormat T.xg_BadFormat T.xk_BadFormat (raises_own T.xb_BadFormat T.xt_BadFormat) rfl))) pss_nil)
      (pss_cons (ps_if (pt_not (pt_chain op_le op_le pe_int (pv 3) pe_int)) (pss_one (ps_raise rfl (takes_of rfl rfl rfl rfl) (pmk_own PySem.F.excBase_ValueError T.xx_BadFormat T.xg_BadFormat T.xk_BadFormat (raises_own T.xb_BadFormat T.xt_BadFormat) rfl))) pss_nil)
      (pss_cons (ps_if (pt_not (pt_chain op_le op_le pe_int (pv 4) pe_int)) (pss_one (ps_raise rfl (takes_of rfl rfl rfl rfl) (pmk_own PySem.F.excBase_ValueError T.xx_BadFormat T.xg_BadFormat T.xk_BadFormat (raises_own T.xb_BadFormat T.xt_BadFormat) rfl))) pss_nil)
      (pss_cons (ps_fld (pv 0) (pv 1) rfl)
      (pss_cons (ps_fld (pv 0) (pv 2) rfl)
      (pss_cons (ps_fld (pv 0) (pv 3) rfl)
      (pss_one (ps_fld (pv 0) (pv 4) rfl)))))))), ?_⟩
    obtain ⟨KK, EE, hK0, hE, hw⟩ := cW_gen hw
    have S0 := Sep.startM (M := [p_self]) sG (all_cons (some_ne h_self) all_nil) gM
    unfold F_Format___init__ at hw
    refine ⟨_, rfl, _, _, rfl, rfl, _, rfl, ?_⟩
    refine iteD (fun c128 => ?_) (fun c128 => ?_)
    · have hw := cW_pos c128 hw
      refine ⟨_, _, rfl, rfl, _, rfl, ?_⟩
      refine iteD (fun c129 => ?_) (fun c129 => ?_)
      · have hw := cW_pos c129 hw
        refine ⟨_, rfl, _, _, rfl, rfl, _, rfl, ?_⟩
        refine iteD (fun c130 => ?_) (fun c130 => ?_)
        · have hw := cW_pos c130 hw
          refine ⟨_, _, rfl, rfl, _, rfl, ?_⟩
          refine iteN (fun c131 => ?_) (fun c131 => ?_)
          · have hw := cW_neg c131 hw
            exact hE 1 (cW_er hw) _ (sameX_of S0.base)
          · have hw := cW_pos c131 hw
            refine ⟨_, rfl, _, _, rfl, rfl, _, rfl, ?_⟩
            refine iteD (fun c132 => ?_) (fun c132 => ?_)
            · have hw := cW_pos c132 hw
              refine ⟨_, _, rfl, rfl, _, rfl, ?_⟩
              refine iteN (fun c133 => ?_) (fun c133 => ?_)
              · have hw := cW_neg c133 hw
                exact hE 1 (cW_er hw) _ (sameX_of S0.base)
              · have hw := cW_pos c133 hw
                refine ⟨_, rfl, _, _, rfl, rfl, _, rfl, ?_⟩
                refine iteD (fun c134 => ?_) (fun c134 => ?_)
                · have hw := cW_pos c134 hw
                  refine ⟨_, _, rfl, rfl, _, rfl, ?_⟩
                  refine iteN (fun c135 => ?_) (fun c135 => ?_)
                  · have hw := cW_neg c135 hw
                    exact hE 1 (cW_er hw) _ (sameX_of S0.base)
                  · have hw := cW_pos c135 hw
                    refine ⟨_, rfl, _, rfl, _, _, _, _, rfl, h_self, T.cl_Format, T.n_Format_width, (by show 0 < 1000; decide), ?_⟩
                    generalize g136 : upd H p_self _ = H137
                    obtain ⟨x138, h139⟩ := gen_mut g136
                    have h140 : H137 p_self = some (.ins AD.c_Format dx_self [("width", V.int (width'))]) := h139
                    have S141 := S0.mut1 x138 (.head _) h140
                    refine ⟨_, rfl, _, rfl, _, _, _, _, rfl, h140, T.cl_Format, T.n_Format_height, (by show 1 < 1000; decide), ?_⟩
                    generalize g142 : upd H137 p_self _ = H143
                    obtain ⟨x144, h145⟩ := gen_mut g142
                    have h146 : H143 p_self = some (.ins AD.c_Format dx_self [("width", V.int (width')), ("height", V.int (height'))]) := h145
                    have S147 := S141.mut1 x144 (.head _) h146
                    refine ⟨_, rfl, _, rfl, _, _, _, _, rfl, h146, T.cl_Format, T.n_Format_depth, (by show 2 < 1000; decide), ?_⟩
                    generalize g148 : upd H143 p_self _ = H149
                    obtain ⟨x150, h151⟩ := gen_mut g148
                    have h152 : H149 p_self = some (.ins AD.c_Format dx_self [("width", V.int (width')), ("height", V.int (height')), ("depth", V.int (depth'))]) := h151
                    have S153 := S147.mut1 x150 (.head _) h152
                    refine ⟨_, rfl, _, rfl, _, _, _, _, rfl, h152, T.cl_Format, T.n_Format_chroma, (by show 3 < 1000; decide), ?_⟩
                    generalize g154 : upd H149 p_self _ = H155
                    obtain ⟨x156, h157⟩ := gen_mut g154
                    have h158 : H155 p_self = some (.ins AD.c_Format dx_self [("width", V.int (width')), ("height", V.int (height')), ("depth", V.int (depth')), ("chroma", V.int (chroma'))]) := h157
                    have S159 := S153.mut1 x156 (.head _) h158
                    have hw := cW_ok hw
                    exact hK0 _ hw _ (sameX_of S159.base) h158
                · have hw := cW_neg c134 hw
                  refine ⟨_, rfl, ?_⟩
                  refine iteT ?_
                  exact hE 1 (cW_er hw) _ (sameX_of S0.base)
            · have hw := cW_neg c132 hw
              refine ⟨_, rfl, ?_⟩
              refine iteT ?_
              exact hE 1 (cW_er hw) _ (sameX_of S0.base)
        · have hw := cW_neg c130 hw
          refine ⟨_, rfl, ?_⟩
          refine iteT ?_
          exact hE 1 (cW_er hw) _ (sameX_of S0.base)
      · have hw := cW_neg c129 hw
        refine iteT ?_
        exact hE 1 (cW_er hw) _ (sameX_of S0.base)
    · have hw := cW_neg c128 hw
      refine ⟨_, rfl, ?_⟩
      refine iteF ?_
      refine iteT ?_
      exact hE 1 (cW_er hw) _ (sameX_of S0.base)

abbrev N__require : List Str := ["holds", "text"]
theorem sc__require : FnScope N__require ["holds", "text"] (defScope s__require) := ⟨rfl, rfl, rfl, by decide +kernel, rfl, by decide +kernel, by decide +kernel⟩
theorem ok__require (D : DefX K mg "_require" s__require ["holds", "text"] pats__require) (T : Txt w K mg AD)  : CalX P w K mg base 1 "_require" (sp__require K AD) pats__require := by
  refine D.ok sc__require (fun vs H Q E h => ?_) (fun f cdv A_ outer s H vs Q E hr h => ?_)
  · obtain ⟨G, holds', text', rfl, _⟩ := h
    rfl
  · obtain ⟨G, holds', text', rfl, sG, hw⟩ := h
    refine ⟨_, (pss_one (ps_if (pt_not (pt_val (pv 0))) (pss_one (ps_raise rfl (takes_of rfl rfl rfl rfl) (SkE.pmk_own1 PySem.F.excBase_ValueError T.xx_BadHeader T.xg_BadHeader T.xk_BadHeader (raises_own T.xb_BadHeader T.xt_BadHeader) rfl (pv 1)))) pss_nil)), ?_⟩
    obtain ⟨KK, EE, hK0, hE, hw⟩ := cW_gen hw
    have S0 := Sep.startG sG
    unfold F__require at hw
    refine ⟨_, rfl, _, rfl, ?_⟩
    refine iteBN (fun c160 => ?_) (fun c160 => ?_)
    · have hw := cW_negB c160 hw
      refine ⟨_, rfl, ?_⟩
      exact hE 3 (cW_er hw)
    · have hw := cW_pos c160 hw
      have hw := cW_ok hw
      exact hK0 _ hw

abbrev N_Settings___init__ : List Str := ["self", "fmt", "slots", "rows", "deblock", "offset", "layers"]
theorem sc_Settings___init__ : FnScope N_Settings___init__ ["self", "fmt", "slots", "rows", "deblock", "offset", "layers"] (defScope s_Settings___init__) := ⟨rfl, rfl, rfl, by decide +kernel, rfl, by decide +kernel, by decide +kernel⟩
theorem ok_Settings___init__ (D : InitX K mg AD.c_Settings "Settings" "Settings.__init__" s_Settings___init__ ["self", "fmt", "slots", "rows", "deblock", "offset", "layers"] pats_Settings___init__) (T : Txt w K mg AD) (c__require : CalX P w K mg base 1 "_require" (sp__require K AD) pats__require) : MakX P w K mg base 2 "Settings" AD.c_Settings (sp_Settings___init__ K AD) pats_Settings___init__ := by
  refine D.ok sc_Settings___init__ (fun vs H Q E h => ?_) (fun f cdv A_ outer s H vs Q E hr h => ?_)
  · obtain ⟨G, p_self, dx_self, p_fmt, dx_fmt, fmt', slots', rows', deblock', offset', layers', rfl, _⟩ := h
    rfl
  · obtain ⟨G, p_self, dx_self, p_fmt, dx_fmt, fmt', slots', rows', deblock', offset', layers', rfl, sG, gM, h_self, h_p_fmt, hw⟩ := h
    refine ⟨_, (pss_cons (ps_expr (vx_callX c__require pat__require_0 (.head _) hr (by decide) (takes_of rfl rfl rfl rfl) rfl (pa_cons (pe_chain op_le op_le pe_int (pv 2) pe_int) (pa_cons pe_str pa_nil)) pk_nil))
      (pss_cons (ps_expr (vx_callX c__require pat__require_0 (.head _) hr (by decide) (takes_of rfl rfl rfl rfl) rfl (pa_cons (pe_chain op_le op_le pe_int (pv 3) pe_int) (pa_cons pe_str pa_nil)) pk_nil))
      (pss_cons (ps_expr (vx_callX c__require pat__require_0 (.head _) hr (by decide) (takes_of rfl rfl rfl rfl) rfl (pa_cons (pe_chain op_le op_le pe_int (pv 6) pe_int) (pa_cons pe_str pa_nil)) pk_nil))
      (pss_cons (ps_fld (pv 0) (pv 1) rfl)
      (pss_cons (ps_fld (pv 0) (pv 2) rfl)
      (pss_cons (ps_fld (pv 0) (pv 3) rfl)
      (pss_cons (ps_fld (pv 0) (pv 4) rfl)
      (pss_cons (ps_fld (pv 0) (pv 5) rfl)
      (pss_one (ps_fld (pv 0) (pv 6) rfl)))))))))), ?_⟩
    obtain ⟨KK, EE, hK0, hE, hw⟩ := cW_gen hw
    have S0 := Sep.startM (M := [p_self]) sG (all_cons (some_ne h_self) all_nil) gM
    unfold F_Settings___init__ at hw
    refine vv_chain (ta := (tC (V.int 1))) (tb := (tVar 2)) (tc := (tC (V.int 4))) (r := (rI0 fun i j => V.bl (decide (i ≤ j)))) (r' := (rI0 fun i j => V.bl (decide (i ≤ j)))) (x := V.int (1)) (y := V.int (slots')) (z := V.int (4)) (a := decide (1 ≤ slots')) (b := decide (slots' ≤ 4)) ?hx161 ?hy162 ?hz163 (fun Q q => ⟨_, _, rfl, rfl, q⟩) (fun Q q => ⟨_, _, rfl, rfl, q⟩) _ ?_
    case hx161 => exact val_c
    case hy162 => exact (val_var rfl)
    case hz163 => exact val_c
    refine ⟨rfl, rfl, G, _, _, rfl, S0.sG, cW_call hw (fun v164 hw => ?_) (fun e he => hE e he _ (sameX_of S0.base))⟩
    refine vv_chain (ta := (tC (V.int 1))) (tb := (tVar 3)) (tc := (tC (V.int 32))) (r := (rI0 fun i j => V.bl (decide (i ≤ j)))) (r' := (rI0 fun i j => V.bl (decide (i ≤ j)))) (x := V.int (1)) (y := V.int (rows')) (z := V.int (32)) (a := decide (1 ≤ rows')) (b := decide (rows' ≤ 32)) ?hx165 ?hy166 ?hz167 (fun Q q => ⟨_, _, rfl, rfl, q⟩) (fun Q q => ⟨_, _, rfl, rfl, q⟩) _ ?_
    case hx165 => exact val_c
    case hy166 => exact (val_var rfl)
    case hz167 => exact val_c
    refine ⟨rfl, rfl, G, _, _, rfl, S0.sG, cW_call hw (fun v168 hw => ?_) (fun e he => hE e he _ (sameX_of S0.base))⟩
    refine vv_chain (ta := (tC (V.int 1))) (tb := (tVar 6)) (tc := (tC (V.int 4))) (r := (rI0 fun i j => V.bl (decide (i ≤ j)))) (r' := (rI0 fun i j => V.bl (decide (i ≤ j)))) (x := V.int (1)) (y := V.int (layers')) (z := V.int (4)) (a := decide (1 ≤ layers')) (b := decide (layers' ≤ 4)) ?hx169 ?hy170 ?hz171 (fun Q q => ⟨_, _, rfl, rfl, q⟩) (fun Q q => ⟨_, _, rfl, rfl, q⟩) _ ?_
    case hx169 => exact val_c
    case hy170 => exact (val_var rfl)
    case hz171 => exact val_c
    refine ⟨rfl, rfl, G, _, _, rfl, S0.sG, cW_call hw (fun v172 hw => ?_) (fun e he => hE e he _ (sameX_of S0.base))⟩
    refine ⟨_, rfl, _, rfl, _, _, _, _, rfl, h_self, T.cl_Settings, T.n_Settings_fmt, (by show 0 < 1000; decide), ?_⟩
    generalize g173 : upd H p_self _ = H174
    obtain ⟨x175, h176⟩ := gen_mut g173
    have h177 : H174 p_self = some (.ins AD.c_Settings dx_self [("fmt", V.ref p_fmt)]) := h176
    have S178 := S0.mut1 x175 (.head _) h177
    refine ⟨_, rfl, _, rfl, _, _, _, _, rfl, h177, T.cl_Settings, T.n_Settings_slots, (by show 1 < 1000; decide), ?_⟩
    generalize g179 : upd H174 p_self _ = H180
    obtain ⟨x181, h182⟩ := gen_mut g179
    have h183 : H180 p_self = some (.ins AD.c_Settings dx_self [("fmt", V.ref p_fmt), ("slots", V.int (slots'))]) := h182
    have S184 := S178.mut1 x181 (.head _) h183
    refine ⟨_, rfl, _, rfl, _, _, _, _, rfl, h183, T.cl_Settings, T.n_Settings_rows, (by show 2 < 1000; decide), ?_⟩
    generalize g185 : upd H180 p_self _ = H186
    obtain ⟨x187, h188⟩ := gen_mut g185
    have h189 : H186 p_self = some (.ins AD.c_Settings dx_self [("fmt", V.ref p_fmt), ("slots", V.int (slots')), ("rows", V.int (rows'))]) := h188
    have S190 := S184.mut1 x187 (.head _) h189
    refine ⟨_, rfl, _, rfl, _, _, _, _, rfl, h189, T.cl_Settings, T.n_Settings_deblock, (by show 3 < 1000; decide), ?_⟩
    generalize g191 : upd H186 p_self _ = H192
    obtain ⟨x193, h194⟩ := gen_mut g191
    have h195 : H192 p_self = some (.ins AD.c_Settings dx_self [("fmt", V.ref p_fmt), ("slots", V.int (slots')), ("rows", V.int (rows')), ("deblock", V.bl (deblock'))]) := h194
    have S196 := S190.mut1 x193 (.head _) h195
    refine ⟨_, rfl, _, rfl, _, _, _, _, rfl, h195, T.cl_Settings, T.n_Settings_offset, (by show 4 < 1000; decide), ?_⟩
    generalize g197 : upd H192 p_self _ = H198
    obtain ⟨x199, h200⟩ := gen_mut g197
    have h201 : H198 p_self = some (.ins AD.c_Settings dx_self [("fmt", V.ref p_fmt), ("slots", V.int (slots')), ("rows", V.int (rows')), ("deblock", V.bl (deblock')), ("offset", V.bl (offset'))]) := h200
    have S202 := S196.mut1 x199 (.head _) h201
    refine ⟨_, rfl, _, rfl, _, _, _, _, rfl, h201, T.cl_Settings, T.n_Settings_layers, (by show 5 < 1000; decide), ?_⟩
    generalize g203 : upd H198 p_self _ = H204
    obtain ⟨x205, h206⟩ := gen_mut g203
    have h207 : H204 p_self = some (.ins AD.c_Settings dx_self [("fmt", V.ref p_fmt), ("slots", V.int (slots')), ("rows", V.int (rows')), ("deblock", V.bl (deblock')), ("offset", V.bl (offset')), ("layers", V.int (layers'))]) := h206
    have S208 := S202.mut1 x205 (.head _) h207
    have hw := cW_ok hw
    exact hK0 _ hw _ (sameX_of S208.base) h207

abbrev N__law_settings : List Str := ["n", "fmt"]
theorem sc__law_settings : FnScope N__law_settings ["n"] (defScope s__law_settings) := ⟨rfl, rfl, rfl, by decide +kernel, rfl, by decide +kernel, by decide +kernel⟩
theorem ok__law_settings (D : DefX K mg "_law_settings" s__law_settings ["n"] pats__law_settings) (T : Txt w K mg AD) (c_Format___init__ : MakX P w K mg base 1 "Format" AD.c_Format (sp_Format___init__ K AD) pats_Format___init__) (c_Settings___init__ : MakX P w K mg base 2 "Settings" AD.c_Settings (sp_Settings___init__ K AD) pats_Settings___init__) : CalX P w K mg base 4 "_law_settings" (sp__law_settings K AD) pats__law_settings := by
  refine D.ok sc__law_settings (fun vs H Q E h => ?_) (fun f cdv A_ outer s H vs Q E hr h => ?_)
  · obtain ⟨G, a_n, n', rfl, _⟩ := h
    rfl
  · obtain ⟨G, a_n, n', rfl, sG, q_n, hw⟩ := h
    refine ⟨_, (pss_cons (ps_set (i := 1) sc__law_settings.nd rfl (Or.inl rfl) (vx_makeX c_Format___init__ pat_Format___init___0 (.head _) hr (by decide) (takes_of rfl rfl rfl rfl) rfl (pa_cons (pe_ix (ix_listK (K := K)) (pv 0) pe_int (fun _ _ => rfl)) (pa_cons (pe_ix (ix_listK (K := K)) (pv 0) pe_int (fun _ _ => rfl)) pa_nil)) (pk_cons (pe_ix (ix_listK (K := K)) (pv 0) pe_int (fun _ _ => rfl)) (pk_cons (pe_ix (ix_listK (K := K)) (pv 0) pe_int (fun _ _ => rfl)) pk_nil))))
      (pss_one (ps_ret (vx_makeX c_Settings___init__ pat_Settings___init___0 (.head _) hr (by decide) (takes_of rfl rfl rfl rfl) rfl (pa_cons (pv 1) pa_nil) (pk_cons (pe_ix (ix_listK (K := K)) (pv 0) pe_int (fun _ _ => rfl)) (pk_cons (pe_ix (ix_listK (K := K)) (pv 0) pe_int (fun _ _ => rfl)) (pk_cons (pe_cmp (pc_eqI (pe_ix (ix_listK (K := K)) (pv 0) pe_int (fun _ _ => rfl)) pe_int)) (pk_cons (pe_cmp (pc_eqI (pe_ix (ix_listK (K := K)) (pv 0) pe_int (fun _ _ => rfl)) pe_int)) (pk_cons (pe_ix (ix_listK (K := K)) (pv 0) pe_int (fun _ _ => rfl)) pk_nil))))))))), ?_⟩
    obtain ⟨KK, EE, hK0, hE, hw⟩ := cW_gen hw
    have S0 := Sep.startG sG
    unfold F__law_settings at hw
    obtain ⟨g209, hw⟩ := cW_grd hw
    obtain ⟨g210, hw⟩ := cW_grd hw
    obtain ⟨g211, hw⟩ := cW_grd hw
    obtain ⟨g212, hw⟩ := cW_grd hw
    refine ⟨_, rfl, _, _, _, _, rfl, rfl, (SqL.of (S0.bM _ _ q_n)), (atI_map g209), _, rfl, _, _, _, _, rfl, rfl, (SqL.of (S0.bM _ _ q_n)), (atI_map g210), _, rfl, _, _, _, _, rfl, rfl, (SqL.of (S0.bM _ _ q_n)), (atI_map g211), _, rfl, _, _, _, _, rfl, rfl, (SqL.of (S0.bM _ _ q_n)), (atI_map g212), rfl, rfl, fun x213 dx214 n215 n216 n217 => ?_⟩
    generalize g218 : upd (upd H dx214 _) x213 _ = H219
    obtain ⟨e220, h221⟩ := gen_obj n215 n216 n217 g218
    have fr222 := S0.free n215
    have S223 := S0.new n215 e220 h221 fr222
    refine ⟨G, _, _, _, _, _, _, rfl, S223.sG, (S223.gno (all_cons (.head _) all_nil)), h221, cW_call hw (fun v224 hw H225 x226 h227 => ⟨rfl, ?_⟩) (fun e he H2 e2 => hE e he H2 (Same.trans S0.b0 (same_mut e220 e2 n215)))⟩
    have S228 : Sep _ _ _ _ H225 [x213] := Sep.init S223 x226 (.head _) h227 [] all_nil
    obtain ⟨g229, hw⟩ := cW_grd hw
    obtain ⟨g230, hw⟩ := cW_grd hw
    obtain ⟨g231, hw⟩ := cW_grd hw
    obtain ⟨g232, hw⟩ := cW_grd hw
    obtain ⟨g233, hw⟩ := cW_grd hw
    refine ⟨_, rfl, _, rfl, _, _, _, _, rfl, rfl, (SqL.of (S228.bM _ _ q_n)), (atI_map g229), _, rfl, _, _, _, _, rfl, rfl, (SqL.of (S228.bM _ _ q_n)), (atI_map g230), _, rfl, _, _, _, _, rfl, rfl, (SqL.of (S228.bM _ _ q_n)), (atI_map g231), _, _, rfl, rfl, _, rfl, _, _, _, _, rfl, rfl, (SqL.of (S228.bM _ _ q_n)), (atI_map g232), _, _, rfl, rfl, _, rfl, _, _, _, _, rfl, rfl, (SqL.of (S228.bM _ _ q_n)), (atI_map g233), rfl, rfl, fun x234 dx235 n236 n237 n238 => ?_⟩
    generalize g239 : upd (upd H225 dx235 _) x234 _ = H240
    obtain ⟨e241, h242⟩ := gen_obj n236 n237 n238 g239
    have fr243 := S228.free n236
    have S244 := S228.new n236 e241 h242 fr243
    have h245 := (e241 _ _ h227)
    refine ⟨G, _, _, _, _, v224, _, _, _, _, _, rfl, S244.sG, (S244.gno (all_cons (.head _) all_nil)), h242, ((hideL_out (ni1 (ne_of_none h227 n236))).trans h245), cW_call hw (fun v246 hw H247 x248 h249 => ⟨rfl, ?_⟩) (fun e he H2 e2 => hE e he H2 (Same.trans S228.b0 (same_mut e241 e2 n236)))⟩
    have S250 : Sep _ _ _ _ H247 [x234, x213] := Sep.init S244 x248 (.head _) h249 [] all_nil
    have h251 := ((SameXs.of x248) _ _ h245 (ni1 (ne_of_none h227 n236)))
    have hw := cW_ok hw
    exact hK0 _ hw _ _ _ _ _ S250.b0 fr243 fr222 (ne_of_none h227 n236).symm h249 h251

abbrev N__law_picture : List Str := ["cell", "n", "draws", "kind", "store", "refs", "weight", "number", "level", "slot"]
theorem sc__law_picture : FnScope N__law_picture ["cell", "n"] (defScope s__law_picture) := ⟨rfl, rfl, rfl, by decide +kernel, rfl, by decide +kernel, by decide +kernel⟩
theorem ok__law_picture (D : DefX K mg "_law_picture" s__law_picture ["cell", "n"] pats__law_picture) (T : Txt w K mg AD) (c__law_draws : CalX P w K mg base 1 "_law_draws" (sp__law_draws K AD) pats__law_draws) (c__law_between : CalX P w K mg base 1 "_law_between" (sp__law_between K AD) pats__law_between) : CalX P w K mg base 2 "_law_picture" (sp__law_picture K AD) pats__law_picture := by
  refine D.ok sc__law_picture (fun vs H Q E h => ?_) (fun f cdv A_ outer s H vs Q E hr h => ?_)
  · obtain ⟨G, cell', a_n, n', rfl, _⟩ := h
    rfl
  · obtain ⟨G, cell', a_n, n', rfl, sG, q_n, hw⟩ := h
    refine ⟨_, (pss_cons (ps_set (i := 2) sc__law_picture.nd rfl (Or.inr rfl) (vx_callX c__law_draws pat__law_draws_0 (.head _) hr (by decide) (takes_of rfl rfl rfl rfl) rfl (pa_cons (pv 0) (pa_cons (pe_lst (pa_cons pe_int (pa_cons pe_int (pa_cons pe_int (pa_cons pe_int (pa_cons pe_int (pa_cons pe_int (pa_cons pe_int (pa_cons pe_int (pa_cons pe_int (pa_cons pe_int (pa_cons pe_int (pa_cons pe_int (pa_cons pe_int (pa_cons pe_int pa_nil))))))))))))))) pa_nil)) pk_nil))
      (pss_cons (ps_set (i := 3) sc__law_picture.nd rfl (Or.inl rfl) (pe_ix (ix_listK (K := K)) (pv 2) pe_int (fun _ _ => rfl)))
      (pss_cons (ps_setLc (i := 4) (y := "store") rfl sc__law_picture.nd rfl rfl (sw_true rfl rfl rfl (by decide +kernel)) (own := [("slot", 9)]) (g := gName 9) (pi_range1 rfl T.b_range (pa_cons (pe_ix (ix_listK (K := K)) (pv 1) pe_int (fun _ _ => rfl)) pa_nil)) (blkOk_by (own := [("slot", 9)]) (N := N__law_picture) (sc := defScope s__law_picture) (by decide +kernel)) (fun _ _ _ _ _ => (pg_name (i := 9) sc__law_picture.nd rfl (Or.inl rfl))) (fun _ _ _ _ _ => pts_one (pt_cmp (pc_eqI (pe_op op_and (pe_op op_shr (pe_ix (ix_listK (K := K)) (pv 2) pe_int (fun _ _ => rfl)) (pv 9)) pe_int) pe_int))) (fun _ _ _ _ _ => (pv 9)))
      (pss_cons (ps_set (i := 5) sc__law_picture.nd rfl (Or.inl rfl) (pe_lst (pa_cons (pe_op op_mod (pe_callTy call_int1 (by rfl) T.b_int (by decide +kernel) (pa_cons (pe_ix (ix_listK (K := K)) (pv 2) pe_int (fun _ _ => rfl)) pa_nil)) (pe_ix (ix_listK (K := K)) (pv 1) pe_int (fun _ _ => rfl))) (pa_cons (pe_op op_mod (pe_callTy call_int1 (by rfl) T.b_int (by decide +kernel) (pa_cons (pe_ix (ix_listK (K := K)) (pv 2) pe_int (fun _ _ => rfl)) pa_nil)) (pe_ix (ix_listK (K := K)) (pv 1) pe_int (fun _ _ => rfl))) pa_nil))))
      (C8.pss_cut (ps_if (pt_cmp (pc_eqI (pv 3) pe_int)) (pss_one (ps_set (i := 5) sc__law_picture.nd rfl (Or.inl rfl) (pe_lst pa_nil))) pss_nil)
      (C8.pss_cut (ps_if (PW.pt (pw_and (pt_cmp (pc_eqI (pv 3) pe_int)) (pw_and1 (pt_cmp (pc_eqI (pe_ix (ix_listK (K := K)) (pv 2) pe_int (fun _ _ => rfl)) pe_int))))) (pss_one (ps_set (i := 5) sc__law_picture.nd rfl (Or.inl rfl) (pe_slice (sl_listK (K := K)) (pv 5) po_none (po_some pe_int)))) pss_nil)
      (pss_cons (ps_set (i := 6) sc__law_picture.nd rfl (Or.inl rfl) pe_int)
      (C8.pss_cut (ps_if (pt_cmp (pc_eqI (pv 3) pe_int)) (pss_one (ps_set (i := 6) sc__law_picture.nd rfl (Or.inl rfl) (vx_callX c__law_between pat__law_between_0 (.head _) hr (by decide) (takes_of rfl rfl rfl rfl) rfl (pa_cons (pe_ix (ix_listK (K := K)) (pv 2) pe_int (fun _ _ => rfl)) (pa_cons (pe_ix (ix_listK (K := K)) (pv 2) pe_int (fun _ _ => rfl)) (pa_cons pe_int (pa_cons pe_int pa_nil)))) pk_nil))) pss_nil)
      (pss_cons (ps_set (i := 7) sc__law_picture.nd rfl (Or.inl rfl) (vx_callX c__law_between pat__law_between_0 (.head _) hr (by decide) (takes_of rfl rfl rfl rfl) rfl (pa_cons (pe_ix (ix_listK (K := K)) (pv 2) pe_int (fun _ _ => rfl)) (pa_cons (pe_ix (ix_listK (K := K)) (pv 2) pe_int (fun _ _ => rfl)) (pa_cons pe_int (pa_cons pe_int pa_nil)))) pk_nil))
      (pss_cons (ps_set (i := 8) sc__law_picture.nd rfl (Or.inl rfl) (vx_callX c__law_between pat__law_between_0 (.head _) hr (by decide) (takes_of rfl rfl rfl rfl) rfl (pa_cons (pe_ix (ix_listK (K := K)) (pv 2) pe_int (fun _ _ => rfl)) (pa_cons (pe_ix (ix_listK (K := K)) (pv 2) pe_int (fun _ _ => rfl)) (pa_cons pe_int (pa_cons pe_int pa_nil)))) pk_nil))
      (pss_one (ps_ret (pe_lst (pa_cons (pv 7) (pa_cons (pv 3) (pa_cons (pv 8) (pa_cons (pv 4) (pa_cons (pv 5) (pa_cons (pv 6) (pa_cons (pe_op op_mod (pe_callTy call_int1 (by rfl) T.b_int (by decide +kernel) (pa_cons (pe_ix (ix_listK (K := K)) (pv 2) pe_int (fun _ _ => rfl)) pa_nil)) (pe_ix (ix_listK (K := K)) (pv 1) pe_int (fun _ _ => rfl))) (pa_cons (pe_ix (ix_listK (K := K)) (pv 2) pe_int (fun _ _ => rfl)) (pa_cons (pe_op op_mul (pe_ix (ix_listK (K := K)) (pv 1) pe_int (fun _ _ => rfl)) (pe_op op_sub (pe_ix (ix_listK (K := K)) (pv 2) pe_int (fun _ _ => rfl)) pe_int)) pa_nil)))))))))))))))))))))), ?_⟩
    obtain ⟨KK, EE, hK0, hE, hw⟩ := cW_gen hw
    have S0 := Sep.startG sG
    unfold F__law_picture at hw
    refine ⟨_, rfl, (by show 14 ≤ sizeLine; decide), fun p252 n253 => ?_⟩
    generalize g254 : upd H p252 _ = H255
    obtain ⟨e256, h257⟩ := gen_new n253 g254
    have h258 : H255 p252 = some (.lst (([6, 1000, 3, 6, 32, 16, 2, 4, 4, 6, 17, 4, 2, 13] : (List Int)).map V.int)) := h257
    have fr259 := S0.free n253
    have S260 := S0.new n253 e256 h258 fr259
    refine ⟨rfl, rfl, G, _, _, _, rfl, S260.sG, (hide_nil h258), cW_call hw (fun v261 hw p264 H262 n265 e263 h266 => ?_) (fun e he H2 e2 => hE e he H2 (Same.trans S260.b0 e2))⟩
    have h267 : H262 p264 = some (.lst ((v261 : (List Int)).map V.int)) := h266
    have fr268 := S260.free n265
    have S269 := S260.new n265 e263 h267 fr268
    obtain ⟨g270, hw⟩ := cW_grd hw
    refine ⟨_, rfl, _, _, _, _, rfl, rfl, (SqL.of h267), (atI_map g270), ?_⟩
    have hw := cW_bnd hw
    obtain ⟨g272, hw⟩ := cW_grd hw
    obtain ⟨g273, hw⟩ := cW_grd hw
    obtain ⟨K276, hK277, hw⟩ := cW_push hw
    refine ⟨_, rfl, _, _, _, _, rfl, rfl, (SqL.of (S269.bM _ _ q_n)), (atI_map g272), _, rfl, g273.1, g273.2, fun D278 n279 => lc_range (lo := 0) (n := Int.toNat ((itD (n') (4)))) (fun i H' => ∃ (G' : Hp) (acc281 : (List Int)), Same G G' ∧ Sep [] H G G' H' [D278, p264] ∧ H' p264 = some (.lst ((v261 : (List Int)).map V.int)) ∧ H' D278 = some (.lst ((acc281 : (List Int)).map V.int)) ∧ Same H262 H' ∧ cW (mapF (List.drop i (rng (0) (Int.toNat ((itD (n') (4)))))) acc281 (fun x => noEr (F__law_picture_c1 (v261) x))) K276 EE) ?_ ?_ ?_⟩
    · generalize g283 : upd H262 D278 _ = H284
      obtain ⟨e285, h286⟩ := gen_new n279 g283
      have fr287 := S269.free n279
      have S288 := S269.new n279 e285 h286 fr287
      have h289 := (e285 _ _ h267)
      exact ⟨_, [], Same.refl _, (S288.sub (all_cons (.head _) (all_cons (.tail _ (.head _)) all_nil))), h289, h286, e285, hw⟩
    · intro i H290 hi hw
      obtain ⟨G293, acc295, eG294, S291, h302, h292, eo301, hw⟩ := hw
      obtain ⟨z303, hw⟩ := cW_mapF (rng_get hi) hw
      generalize (0 + (i : Int)) = x304 at hw ⊢
      have hw := cW_noEr hw
      have hw : cW (F__law_picture_c1 (v261) (x304)) _ (fun _ => False) := hw
      unfold F__law_picture_c1 at hw
      refine ⟨rfl, ?_⟩
      obtain ⟨g306, hw⟩ := cW_grd hw
      obtain ⟨g307, hw⟩ := cW_grd hw
      refine ⟨_, rfl, _, _, _, _, rfl, rfl, (SqL.of h302), (atI_map g306), _, rfl, _, _, rfl, rfl, g307, _, _, rfl, rfl, _, _, rfl, rfl, _, rfl, ?_⟩
      refine iteD (fun c308 => ?_) (fun c308 => ?_)
      · have hw := cW_pos c308 hw
        refine ⟨_, rfl, _, h292, (app_lenM z303), ?_⟩
        generalize g309 : upd H290 D278 _ = H310
        obtain ⟨x311, h312⟩ := gen_mut g309
        have S313 := S291.mut1 x311 (.head _) h312
        have hw := cW_ok hw
        have h314 := (x311 _ _ h302 (ne_of_none h267 n279))
        exact ⟨_, (acc295 ++ [x304]), eG294, S313, h314, (snoc_map h312), (same_mut eo301 x311 n279), hw⟩
      · have hw := cW_neg c308 hw
        have hw := cW_ok hw
        exact ⟨_, acc295, eG294, S291, h302, h292, eo301, hw⟩
    intro H315 hw
    obtain ⟨G318, acc320, eG319, S316, h327, h317, eo326, hw⟩ := hw
    have hw := hK277 _ (cW_mapF0 (rng_len _ _).symm hw)
    have fr328 := S269.free n279
    obtain ⟨g329, hw⟩ := cW_grd hw
    refine ⟨_, rfl, _, _, _, _, rfl, rfl, (SqL.of h327), (atI_map g329), .inl ⟨_, rfl, ?_⟩⟩
    obtain ⟨g330, hw⟩ := cW_grd hw
    obtain ⟨g331, hw⟩ := cW_grd hw
    obtain ⟨g332, hw⟩ := cW_grd hw
    refine ⟨_, rfl, _, _, _, _, rfl, rfl, (SqL.of (S316.bM _ _ q_n)), (atI_map g330), _, _, rfl, rfl, g331, _, rfl, _, _, _, _, rfl, rfl, (SqL.of h327), (atI_map g332), .inl ⟨_, rfl, ?_⟩⟩
    obtain ⟨g333, hw⟩ := cW_grd hw
    obtain ⟨g334, hw⟩ := cW_grd hw
    refine ⟨_, rfl, _, _, _, _, rfl, rfl, (SqL.of (S316.bM _ _ q_n)), (atI_map g333), _, _, rfl, rfl, g334, (by show 2 ≤ sizeLine; decide), fun p335 n336 => ?_⟩
    generalize g337 : upd H315 p335 _ = H338
    obtain ⟨e339, h340⟩ := gen_new n336 g337
    have h341 : H338 p335 = some (.lst (([((itD (v261) (7)) % (itD (n') (4))), ((itD (v261) (8)) % (itD (n') (4)))] : (List Int)).map V.int)) := h340
    have fr342 := S316.free n336
    have S343 := S316.new n336 e339 h341 fr342
    refine ⟨fun σ H' => ∃ (p350 : Addr) (refs_349 : (List Int)) (G' : Hp), σ = [some (V.int (cell')), some (V.ref a_n), some (V.ref p264), some (V.int ((itD (v261) (2)))), some (V.ref D278), some (V.ref p350), none, none, none, none] ∧ Same G318 G' ∧ Sep [] H G G' H' [p264, D278, p350] ∧ H' p264 = some (.lst ((v261 : (List Int)).map V.int)) ∧ H' D278 = some (.lst ((acc320 : (List Int)).map V.int)) ∧ H' p350 = some (.lst ((refs_349 : (List Int)).map V.int)) ∧ H p350 = none ∧ p350 ≠ p264 ∧ p350 ≠ D278 ∧ cW (F__law_picture_k2 (n') (v261) ((itD (v261) (2))) (acc320) refs_349) KK EE, ?_, ?_⟩
    · obtain ⟨K351, hK352, hw⟩ := cW_push hw
      refine ⟨_, rfl, _, _, rfl, rfl, _, rfl, ?_⟩
      refine iteD (fun c353 => ?_) (fun c353 => ?_)
      · have hw := cW_pos c353 hw
        refine ⟨(by show 0 ≤ sizeLine; decide), fun p354 n355 => ?_⟩
        generalize g356 : upd H338 p354 _ = H357
        obtain ⟨e358, h359⟩ := gen_new n355 g356
        have h360 : H357 p354 = some (.lst ((([] : (List Int)) : (List Int)).map V.int)) := h359
        have fr361 := S343.free n355
        have S362 := S343.new n355 e358 h360 fr361
        have hw := cW_ok hw
        have hw := hK352 _ hw
        have h363 := (e358 _ _ (e339 _ _ h327))
        have h364 := (e358 _ _ (e339 _ _ h317))
        exact ⟨_, (([] : (List Int))), _, rfl, (Same.refl _), (S362.sub (all_cons (.tail _ (.tail _ (.tail _ (.head _)))) (all_cons (.tail _ (.tail _ (.head _))) (all_cons (.head _) all_nil)))), h363, h364, h360, fr361, (ne_of_none (e339 _ _ h327) n355).symm, (ne_of_none (e339 _ _ h317) n355).symm, hw⟩
      · have hw := cW_neg c353 hw
        have hw := cW_ok hw
        have hw := hK352 _ hw
        have h365 := (e339 _ _ h327)
        have h366 := (e339 _ _ h317)
        exact ⟨_, ([((itD (v261) (7)) % (itD (n') (4))), ((itD (v261) (8)) % (itD (n') (4)))]), _, rfl, (Same.refl _), (S343.sub (all_cons (.tail _ (.tail _ (.head _))) (all_cons (.tail _ (.head _)) (all_cons (.head _) all_nil)))), h365, h366, h341, fr342, (ne_of_none h327 n336).symm, (ne_of_none h317 n336).symm, hw⟩
    · intro σ H367 hw
      obtain ⟨p350, refs_349, G375, rfl, eG376, S368, h369, h370, h371, fr372, ne373, ne374, hw⟩ := hw
      unfold F__law_picture_k2 at hw
      refine ⟨fun σ H' => ∃ (p383 : Addr) (refs_382 : (List Int)) (G' : Hp), σ = [some (V.int (cell')), some (V.ref a_n), some (V.ref p264), some (V.int ((itD (v261) (2)))), some (V.ref D278), some (V.ref p383), none, none, none, none] ∧ Same G375 G' ∧ Sep [] H G G' H' [p264, D278, p383] ∧ H' p264 = some (.lst ((v261 : (List Int)).map V.int)) ∧ H' D278 = some (.lst ((acc320 : (List Int)).map V.int)) ∧ H' p383 = some (.lst ((refs_382 : (List Int)).map V.int)) ∧ H p383 = none ∧ p383 ≠ p264 ∧ p383 ≠ D278 ∧ cW (F__law_picture_k3 (n') (v261) ((itD (v261) (2))) (acc320) refs_382) KK EE, ?_, ?_⟩
      · obtain ⟨K384, hK385, hw⟩ := cW_push hw
        refine ⟨_, rfl, _, _, rfl, rfl, _, rfl, ?_⟩
        refine iteD (fun c386 => ?_) (fun c386 => ?_)
        · have hw := cW_pos c386 hw
          obtain ⟨g387, hw⟩ := cW_grd hw
          refine ⟨_, rfl, _, _, _, _, rfl, rfl, (SqL.of h369), (atI_map g387), _, _, rfl, rfl, _, rfl, ?_⟩
          refine iteD (fun c388 => ?_) (fun c388 => ?_)
          · have hw := cW_pos c388 hw
            refine ⟨_, rfl, _, rfl, _, _, rfl, (SqL.of h371), fun p389 n390 => ?_⟩
            generalize g391 : upd H367 p389 _ = H392
            obtain ⟨e393, h394⟩ := gen_new n390 g391
            have h395 : H392 p389 = some (.lst ((cutL (refs_349) none (some (1)) : (List Int)).map V.int)) := cut_map h394
            have fr396 := S368.free n390
            have S397 := S368.new n390 e393 h395 fr396
            have hw := cW_ok hw
            have hw := hK385 _ hw
            have h398 := (e393 _ _ h369)
            have h399 := (e393 _ _ h370)
            exact ⟨_, (cutL (refs_349) none (some (1))), _, rfl, (Same.refl _), (S397.sub (all_cons (.tail _ (.head _)) (all_cons (.tail _ (.tail _ (.head _))) (all_cons (.head _) all_nil)))), h398, h399, h395, fr396, (ne_of_none h369 n390).symm, (ne_of_none h370 n390).symm, hw⟩
          · have hw := cW_neg c388 hw
            have hw := cW_ok hw
            have hw := hK385 _ hw
            exact ⟨_, (refs_349), _, rfl, (Same.refl _), S368, h369, h370, h371, fr372, ne373, ne374, hw⟩
        · have hw := cW_neg c386 hw
          refine iteF ?_
          have hw := cW_ok hw
          have hw := hK385 _ hw
          exact ⟨_, (refs_349), _, rfl, (Same.refl _), S368, h369, h370, h371, fr372, ne373, ne374, hw⟩
      · intro σ H400 hw
        obtain ⟨p383, refs_382, G408, rfl, eG409, S401, h402, h403, h404, fr405, ne406, ne407, hw⟩ := hw
        unfold F__law_picture_k3 at hw
        refine ⟨fun σ H' => ∃ (weight_416 : Int) (G' : Hp), σ = [some (V.int (cell')), some (V.ref a_n), some (V.ref p264), some (V.int ((itD (v261) (2)))), some (V.ref D278), some (V.ref p383), some (V.int weight_416), none, none, none] ∧ Same G408 G' ∧ Sep [] H G G' H' [p264, D278, p383] ∧ H' p264 = some (.lst ((v261 : (List Int)).map V.int)) ∧ H' D278 = some (.lst ((acc320 : (List Int)).map V.int)) ∧ H' p383 = some (.lst ((refs_382 : (List Int)).map V.int)) ∧ cW (F__law_picture_k4 (n') (v261) ((itD (v261) (2))) (acc320) (refs_382) weight_416) KK EE, ?_, ?_⟩
        · obtain ⟨K417, hK418, hw⟩ := cW_push hw
          refine ⟨_, rfl, _, _, rfl, rfl, _, rfl, ?_⟩
          refine iteD (fun c419 => ?_) (fun c419 => ?_)
          · have hw := cW_pos c419 hw
            obtain ⟨g420, hw⟩ := cW_grd hw
            obtain ⟨g421, hw⟩ := cW_grd hw
            refine ⟨_, rfl, _, _, _, _, rfl, rfl, (SqL.of h402), (atI_map g420), _, rfl, _, _, _, _, rfl, rfl, (SqL.of h402), (atI_map g421), rfl, rfl, G408, _, _, _, _, rfl, S401.sG, cW_call hw (fun v422 hw => ?_) (fun e he => hE e he _ S401.b0)⟩
            have hw := cW_ok hw
            have hw := hK418 _ hw
            exact ⟨(v422), _, rfl, (Same.refl _), S401, h402, h403, h404, hw⟩
          · have hw := cW_neg c419 hw
            have hw := cW_ok hw
            have hw := hK418 _ hw
            exact ⟨(8), _, rfl, (Same.refl _), S401, h402, h403, h404, hw⟩
        · intro σ H423 hw
          obtain ⟨weight_416, G428, rfl, eG429, S424, h425, h426, h427, hw⟩ := hw
          unfold F__law_picture_k4 at hw
          obtain ⟨g430, hw⟩ := cW_grd hw
          obtain ⟨g431, hw⟩ := cW_grd hw
          refine ⟨_, rfl, _, _, _, _, rfl, rfl, (SqL.of h425), (atI_map g430), _, rfl, _, _, _, _, rfl, rfl, (SqL.of h425), (atI_map g431), rfl, rfl, G428, _, _, _, _, rfl, S424.sG, cW_call hw (fun v432 hw => ?_) (fun e he => hE e he _ S424.b0)⟩
          obtain ⟨g433, hw⟩ := cW_grd hw
          obtain ⟨g434, hw⟩ := cW_grd hw
          refine ⟨_, rfl, _, _, _, _, rfl, rfl, (SqL.of h425), (atI_map g433), _, rfl, _, _, _, _, rfl, rfl, (SqL.of h425), (atI_map g434), rfl, rfl, G428, _, _, _, _, rfl, S424.sG, cW_call hw (fun v435 hw => ?_) (fun e he => hE e he _ S424.b0)⟩
          obtain ⟨g436, hw⟩ := cW_grd hw
          refine ⟨_, rfl, _, rfl, _, rfl, _, rfl, _, rfl, _, rfl, _, rfl, _, _, _, _, rfl, rfl, (SqL.of h425), (atI_map g436), .inl ⟨_, rfl, ?_⟩⟩
          obtain ⟨g437, hw⟩ := cW_grd hw
          obtain ⟨g438, hw⟩ := cW_grd hw
          obtain ⟨g439, hw⟩ := cW_grd hw
          obtain ⟨g440, hw⟩ := cW_grd hw
          obtain ⟨g441, hw⟩ := cW_grd hw
          obtain ⟨g442, hw⟩ := cW_grd hw
          refine ⟨_, rfl, _, _, _, _, rfl, rfl, (SqL.of (S424.bM _ _ q_n)), (atI_map g437), _, _, rfl, rfl, g438, _, rfl, _, _, _, _, rfl, rfl, (SqL.of h425), (atI_map g439), _, rfl, _, _, _, _, rfl, rfl, (SqL.of (S424.bM _ _ q_n)), (atI_map g440), _, rfl, _, _, _, _, rfl, rfl, (SqL.of h425), (atI_map g441), _, _, rfl, rfl, _, _, rfl, rfl, g442, ?_⟩
          have r443 : Rp G428 (V.int (v432)) (encD (PyData.int (v432))) := (.int _)
          have r444 : Rp G428 (V.int ((itD (v261) (2)))) (encD (PyData.int ((itD (v261) (2))))) := (.int _)
          have r445 : Rp G428 (V.int (v435)) (encD (PyData.int (v435))) := (.int _)
          obtain ⟨G446, eG447, hg448, S449⟩ := Sep.freeze (O' := [p264, p383]) S424 (.tail _ (.head _)) h426 fr328 ((all_cons ⟨(.head _), (ne_of_none h267 n279)⟩ (all_cons ⟨(.tail _ (.tail _ (.head _))), ne407⟩ all_nil)))
          have r450 : Rp G446 (V.ref D278) (encD ((encL PyData.int) (acc320))) := (rp_mk_ints hg448)
          obtain ⟨G451, eG452, hg453, S454⟩ := Sep.freeze (O' := [p264]) S449 (.tail _ (.head _)) h427 fr405 ((all_cons ⟨(.head _), (ne406).symm⟩ all_nil))
          have r455 : Rp G451 (V.ref p383) (encD ((encL PyData.int) (refs_382))) := (rp_mk_ints hg453)
          have r456 : Rp G451 (V.int (weight_416)) (encD (PyData.int (weight_416))) := (.int _)
          have r457 : Rp G451 (V.int (((itD (v261) (11)) % (itD (n') (8))))) (encD (PyData.int (((itD (v261) (11)) % (itD (n') (8)))))) := (.int _)
          have r458 : Rp G451 (V.int ((itD (v261) (12)))) (encD (PyData.int ((itD (v261) (12))))) := (.int _)
          have r459 : Rp G451 (V.int (((itD (n') (6)) * ((itD (v261) (13)) - 6)))) (encD (PyData.int (((itD (n') (6)) * ((itD (v261) (13)) - 6))))) := (.int _)
          refine ⟨(by show 9 ≤ sizeLine; decide), fun p460 n461 => ?_⟩
          generalize g462 : upd H423 p460 _ = H463
          obtain ⟨e464, h465⟩ := gen_new n461 g462
          have h466 : H463 p460 = some (.lst ([(V.int (v432)), (V.int ((itD (v261) (2)))), (V.int (v435)), (V.ref D278), (V.ref p383), (V.int (weight_416)), (V.int (((itD (v261) (11)) % (itD (n') (8))))), (V.int ((itD (v261) (12)))), (V.int (((itD (n') (6)) * ((itD (v261) (13)) - 6))))])) := h465
          have fr467 := S454.free n461
          have S468 := S454.new n461 e464 h466 fr467
          have d469 : RpAll G451 ([(V.int (v432)), (V.int ((itD (v261) (2)))), (V.int (v435)), (V.ref D278), (V.ref p383), (V.int (weight_416)), (V.int (((itD (v261) (11)) % (itD (n') (8))))), (V.int ((itD (v261) (12)))), (V.int (((itD (n') (6)) * ((itD (v261) (13)) - 6))))]) (([(PyData.int (v432)), (PyData.int ((itD (v261) (2)))), (PyData.int (v435)), ((encL PyData.int) (acc320)), ((encL PyData.int) (refs_382)), (PyData.int (weight_416)), (PyData.int (((itD (v261) (11)) % (itD (n') (8))))), (PyData.int ((itD (v261) (12)))), (PyData.int (((itD (n') (6)) * ((itD (v261) (13)) - 6))))] : (List PyData)).map encD) := (RpAll.cons (Rp.mono eG452 (Rp.mono eG447 r443)) (RpAll.cons (Rp.mono eG452 (Rp.mono eG447 r444)) (RpAll.cons (Rp.mono eG452 (Rp.mono eG447 r445)) (RpAll.cons (Rp.mono eG452 r450) (RpAll.cons r455 (RpAll.cons r456 (RpAll.cons r457 (RpAll.cons r458 (RpAll.cons r459 RpAll.nil)))))))))
          obtain ⟨G470, eG471, hg472, S473⟩ := Sep.freeze (O' := [p264]) S468 (.head _) h466 fr467 ((all_cons ⟨(.tail _ (.head _)), (ne_of_none h425 n461)⟩ all_nil))
          have hw := cW_ok hw
          exact hK0 _ hw _ _ _ S473.b0 S473.g0 S473.sG S473.gn (rp_mk_list hg472 (RpAll.mono eG471 d469))

abbrev N__law_with : List Str := ["p", "k", "value"]
theorem sc__law_with : FnScope N__law_with ["p", "k", "value"] (defScope s__law_with) := ⟨rfl, rfl, rfl, by decide +kernel, rfl, by decide +kernel, by decide +kernel⟩
theorem ok__law_with (D : DefX K mg "_law_with" s__law_with ["p", "k", "value"] pats__law_with) (T : Txt w K mg AD)  : CalX P w K mg base 1 "_law_with" (sp__law_with K AD) pats__law_with := by
  refine D.ok sc__law_with (fun vs H Q E h => ?_) (fun f cdv A_ outer s H vs Q E hr h => ?_)
  · obtain ⟨G, v_p, p', k', v_value, value', rfl, _⟩ := h
    rfl
  · obtain ⟨G, v_p, p', k', v_value, value', rfl, sG, r_p, r_value, hw⟩ := h
    refine ⟨_, (pss_one (ps_ret (pe_op op_cat (pe_op op_cat (pe_slice (sl_listK (K := K)) (pv 0) po_none (po_some (pv 1))) (pe_lst (pa_cons (pv 2) pa_nil))) (pe_slice (sl_listK (K := K)) (pv 0) (po_some (pe_op op_add (pv 1) pe_int)) po_none)))), ?_⟩
    obtain ⟨KK, EE, hK0, hE, hw⟩ := cW_gen hw
    have S0 := Sep.startG sG
    unfold F__law_with at hw
    obtain ⟨a474, vs475, rfl, h476, d477⟩ := rp_list r_p
    refine ⟨_, rfl, _, rfl, _, rfl, _, _, rfl, (SqL.of (S0.sG _ _ h476)), fun p478 n479 => ?_⟩
    generalize g480 : upd H p478 _ = H481
    obtain ⟨e482, h483⟩ := gen_new n479 g480
    have h484 : H481 p478 = some (.lst (cutV (vs475) none (some (k')))) := h483
    have fr485 := S0.free n479
    have S486 := S0.new n479 e482 h484 fr485
    have d487 : RpAll G (cutV (vs475) none (some (k'))) ((cutL (p') none (some (k')) : (List PyData)).map encD) := cut_all none (some (k')) d477
    refine ⟨_, rfl, (by show 1 ≤ sizeLine; decide), fun p488 n489 => ?_⟩
    generalize g490 : upd H481 p488 _ = H491
    obtain ⟨e492, h493⟩ := gen_new n489 g490
    have h494 : H491 p488 = some (.lst ([v_value])) := h493
    have fr495 := S486.free n489
    have S496 := S486.new n489 e492 h494 fr495
    have d497 : RpAll G ([v_value]) (([value'] : (List PyData)).map encD) := (RpAll.cons r_value RpAll.nil)
    obtain ⟨g498, hw⟩ := cW_grd hw
    have h499 := (e492 _ _ h484)
    obtain ⟨G500, eG501, hg502, S503⟩ := Sep.freeze (O' := [p488]) S496 (.tail _ (.head _)) h499 fr485 ((all_cons ⟨(.head _), (ne_of_none h484 n489).symm⟩ all_nil))
    obtain ⟨G504, eG505, hg506, S507⟩ := Sep.freeze (O' := []) S503 (.head _) h494 fr495 (all_nil)
    refine ⟨_, _, _, _, rfl, rfl, h499, h494, (cat_len d487 d497 g498), fun p508 n509 => ?_⟩
    generalize g510 : upd H491 p508 _ = H511
    obtain ⟨e512, h513⟩ := gen_new n509 g510
    have h514 : H511 p508 = some (.lst (cutV (vs475) none (some (k')) ++ [v_value])) := h513
    have fr515 := S507.free n509
    have S516 := S507.new n509 e512 h514 fr515
    have d517 : RpAll G504 (cutV (vs475) none (some (k')) ++ [v_value]) (((cutL (p') none (some (k'))) ++ ([value']) : (List PyData)).map encD) := app_map (RpAll.mono eG505 (RpAll.mono eG501 d487)) (RpAll.mono eG505 (RpAll.mono eG501 d497))
    refine ⟨_, rfl, _, rfl, _, _, rfl, rfl, _, rfl, _, _, rfl, (SqL.of (S516.sG _ _ (eG505 _ _ (eG501 _ _ h476)))), fun p518 n519 => ?_⟩
    generalize g520 : upd H511 p518 _ = H521
    obtain ⟨e522, h523⟩ := gen_new n519 g520
    have h524 : H521 p518 = some (.lst (cutV (vs475) (some ((k' + 1))) none)) := h523
    have fr525 := S516.free n519
    have S526 := S516.new n519 e522 h524 fr525
    have d527 : RpAll G504 (cutV (vs475) (some ((k' + 1))) none) ((cutL (p') (some ((k' + 1))) none : (List PyData)).map encD) := cut_all (some ((k' + 1))) none (RpAll.mono eG505 (RpAll.mono eG501 d477))
    obtain ⟨g528, hw⟩ := cW_grd hw
    have h529 := (e522 _ _ h514)
    obtain ⟨G530, eG531, hg532, S533⟩ := Sep.freeze (O' := [p518]) S526 (.tail _ (.head _)) h529 fr515 ((all_cons ⟨(.head _), (ne_of_none h514 n519).symm⟩ all_nil))
    obtain ⟨G534, eG535, hg536, S537⟩ := Sep.freeze (O' := []) S533 (.head _) h524 fr525 (all_nil)
    refine ⟨_, _, _, _, rfl, rfl, h529, h524, (cat_len d517 d527 g528), fun p538 n539 => ?_⟩
    generalize g540 : upd H521 p538 _ = H541
    obtain ⟨e542, h543⟩ := gen_new n539 g540
    have h544 : H541 p538 = some (.lst (cutV (vs475) none (some (k')) ++ [v_value] ++ cutV (vs475) (some ((k' + 1))) none)) := h543
    have fr545 := S537.free n539
    have S546 := S537.new n539 e542 h544 fr545
    have d547 : RpAll G534 (cutV (vs475) none (some (k')) ++ [v_value] ++ cutV (vs475) (some ((k' + 1))) none) ((((cutL (p') none (some (k'))) ++ ([value'])) ++ (cutL (p') (some ((k' + 1))) none) : (List PyData)).map encD) := app_map (RpAll.mono eG535 (RpAll.mono eG531 d517)) (RpAll.mono eG535 (RpAll.mono eG531 d527))
    obtain ⟨G548, eG549, hg550, S551⟩ := Sep.freeze (O' := []) S546 (.head _) h544 fr545 (all_nil)
    have hw := cW_ok hw
    exact hK0 _ hw _ _ _ S551.b0 S551.g0 S551.sG S551.gn (rp_mk_list hg550 (RpAll.mono eG549 d547))

abbrev N__law_faults : List Str := ["p", "n", "far", "faults", "count"]
theorem sc__law_faults : FnScope N__law_faults ["p", "n", "far"] (defScope s__law_faults) := ⟨rfl, rfl, rfl, by decide +kernel, rfl, by decide +kernel, by decide +kernel⟩
theorem ok__law_faults (D : DefX K mg "_law_faults" s__law_faults ["p", "n", "far"] pats__law_faults) (T : Txt w K mg AD) (c__law_with : CalX P w K mg base 1 "_law_with" (sp__law_with K AD) pats__law_with) : CalX P w K mg base 2 "_law_faults" (sp__law_faults K AD) pats__law_faults := by
  refine D.ok sc__law_faults (fun vs H Q E h => ?_) (fun f cdv A_ outer s H vs Q E hr h => ?_)
  · obtain ⟨G, v_p, p', a_n, n', far', rfl, _⟩ := h
    rfl
  · obtain ⟨G, v_p, p', a_n, n', far', rfl, sG, r_p, q_n, hw⟩ := h
    refine ⟨_, (pss_cons (ps_set (i := 3) sc__law_faults.nd rfl (Or.inl rfl) (pe_lst (pa_cons (vx_callX c__law_with pat__law_with_0 (.head _) hr (by decide) (takes_of rfl rfl rfl rfl) rfl (pa_cons (pv 0) (pa_cons pe_int (pa_cons (pe_op op_add pe_int (pv 2)) pa_nil))) pk_nil) (pa_cons (vx_callX c__law_with pat__law_with_0 (.head _) hr (by decide) (takes_of rfl rfl rfl rfl) rfl (pa_cons (pv 0) (pa_cons pe_int (pa_cons (pe_un un_neg (pv 2)) pa_nil))) pk_nil) (pa_cons (vx_callX c__law_with pat__law_with_0 (.head _) hr (by decide) (takes_of rfl rfl rfl rfl) rfl (pa_cons (pv 0) (pa_cons pe_int (pa_cons (pe_op op_add pe_int (pv 2)) pa_nil))) pk_nil) (pa_cons (vx_callX c__law_with pat__law_with_0 (.head _) hr (by decide) (takes_of rfl rfl rfl rfl) rfl (pa_cons (pv 0) (pa_cons pe_int (pa_cons (pe_un un_neg (pv 2)) pa_nil))) pk_nil) pa_nil))))))
      (pss_cons (ps_set (i := 3) sc__law_faults.nd rfl (Or.inl rfl) (pe_op op_cat (pv 3) (pe_lst (pa_cons (vx_callX c__law_with pat__law_with_0 (.head _) hr (by decide) (takes_of rfl rfl rfl rfl) rfl (pa_cons (pv 0) (pa_cons pe_int (pa_cons (pe_lst (pa_cons (pe_op op_add (pe_op op_sub (pe_ix (ix_listK (K := K)) (pv 1) pe_int (fun _ _ => rfl)) pe_int) (pv 2)) pa_nil)) pa_nil))) pk_nil) (pa_cons (vx_callX c__law_with pat__law_with_0 (.head _) hr (by decide) (takes_of rfl rfl rfl rfl) rfl (pa_cons (pv 0) (pa_cons pe_int (pa_cons (pe_lst (pa_cons (pe_un un_neg (pv 2)) pa_nil)) pa_nil))) pk_nil) (pa_cons (vx_callX c__law_with pat__law_with_0 (.head _) hr (by decide) (takes_of rfl rfl rfl rfl) rfl (pa_cons (pv 0) (pa_cons pe_int (pa_cons (pe_lst (pa_cons pe_int (pa_cons pe_int pa_nil))) pa_nil))) pk_nil) pa_nil))))))
      (pss_cons (ps_set (i := 3) sc__law_faults.nd rfl (Or.inl rfl) (pe_op op_cat (pv 3) (pe_lst (pa_cons (vx_callX c__law_with pat__law_with_0 (.head _) hr (by decide) (takes_of rfl rfl rfl rfl) rfl (pa_cons (pv 0) (pa_cons pe_int (pa_cons (pe_op op_cat (pe_ix (ix_listK (K := K)) (pv 0) pe_int (fun _ _ => rfl)) (pe_lst (pa_cons (pe_ix (ix_listK (K := K)) (pv 1) pe_int (fun _ _ => rfl)) pa_nil))) pa_nil))) pk_nil) (pa_cons (vx_callX c__law_with pat__law_with_0 (.head _) hr (by decide) (takes_of rfl rfl rfl rfl) rfl (pa_cons (pv 0) (pa_cons pe_int (pa_cons (pe_op op_add (pe_op op_sub (pe_ix (ix_listK (K := K)) (pv 1) pe_int (fun _ _ => rfl)) pe_int) (pv 2)) pa_nil))) pk_nil) (pa_cons (vx_callX c__law_with pat__law_with_0 (.head _) hr (by decide) (takes_of rfl rfl rfl rfl) rfl (pa_cons (pv 0) (pa_cons pe_int (pa_cons (pe_un un_neg (pv 2)) pa_nil))) pk_nil) pa_nil))))))
      (pss_cons (ps_set (i := 3) sc__law_faults.nd rfl (Or.inl rfl) (pe_op op_cat (pv 3) (pe_lst (pa_cons (vx_callX c__law_with pat__law_with_0 (.head _) hr (by decide) (takes_of rfl rfl rfl rfl) rfl (pa_cons (pv 0) (pa_cons pe_int (pa_cons (pe_ix (ix_listK (K := K)) (pe_lst (pa_cons (pe_lst (pa_cons pe_int pa_nil)) (pa_cons (pe_lst pa_nil) (pa_cons (pe_lst (pa_cons pe_int pa_nil)) pa_nil)))) (pe_ix (ix_listK (K := K)) (pv 0) pe_int (fun _ _ => rfl)) (fun _ _ => rfl)) pa_nil))) pk_nil) (pa_cons (vx_callX c__law_with pat__law_with_0 (.head _) hr (by decide) (takes_of rfl rfl rfl rfl) rfl (pa_cons (pv 0) (pa_cons pe_int (pa_cons (pe_lst (pa_cons pe_int (pa_cons pe_int (pa_cons pe_int pa_nil)))) pa_nil))) pk_nil) (pa_cons (vx_callX c__law_with pat__law_with_0 (.head _) hr (by decide) (takes_of rfl rfl rfl rfl) rfl (pa_cons (pv 0) (pa_cons pe_int (pa_cons (pe_op op_add pe_int (pv 2)) pa_nil))) pk_nil) pa_nil))))))
      (pss_cons (ps_set (i := 3) sc__law_faults.nd rfl (Or.inl rfl) (pe_op op_cat (pv 3) (pe_lst (pa_cons (vx_callX c__law_with pat__law_with_0 (.head _) hr (by decide) (takes_of rfl rfl rfl rfl) rfl (pa_cons (pv 0) (pa_cons pe_int (pa_cons (pe_op op_sub (pe_un un_neg pe_int) (pv 2)) pa_nil))) pk_nil) (pa_cons (vx_callX c__law_with pat__law_with_0 (.head _) hr (by decide) (takes_of rfl rfl rfl rfl) rfl (pa_cons (pv 0) (pa_cons pe_int (pa_cons (pe_ix (ix_listK (K := K)) (pe_lst (pa_cons pe_int (pa_cons pe_int (pa_cons pe_int pa_nil)))) (pe_ix (ix_listK (K := K)) (pv 0) pe_int (fun _ _ => rfl)) (fun _ _ => rfl)) pa_nil))) pk_nil) (pa_cons (vx_callX c__law_with pat__law_with_0 (.head _) hr (by decide) (takes_of rfl rfl rfl rfl) rfl (pa_cons (pv 0) (pa_cons pe_int (pa_cons (pe_ix (ix_listK (K := K)) (pe_lst (pa_cons (pe_op op_add pe_int (pv 2)) (pa_cons (pe_op op_sub pe_int (pv 2)) (pa_cons (pe_un un_neg (pv 2)) pa_nil)))) (pe_ix (ix_listK (K := K)) (pv 0) pe_int (fun _ _ => rfl)) (fun _ _ => rfl)) pa_nil))) pk_nil) pa_nil))))))
      (C8.pss_cut (ps_if (pt_cmp (pc_gt (pe_ix (ix_listK (K := K)) (pv 1) pe_int (fun _ _ => rfl)) pe_int)) (pss_one (ps_set (i := 3) sc__law_faults.nd rfl (Or.inl rfl) (pe_op op_cat (pv 3) (pe_lst (pa_cons (vx_callX c__law_with pat__law_with_0 (.head _) hr (by decide) (takes_of rfl rfl rfl rfl) rfl (pa_cons (pv 0) (pa_cons pe_int (pa_cons (pe_lst (pa_cons pe_int (pa_cons pe_int pa_nil))) pa_nil))) pk_nil) (pa_cons (vx_callX c__law_with pat__law_with_0 (.head _) hr (by decide) (takes_of rfl rfl rfl rfl) rfl (pa_cons (pv 0) (pa_cons pe_int (pa_cons (pe_lst (pa_cons pe_int (pa_cons (pe_op op_sub (pe_ix (ix_listK (K := K)) (pv 1) pe_int (fun _ _ => rfl)) pe_int) (pa_cons (pe_op op_sub (pe_ix (ix_listK (K := K)) (pv 1) pe_int (fun _ _ => rfl)) pe_int) pa_nil)))) pa_nil))) pk_nil) pa_nil)))))) pss_nil)
      (C8.pss_cut (ps_if (pt_cmp (pc_eqI (pe_ix (ix_listK (K := K)) (pv 1) pe_int (fun _ _ => rfl)) pe_int)) (pss_one (ps_set (i := 3) sc__law_faults.nd rfl (Or.inl rfl) (pe_op op_cat (pv 3) (pe_lst (pa_cons (vx_callX c__law_with pat__law_with_0 (.head _) hr (by decide) (takes_of rfl rfl rfl rfl) rfl (pa_cons (pv 0) (pa_cons pe_int (pa_cons (pe_lst (pa_cons pe_int (pa_cons pe_int (pa_cons pe_int (pa_cons pe_int pa_nil))))) pa_nil))) pk_nil) (pa_cons (vx_callX c__law_with pat__law_with_0 (.head _) hr (by decide) (takes_of rfl rfl rfl rfl) rfl (pa_cons (pv 0) (pa_cons pe_int (pa_cons (pe_lst (pa_cons pe_int (pa_cons pe_int (pa_cons pe_int (pa_cons pe_int pa_nil))))) pa_nil))) pk_nil) (pa_cons (vx_callX c__law_with pat__law_with_0 (.head _) hr (by decide) (takes_of rfl rfl rfl rfl) rfl (pa_cons (pv 0) (pa_cons pe_int (pa_cons (pe_lst (pa_cons pe_int (pa_cons pe_int (pa_cons pe_int pa_nil)))) pa_nil))) pk_nil) pa_nil))))))) pss_nil)
      (C8.pss_cut (ps_if (pt_cmp (pc_gt (pe_ix (ix_listK (K := K)) (pv 1) pe_int (fun _ _ => rfl)) pe_int)) (pss_one (ps_set (i := 3) sc__law_faults.nd rfl (Or.inl rfl) (pe_op op_cat (pv 3) (pe_lst (pa_cons (vx_callX c__law_with pat__law_with_0 (.head _) hr (by decide) (takes_of rfl rfl rfl rfl) rfl (pa_cons (pv 0) (pa_cons pe_int (pa_cons (pe_lst (pa_cons pe_int (pa_cons pe_int (pa_cons pe_int pa_nil)))) pa_nil))) pk_nil) (pa_cons (vx_callX c__law_with pat__law_with_0 (.head _) hr (by decide) (takes_of rfl rfl rfl rfl) rfl (pa_cons (pv 0) (pa_cons pe_int (pa_cons (pe_lst (pa_cons pe_int (pa_cons pe_int (pa_cons pe_int pa_nil)))) pa_nil))) pk_nil) pa_nil)))))) pss_nil)
      (C8.pss_cut (ps_if (pt_cmp (pc_eqI (pe_ix (ix_listK (K := K)) (pv 1) pe_int (fun _ _ => rfl)) pe_int)) (pss_one (ps_set (i := 3) sc__law_faults.nd rfl (Or.inl rfl) (pe_op op_cat (pv 3) (pe_lst (pa_cons (vx_callX c__law_with pat__law_with_0 (.head _) hr (by decide) (takes_of rfl rfl rfl rfl) rfl (pa_cons (pv 0) (pa_cons pe_int (pa_cons pe_int pa_nil))) pk_nil) (pa_cons (vx_callX c__law_with pat__law_with_0 (.head _) hr (by decide) (takes_of rfl rfl rfl rfl) rfl (pa_cons (pv 0) (pa_cons pe_int (pa_cons (pe_un un_neg pe_int) pa_nil))) pk_nil) pa_nil)))))) pss_nil)
      (pss_cons (ps_for (passes_of rfl) rfl (pi_range1 rfl T.b_range (pa_cons pe_int pa_nil)) (pg_name (i := 4) sc__law_faults.nd rfl (Or.inl rfl)) (pss_one (ps_if (pt_cmpR (op_notInI (K := K)) (pv 4) (pe_ix (ix_listK (K := K)) (pe_lst (pa_cons (pe_lst (pa_cons pe_int pa_nil)) (pa_cons (pe_lst (pa_cons pe_int (pa_cons pe_int pa_nil))) (pa_cons (pe_lst (pa_cons pe_int pa_nil)) pa_nil)))) (pe_ix (ix_listK (K := K)) (pv 0) pe_int (fun _ _ => rfl)) (fun _ _ => rfl)) (by with_unfolding_all rfl)) (pss_one (ps_expr (pe_bm PySem.F.plainAttrs_list PySem.F.slot_list_append PySem.F.type_list_append mt_append (pv 3) (pa_cons (vx_callX c__law_with pat__law_with_0 (.head _) hr (by decide) (takes_of rfl rfl rfl rfl) rfl (pa_cons (pv 0) (pa_cons pe_int (pa_cons (pe_op op_rep (pe_lst (pa_cons pe_int pa_nil)) (pv 4)) pa_nil))) pk_nil) pa_nil)))) pss_nil)))
      (C8.pss_cut (ps_if (pt_cmp (pc_eqI (pe_ix (ix_listK (K := K)) (pv 0) pe_int (fun _ _ => rfl)) pe_int)) (pss_one (ps_set (i := 3) sc__law_faults.nd rfl (Or.inl rfl) (pe_op op_cat (pv 3) (pe_lst (pa_cons (vx_callX c__law_with pat__law_with_0 (.head _) hr (by decide) (takes_of rfl rfl rfl rfl) rfl (pa_cons (pv 0) (pa_cons pe_int (pa_cons (pe_lst (pa_cons (pe_op op_add (pe_op op_sub (pe_ix (ix_listK (K := K)) (pv 1) pe_int (fun _ _ => rfl)) pe_int) (pv 2)) pa_nil)) pa_nil))) pk_nil) (pa_cons (vx_callX c__law_with pat__law_with_0 (.head _) hr (by decide) (takes_of rfl rfl rfl rfl) rfl (pa_cons (pv 0) (pa_cons pe_int (pa_cons (pe_lst (pa_cons (pe_un un_neg (pv 2)) pa_nil)) pa_nil))) pk_nil) (pa_cons (vx_callX c__law_with pat__law_with_0 (.head _) hr (by decide) (takes_of rfl rfl rfl rfl) rfl (pa_cons (pv 0) (pa_cons pe_int (pa_cons (pe_lst (pa_cons (pe_un un_neg (pv 2)) (pa_cons pe_int pa_nil))) pa_nil))) pk_nil) (pa_cons (vx_callX c__law_with pat__law_with_0 (.head _) hr (by decide) (takes_of rfl rfl rfl rfl) rfl (pa_cons (pv 0) (pa_cons pe_int (pa_cons (pe_lst (pa_cons (pe_ix (ix_listK (K := K)) (pv 1) pe_int (fun _ _ => rfl)) (pa_cons pe_int pa_nil))) pa_nil))) pk_nil) pa_nil)))))))) pss_nil)
      (C8.pss_cut (ps_if (pt_cmp (pc_eqI (pe_ix (ix_listK (K := K)) (pv 0) pe_int (fun _ _ => rfl)) pe_int)) (pss_one (ps_set (i := 3) sc__law_faults.nd rfl (Or.inl rfl) (pe_op op_cat (pv 3) (pe_lst (pa_cons (vx_callX c__law_with pat__law_with_0 (.head _) hr (by decide) (takes_of rfl rfl rfl rfl) rfl (pa_cons (pv 0) (pa_cons pe_int (pa_cons (pe_lst (pa_cons (pe_un un_neg (pv 2)) (pa_cons pe_int pa_nil))) pa_nil))) pk_nil) (pa_cons (vx_callX c__law_with pat__law_with_0 (.head _) hr (by decide) (takes_of rfl rfl rfl rfl) rfl (pa_cons (pv 0) (pa_cons pe_int (pa_cons (pe_lst (pa_cons pe_int (pa_cons (pe_un un_neg (pv 2)) pa_nil))) pa_nil))) pk_nil) (pa_cons (vx_callX c__law_with pat__law_with_0 (.head _) hr (by decide) (takes_of rfl rfl rfl rfl) rfl (pa_cons (pv 0) (pa_cons pe_int (pa_cons (pe_lst (pa_cons (pe_ix (ix_listK (K := K)) (pv 1) pe_int (fun _ _ => rfl)) (pa_cons pe_int pa_nil))) pa_nil))) pk_nil) pa_nil))))))) pss_nil)
      (C8.pss_cut (ps_if (pt_cmp (pc_gt (pe_ix (ix_listK (K := K)) (pv 0) pe_int (fun _ _ => rfl)) pe_int)) (pss_one (ps_set (i := 3) sc__law_faults.nd rfl (Or.inl rfl) (pe_op op_cat (pv 3) (pe_lst (pa_cons (vx_callX c__law_with pat__law_with_0 (.head _) hr (by decide) (takes_of rfl rfl rfl rfl) rfl (pa_cons (pv 0) (pa_cons pe_int (pa_cons (pe_lst (pa_cons (pe_op op_add (pe_op op_sub (pe_ix (ix_listK (K := K)) (pv 1) pe_int (fun _ _ => rfl)) pe_int) (pv 2)) (pa_cons pe_int pa_nil))) pa_nil))) pk_nil) (pa_cons (vx_callX c__law_with pat__law_with_0 (.head _) hr (by decide) (takes_of rfl rfl rfl rfl) rfl (pa_cons (pv 0) (pa_cons pe_int (pa_cons (pe_lst (pa_cons pe_int (pa_cons (pe_ix (ix_listK (K := K)) (pv 1) pe_int (fun _ _ => rfl)) pa_nil))) pa_nil))) pk_nil) (pa_cons (vx_callX c__law_with pat__law_with_0 (.head _) hr (by decide) (takes_of rfl rfl rfl rfl) rfl (pa_cons (pv 0) (pa_cons pe_int (pa_cons (pe_lst (pa_cons pe_int (pa_cons (pe_un un_neg (pv 2)) pa_nil))) pa_nil))) pk_nil) pa_nil))))))) pss_nil)
      (pss_one (ps_ret (pv 3)))))))))))))))), ?_⟩
    obtain ⟨KK, EE, hK0, hE, hw⟩ := cW_gen hw
    have S0 := Sep.startG sG
    unfold F__law_faults at hw
    obtain ⟨a552, vs553, rfl, h554, d555⟩ := rp_list r_p
    refine ⟨_, rfl, _, rfl, _, _, rfl, rfl, rfl, rfl, G, _, _, _, _, (PyData.int ((999 + far'))), rfl, S0.sG, (rp_mk_list h554 d555), (.int _), cW_call hw (fun v556 hw v559 H557 G560 e558 eG561 sG562 hn563 r564 => ?_) (fun e he H2 e2 => hE e he H2 (Same.trans S0.b0 e2))⟩
    have S565 := S0.step e558 eG561 sG562 hn563
    obtain ⟨a566, vs567, rfl, h568, d569⟩ := rp_list r564
    refine ⟨_, rfl, _, rfl, _, rfl, rfl, rfl, G560, _, _, _, _, (PyData.int ((-far'))), rfl, S565.sG, (rp_mk_list (eG561 _ _ h554) (RpAll.mono eG561 d555)), (.int _), cW_call hw (fun v570 hw v573 H571 G574 e572 eG575 sG576 hn577 r578 => ?_) (fun e he H2 e2 => hE e he H2 (Same.trans S565.b0 e2))⟩
    have S579 := S565.step e572 eG575 sG576 hn577
    obtain ⟨a580, vs581, rfl, h582, d583⟩ := rp_list r578
    refine ⟨_, rfl, _, rfl, _, _, rfl, rfl, rfl, rfl, G574, _, _, _, _, (PyData.int ((31 + far'))), rfl, S579.sG, (rp_mk_list (eG575 _ _ (eG561 _ _ h554)) (RpAll.mono eG575 (RpAll.mono eG561 d555))), (.int _), cW_call hw (fun v584 hw v587 H585 G588 e586 eG589 sG590 hn591 r592 => ?_) (fun e he H2 e2 => hE e he H2 (Same.trans S579.b0 e2))⟩
    have S593 := S579.step e586 eG589 sG590 hn591
    obtain ⟨a594, vs595, rfl, h596, d597⟩ := rp_list r592
    refine ⟨_, rfl, _, rfl, _, rfl, rfl, rfl, G588, _, _, _, _, (PyData.int ((-far'))), rfl, S593.sG, (rp_mk_list (eG589 _ _ (eG575 _ _ (eG561 _ _ h554))) (RpAll.mono eG589 (RpAll.mono eG575 (RpAll.mono eG561 d555)))), (.int _), cW_call hw (fun v598 hw v601 H599 G602 e600 eG603 sG604 hn605 r606 => ?_) (fun e he H2 e2 => hE e he H2 (Same.trans S593.b0 e2))⟩
    have S607 := S593.step e600 eG603 sG604 hn605
    obtain ⟨a608, vs609, rfl, h610, d611⟩ := rp_list r606
    refine ⟨(by show 4 ≤ sizeLine; decide), fun p612 n613 => ?_⟩
    generalize g614 : upd H599 p612 _ = H615
    obtain ⟨e616, h617⟩ := gen_new n613 g614
    have h618 : H615 p612 = some (.lst ([V.ref a566, V.ref a580, V.ref a594, V.ref a608])) := h617
    have fr619 := S607.free n613
    have S620 := S607.new n613 e616 h618 fr619
    have d621 : RpAll G602 ([V.ref a566, V.ref a580, V.ref a594, V.ref a608]) (([v556, v570, v584, v598] : (List (List PyData))).map (encL encD)) := (RpAll.cons (rp_mk_list (eG603 _ _ (eG589 _ _ (eG575 _ _ h568))) (RpAll.mono eG603 (RpAll.mono eG589 (RpAll.mono eG575 d569)))) (RpAll.cons (rp_mk_list (eG603 _ _ (eG589 _ _ h582)) (RpAll.mono eG603 (RpAll.mono eG589 d583))) (RpAll.cons (rp_mk_list (eG603 _ _ h596) (RpAll.mono eG603 d597)) (RpAll.cons (rp_mk_list h610 d611) RpAll.nil))))
    obtain ⟨g622, hw⟩ := cW_grd hw
    refine ⟨_, rfl, _, rfl, _, rfl, _, _, _, _, rfl, rfl, (SqL.of (S620.bM _ _ q_n)), (atI_map g622), _, _, rfl, rfl, _, rfl, _, _, rfl, rfl, (by show 1 ≤ sizeLine; decide), fun p623 n624 => ?_⟩
    generalize g625 : upd H615 p623 _ = H626
    obtain ⟨e627, h628⟩ := gen_new n624 g625
    have h629 : H626 p623 = some (.lst (([(((itD (n') (4)) - 1) + far')] : (List Int)).map V.int)) := h628
    have fr630 := S620.free n624
    have S631 := S620.new n624 e627 h629 fr630
    obtain ⟨G632, eG633, hg634, S635⟩ := Sep.freeze (O' := [p612]) S631 (.head _) h629 fr630 ((all_cons ⟨(.tail _ (.head _)), (ne_of_none h618 n624)⟩ all_nil))
    refine ⟨rfl, rfl, G632, _, _, _, _, ((encL PyData.int) ([(((itD (n') (4)) - 1) + far')])), rfl, S635.sG, (rp_mk_list (eG633 _ _ (eG603 _ _ (eG589 _ _ (eG575 _ _ (eG561 _ _ h554))))) (RpAll.mono eG633 (RpAll.mono eG603 (RpAll.mono eG589 (RpAll.mono eG575 (RpAll.mono eG561 d555)))))), (rp_mk_ints hg634), cW_call hw (fun v636 hw v639 H637 G640 e638 eG641 sG642 hn643 r644 => ?_) (fun e he H2 e2 => hE e he H2 (Same.trans S635.b0 e2))⟩
    have S645 := S635.step e638 eG641 sG642 hn643
    obtain ⟨a646, vs647, rfl, h648, d649⟩ := rp_list r644
    refine ⟨_, rfl, _, rfl, _, rfl, (by show 1 ≤ sizeLine; decide), fun p650 n651 => ?_⟩
    generalize g652 : upd H637 p650 _ = H653
    obtain ⟨e654, h655⟩ := gen_new n651 g652
    have h656 : H653 p650 = some (.lst (([(-far')] : (List Int)).map V.int)) := h655
    have fr657 := S645.free n651
    have S658 := S645.new n651 e654 h656 fr657
    obtain ⟨G659, eG660, hg661, S662⟩ := Sep.freeze (O' := [p612]) S658 (.head _) h656 fr657 ((all_cons ⟨(.tail _ (.head _)), (ne_of_none (e638 _ _ (e627 _ _ h618)) n651)⟩ all_nil))
    refine ⟨rfl, rfl, G659, _, _, _, _, ((encL PyData.int) ([(-far')])), rfl, S662.sG, (rp_mk_list (eG660 _ _ (eG641 _ _ (eG633 _ _ (eG603 _ _ (eG589 _ _ (eG575 _ _ (eG561 _ _ h554))))))) (RpAll.mono eG660 (RpAll.mono eG641 (RpAll.mono eG633 (RpAll.mono eG603 (RpAll.mono eG589 (RpAll.mono eG575 (RpAll.mono eG561 d555)))))))), (rp_mk_ints hg661), cW_call hw (fun v663 hw v666 H664 G667 e665 eG668 sG669 hn670 r671 => ?_) (fun e he H2 e2 => hE e he H2 (Same.trans S662.b0 e2))⟩
    have S672 := S662.step e665 eG668 sG669 hn670
    obtain ⟨a673, vs674, rfl, h675, d676⟩ := rp_list r671
    refine ⟨_, rfl, (by show 2 ≤ sizeLine; decide), fun p677 n678 => ?_⟩
    generalize g679 : upd H664 p677 _ = H680
    obtain ⟨e681, h682⟩ := gen_new n678 g679
    have h683 : H680 p677 = some (.lst (([0, 0] : (List Int)).map V.int)) := h682
    have fr684 := S672.free n678
    have S685 := S672.new n678 e681 h683 fr684
    obtain ⟨G686, eG687, hg688, S689⟩ := Sep.freeze (O' := [p612]) S685 (.head _) h683 fr684 ((all_cons ⟨(.tail _ (.head _)), (ne_of_none (e665 _ _ (e654 _ _ (e638 _ _ (e627 _ _ h618)))) n678)⟩ all_nil))
    refine ⟨rfl, rfl, G686, _, _, _, _, ((encL PyData.int) ([0, 0])), rfl, S689.sG, (rp_mk_list (eG687 _ _ (eG668 _ _ (eG660 _ _ (eG641 _ _ (eG633 _ _ (eG603 _ _ (eG589 _ _ (eG575 _ _ (eG561 _ _ h554))))))))) (RpAll.mono eG687 (RpAll.mono eG668 (RpAll.mono eG660 (RpAll.mono eG641 (RpAll.mono eG633 (RpAll.mono eG603 (RpAll.mono eG589 (RpAll.mono eG575 (RpAll.mono eG561 d555)))))))))), (rp_mk_ints hg688), cW_call hw (fun v690 hw v693 H691 G694 e692 eG695 sG696 hn697 r698 => ?_) (fun e he H2 e2 => hE e he H2 (Same.trans S689.b0 e2))⟩
    have S699 := S689.step e692 eG695 sG696 hn697
    obtain ⟨a700, vs701, rfl, h702, d703⟩ := rp_list r698
    refine ⟨(by show 3 ≤ sizeLine; decide), fun p704 n705 => ?_⟩
    generalize g706 : upd H691 p704 _ = H707
    obtain ⟨e708, h709⟩ := gen_new n705 g706
    have h710 : H707 p704 = some (.lst ([V.ref a646, V.ref a673, V.ref a700])) := h709
    have fr711 := S699.free n705
    have S712 := S699.new n705 e708 h710 fr711
    have d713 : RpAll G694 ([V.ref a646, V.ref a673, V.ref a700]) (([v636, v663, v690] : (List (List PyData))).map (encL encD)) := (RpAll.cons (rp_mk_list (eG695 _ _ (eG687 _ _ (eG668 _ _ (eG660 _ _ h648)))) (RpAll.mono eG695 (RpAll.mono eG687 (RpAll.mono eG668 (RpAll.mono eG660 d649))))) (RpAll.cons (rp_mk_list (eG695 _ _ (eG687 _ _ h675)) (RpAll.mono eG695 (RpAll.mono eG687 d676))) (RpAll.cons (rp_mk_list h702 d703) RpAll.nil)))
    obtain ⟨g714, hw⟩ := cW_grd hw
    have h715 := (e708 _ _ (e692 _ _ (e681 _ _ (e665 _ _ (e654 _ _ (e638 _ _ (e627 _ _ h618)))))))
    obtain ⟨G716, eG717, hg718, S719⟩ := Sep.freeze (O' := [p704]) S712 (.tail _ (.head _)) h715 fr619 ((all_cons ⟨(.head _), (ne_of_none (e692 _ _ (e681 _ _ (e665 _ _ (e654 _ _ (e638 _ _ (e627 _ _ h618)))))) n705).symm⟩ all_nil))
    obtain ⟨G720, eG721, hg722, S723⟩ := Sep.freeze (O' := []) S719 (.head _) h710 fr711 (all_nil)
    refine ⟨_, _, _, _, rfl, rfl, h715, h710, (cat_len (RpAll.mono eG695 (RpAll.mono eG687 (RpAll.mono eG668 (RpAll.mono eG660 (RpAll.mono eG641 (RpAll.mono eG633 d621)))))) d713 g714), fun p724 n725 => ?_⟩
    generalize g726 : upd H707 p724 _ = H727
    obtain ⟨e728, h729⟩ := gen_new n725 g726
    have h730 : H727 p724 = some (.lst ([V.ref a566, V.ref a580, V.ref a594, V.ref a608] ++ [V.ref a646, V.ref a673, V.ref a700])) := h729
    have fr731 := S723.free n725
    have S732 := S723.new n725 e728 h730 fr731
    have d733 : RpAll G720 ([V.ref a566, V.ref a580, V.ref a594, V.ref a608] ++ [V.ref a646, V.ref a673, V.ref a700]) ((([v556, v570, v584, v598]) ++ ([v636, v663, v690]) : (List (List PyData))).map (encL encD)) := app_map (RpAll.mono eG721 (RpAll.mono eG717 (RpAll.mono eG695 (RpAll.mono eG687 (RpAll.mono eG668 (RpAll.mono eG660 (RpAll.mono eG641 (RpAll.mono eG633 d621)))))))) (RpAll.mono eG721 (RpAll.mono eG717 d713))
    obtain ⟨g734, hw⟩ := cW_grd hw
    obtain ⟨v735, a736, r737⟩ := RpAll.ixD (k := 3) (RpAll.mono eG721 (RpAll.mono eG717 (RpAll.mono eG695 (RpAll.mono eG687 (RpAll.mono eG668 (RpAll.mono eG660 (RpAll.mono eG641 (RpAll.mono eG633 (RpAll.mono eG603 (RpAll.mono eG589 (RpAll.mono eG575 (RpAll.mono eG561 d555)))))))))))) g734
    obtain ⟨g738, hw⟩ := cW_grd hw
    have r739 : Rp G720 v735 ((encL PyData.int) (((cL cI)).dec ((itD (p') (3))))) := rp_dcast (cL cI) g738 r737
    obtain ⟨a740, rfl, h741⟩ := rp_ints r739
    obtain ⟨g742, hw⟩ := cW_grd hw
    refine ⟨_, rfl, _, rfl, _, rfl, _, _, _, _, rfl, rfl, (SqL.of (S732.sG _ _ (eG721 _ _ (eG717 _ _ (eG695 _ _ (eG687 _ _ (eG668 _ _ (eG660 _ _ (eG641 _ _ (eG633 _ _ (eG603 _ _ (eG589 _ _ (eG575 _ _ (eG561 _ _ h554)))))))))))))), a736, _, rfl, _, _, _, _, rfl, rfl, (SqL.of (S732.bM _ _ q_n)), (atI_map g742), (by show 1 ≤ sizeLine; decide), fun p743 n744 => ?_⟩
    generalize g745 : upd H727 p743 _ = H746
    obtain ⟨e747, h748⟩ := gen_new n744 g745
    have h749 : H746 p743 = some (.lst (([(itD (n') (4))] : (List Int)).map V.int)) := h748
    have fr750 := S732.free n744
    have S751 := S732.new n744 e747 h749 fr750
    obtain ⟨g752, hw⟩ := cW_grd hw
    refine ⟨_, _, _, _, rfl, rfl, (S751.sG _ _ h741), h749, (cat_lenM g752), fun p753 n754 => ?_⟩
    generalize g755 : upd H746 p753 _ = H756
    obtain ⟨e757, h758⟩ := gen_new n754 g755
    have h759 : H756 p753 = some (.lst ((((((cL cI)).dec ((itD (p') (3))))) ++ ([(itD (n') (4))]) : (List Int)).map V.int)) := cat_map h758
    have fr760 := S751.free n754
    have S761 := S751.new n754 e757 h759 fr760
    obtain ⟨G762, eG763, hg764, S765⟩ := Sep.freeze (O' := [p743, p724]) S761 (.head _) h759 fr760 ((all_cons ⟨(.tail _ (.head _)), (ne_of_none h749 n754)⟩ (all_cons ⟨(.tail _ (.tail _ (.head _))), (ne_of_none (e747 _ _ h730) n754)⟩ all_nil)))
    refine ⟨rfl, rfl, G762, _, _, _, _, ((encL PyData.int) (((((cL cI)).dec ((itD (p') (3))))) ++ ([(itD (n') (4))]))), rfl, S765.sG, (rp_mk_list (eG763 _ _ (eG721 _ _ (eG717 _ _ (eG695 _ _ (eG687 _ _ (eG668 _ _ (eG660 _ _ (eG641 _ _ (eG633 _ _ (eG603 _ _ (eG589 _ _ (eG575 _ _ (eG561 _ _ h554))))))))))))) (RpAll.mono eG763 (RpAll.mono eG721 (RpAll.mono eG717 (RpAll.mono eG695 (RpAll.mono eG687 (RpAll.mono eG668 (RpAll.mono eG660 (RpAll.mono eG641 (RpAll.mono eG633 (RpAll.mono eG603 (RpAll.mono eG589 (RpAll.mono eG575 (RpAll.mono eG561 d555)))))))))))))), (rp_mk_ints hg764), cW_call hw (fun v766 hw v769 H767 G770 e768 eG771 sG772 hn773 r774 => ?_) (fun e he H2 e2 => hE e he H2 (Same.trans S765.b0 e2))⟩
    have S775 := S765.step e768 eG771 sG772 hn773
    obtain ⟨a776, vs777, rfl, h778, d779⟩ := rp_list r774
    obtain ⟨g780, hw⟩ := cW_grd hw
    refine ⟨_, rfl, _, rfl, _, _, _, _, rfl, rfl, (SqL.of (S775.bM _ _ q_n)), (atI_map g780), _, _, rfl, rfl, _, rfl, _, _, rfl, rfl, rfl, rfl, G770, _, _, _, _, (PyData.int ((((itD (n') (8)) - 1) + far'))), rfl, S775.sG, (rp_mk_list (eG771 _ _ (eG763 _ _ (eG721 _ _ (eG717 _ _ (eG695 _ _ (eG687 _ _ (eG668 _ _ (eG660 _ _ (eG641 _ _ (eG633 _ _ (eG603 _ _ (eG589 _ _ (eG575 _ _ (eG561 _ _ h554)))))))))))))) (RpAll.mono eG771 (RpAll.mono eG763 (RpAll.mono eG721 (RpAll.mono eG717 (RpAll.mono eG695 (RpAll.mono eG687 (RpAll.mono eG668 (RpAll.mono eG660 (RpAll.mono eG641 (RpAll.mono eG633 (RpAll.mono eG603 (RpAll.mono eG589 (RpAll.mono eG575 (RpAll.mono eG561 d555))))))))))))))), (.int _), cW_call hw (fun v781 hw v784 H782 G785 e783 eG786 sG787 hn788 r789 => ?_) (fun e he H2 e2 => hE e he H2 (Same.trans S775.b0 e2))⟩
    have S790 := S775.step e783 eG786 sG787 hn788
    obtain ⟨a791, vs792, rfl, h793, d794⟩ := rp_list r789
    refine ⟨_, rfl, _, rfl, _, rfl, rfl, rfl, G785, _, _, _, _, (PyData.int ((-far'))), rfl, S790.sG, (rp_mk_list (eG786 _ _ (eG771 _ _ (eG763 _ _ (eG721 _ _ (eG717 _ _ (eG695 _ _ (eG687 _ _ (eG668 _ _ (eG660 _ _ (eG641 _ _ (eG633 _ _ (eG603 _ _ (eG589 _ _ (eG575 _ _ (eG561 _ _ h554))))))))))))))) (RpAll.mono eG786 (RpAll.mono eG771 (RpAll.mono eG763 (RpAll.mono eG721 (RpAll.mono eG717 (RpAll.mono eG695 (RpAll.mono eG687 (RpAll.mono eG668 (RpAll.mono eG660 (RpAll.mono eG641 (RpAll.mono eG633 (RpAll.mono eG603 (RpAll.mono eG589 (RpAll.mono eG575 (RpAll.mono eG561 d555)))))))))))))))), (.int _), cW_call hw (fun v795 hw v798 H796 G799 e797 eG800 sG801 hn802 r803 => ?_) (fun e he H2 e2 => hE e he H2 (Same.trans S790.b0 e2))⟩
    have S804 := S790.step e797 eG800 sG801 hn802
    obtain ⟨a805, vs806, rfl, h807, d808⟩ := rp_list r803
    refine ⟨(by show 3 ≤ sizeLine; decide), fun p809 n810 => ?_⟩
    generalize g811 : upd H796 p809 _ = H812
    obtain ⟨e813, h814⟩ := gen_new n810 g811
    have h815 : H812 p809 = some (.lst ([V.ref a776, V.ref a791, V.ref a805])) := h814
    have fr816 := S804.free n810
    have S817 := S804.new n810 e813 h815 fr816
    have d818 : RpAll G799 ([V.ref a776, V.ref a791, V.ref a805]) (([v766, v781, v795] : (List (List PyData))).map (encL encD)) := (RpAll.cons (rp_mk_list (eG800 _ _ (eG786 _ _ h778)) (RpAll.mono eG800 (RpAll.mono eG786 d779))) (RpAll.cons (rp_mk_list (eG800 _ _ h793) (RpAll.mono eG800 d794)) (RpAll.cons (rp_mk_list h807 d808) RpAll.nil)))
    obtain ⟨g819, hw⟩ := cW_grd hw
    have h820 := (e813 _ _ (e797 _ _ (e783 _ _ (e768 _ _ (e757 _ _ (e747 _ _ h730))))))
    obtain ⟨G821, eG822, hg823, S824⟩ := Sep.freeze (O' := [p809, p743]) S817 (.tail _ (.tail _ (.head _))) h820 fr731 ((all_cons ⟨(.head _), (ne_of_none (e797 _ _ (e783 _ _ (e768 _ _ (e757 _ _ (e747 _ _ h730))))) n810).symm⟩ (all_cons ⟨(.tail _ (.head _)), (ne_of_none h730 n744).symm⟩ all_nil)))
    obtain ⟨G825, eG826, hg827, S828⟩ := Sep.freeze (O' := [p743]) S824 (.head _) h815 fr816 ((all_cons ⟨(.tail _ (.head _)), (ne_of_none (e797 _ _ (e783 _ _ (e768 _ _ (e757 _ _ h749)))) n810)⟩ all_nil))
    refine ⟨_, _, _, _, rfl, rfl, h820, h815, (cat_len (RpAll.mono eG800 (RpAll.mono eG786 (RpAll.mono eG771 (RpAll.mono eG763 d733)))) d818 g819), fun p829 n830 => ?_⟩
    generalize g831 : upd H812 p829 _ = H832
    obtain ⟨e833, h834⟩ := gen_new n830 g831
    have h835 : H832 p829 = some (.lst ([V.ref a566, V.ref a580, V.ref a594, V.ref a608] ++ [V.ref a646, V.ref a673, V.ref a700] ++ [V.ref a776, V.ref a791, V.ref a805])) := h834
    have fr836 := S828.free n830
    have S837 := S828.new n830 e833 h835 fr836
    have d838 : RpAll G825 ([V.ref a566, V.ref a580, V.ref a594, V.ref a608] ++ [V.ref a646, V.ref a673, V.ref a700] ++ [V.ref a776, V.ref a791, V.ref a805]) (((([v556, v570, v584, v598]) ++ ([v636, v663, v690])) ++ ([v766, v781, v795]) : (List (List PyData))).map (encL encD)) := app_map (RpAll.mono eG826 (RpAll.mono eG822 (RpAll.mono eG800 (RpAll.mono eG786 (RpAll.mono eG771 (RpAll.mono eG763 d733)))))) (RpAll.mono eG826 (RpAll.mono eG822 d818))
    refine ⟨_, rfl, _, rfl, (by show 1 ≤ sizeLine; decide), fun p839 n840 => ?_⟩
    generalize g841 : upd H832 p839 _ = H842
    obtain ⟨e843, h844⟩ := gen_new n840 g841
    have h845 : H842 p839 = some (.lst (([0] : (List Int)).map V.int)) := h844
    have fr846 := S837.free n840
    have S847 := S837.new n840 e843 h845 fr846
    refine ⟨(by show 0 ≤ sizeLine; decide), fun p848 n849 => ?_⟩
    generalize g850 : upd H842 p848 _ = H851
    obtain ⟨e852, h853⟩ := gen_new n849 g850
    have h854 : H851 p848 = some (.lst ((([] : (List Int)) : (List Int)).map V.int)) := h853
    have fr855 := S847.free n849
    have S856 := S847.new n849 e852 h854 fr855
    refine ⟨(by show 1 ≤ sizeLine; decide), fun p857 n858 => ?_⟩
    generalize g859 : upd H851 p857 _ = H860
    obtain ⟨e861, h862⟩ := gen_new n858 g859
    have h863 : H860 p857 = some (.lst (([0] : (List Int)).map V.int)) := h862
    have fr864 := S856.free n858
    have S865 := S856.new n858 e861 h863 fr864
    have h866 := (e861 _ _ (e852 _ _ h845))
    obtain ⟨G867, eG868, hg869, S870⟩ := Sep.freeze (O' := [p857, p848, p829, p743]) S865 (.tail _ (.tail _ (.head _))) h866 fr846 ((all_cons ⟨(.head _), (ne_of_none (e852 _ _ h845) n858).symm⟩ (all_cons ⟨(.tail _ (.head _)), (ne_of_none h845 n849).symm⟩ (all_cons ⟨(.tail _ (.tail _ (.tail _ (.head _)))), (ne_of_none h835 n840)⟩ (all_cons ⟨(.tail _ (.tail _ (.tail _ (.tail _ (.head _))))), (ne_of_none (e833 _ _ (e813 _ _ (e797 _ _ (e783 _ _ (e768 _ _ (e757 _ _ h749)))))) n840)⟩ all_nil)))))
    have h871 := (e861 _ _ h854)
    obtain ⟨G872, eG873, hg874, S875⟩ := Sep.freeze (O' := [p857, p829, p743]) S870 (.tail _ (.head _)) h871 fr855 ((all_cons ⟨(.head _), (ne_of_none h854 n858).symm⟩ (all_cons ⟨(.tail _ (.tail _ (.head _))), (ne_of_none (e843 _ _ h835) n849)⟩ (all_cons ⟨(.tail _ (.tail _ (.tail _ (.head _)))), (ne_of_none (e843 _ _ (e833 _ _ (e813 _ _ (e797 _ _ (e783 _ _ (e768 _ _ (e757 _ _ h749))))))) n849)⟩ all_nil))))
    obtain ⟨G876, eG877, hg878, S879⟩ := Sep.freeze (O' := [p829, p743]) S875 (.head _) h863 fr864 ((all_cons ⟨(.tail _ (.head _)), (ne_of_none (e852 _ _ (e843 _ _ h835)) n858)⟩ (all_cons ⟨(.tail _ (.tail _ (.head _))), (ne_of_none (e852 _ _ (e843 _ _ (e833 _ _ (e813 _ _ (e797 _ _ (e783 _ _ (e768 _ _ (e757 _ _ h749)))))))) n858)⟩ all_nil)))
    refine ⟨(by show 3 ≤ sizeLine; decide), fun p880 n881 => ?_⟩
    generalize g882 : upd H860 p880 _ = H883
    obtain ⟨e884, h885⟩ := gen_new n881 g882
    have h886 : H883 p880 = some (.lst ([V.ref p839, V.ref p848, V.ref p857])) := h885
    have fr887 := S879.free n881
    have S888 := S879.new n881 e884 h886 fr887
    have d889 : RpAll G876 ([V.ref p839, V.ref p848, V.ref p857]) (([[0], ([] : (List Int)), [0]] : (List (List Int))).map (encL PyData.int)) := (RpAll.cons (rp_mk_ints (eG877 _ _ (eG873 _ _ hg869))) (RpAll.cons (rp_mk_ints (eG877 _ _ hg874)) (RpAll.cons (rp_mk_ints hg878) RpAll.nil)))
    obtain ⟨g890, hw⟩ := cW_grd hw
    obtain ⟨v891, a892, r893⟩ := RpAll.ixD (k := 1) (RpAll.mono eG877 (RpAll.mono eG873 (RpAll.mono eG868 (RpAll.mono eG826 (RpAll.mono eG822 (RpAll.mono eG800 (RpAll.mono eG786 (RpAll.mono eG771 (RpAll.mono eG763 (RpAll.mono eG721 (RpAll.mono eG717 (RpAll.mono eG695 (RpAll.mono eG687 (RpAll.mono eG668 (RpAll.mono eG660 (RpAll.mono eG641 (RpAll.mono eG633 (RpAll.mono eG603 (RpAll.mono eG589 (RpAll.mono eG575 (RpAll.mono eG561 d555))))))))))))))))))))) g890
    obtain ⟨g894, hw⟩ := cW_grd hw
    have r895 : Rp G876 v891 (PyData.int ((cI).dec ((itD (p') (1))))) := rp_dcast cI g894 r893
    obtain rfl := rp_int r895
    obtain ⟨g896, hw⟩ := cW_grd hw
    obtain ⟨v897, a898, r899⟩ := RpAll.ixD (k := ((cI).dec ((itD (p') (1))))) d889 g896
    obtain ⟨a900, rfl, h901⟩ := rp_ints r899
    refine ⟨_, rfl, _, _, _, _, rfl, rfl, (SqL.of (S888.sG _ _ (eG877 _ _ (eG873 _ _ (eG868 _ _ (eG826 _ _ (eG822 _ _ (eG800 _ _ (eG786 _ _ (eG771 _ _ (eG763 _ _ (eG721 _ _ (eG717 _ _ (eG695 _ _ (eG687 _ _ (eG668 _ _ (eG660 _ _ (eG641 _ _ (eG633 _ _ (eG603 _ _ (eG589 _ _ (eG575 _ _ (eG561 _ _ h554))))))))))))))))))))))), a892, _, _, _, _, rfl, rfl, (SqL.of h886), a898, rfl, rfl, G876, _, _, _, _, ((encL PyData.int) ((itD ([[0], ([] : (List Int)), [0]]) (((cI).dec ((itD (p') (1)))))))), rfl, S888.sG, (rp_mk_list (eG877 _ _ (eG873 _ _ (eG868 _ _ (eG826 _ _ (eG822 _ _ (eG800 _ _ (eG786 _ _ (eG771 _ _ (eG763 _ _ (eG721 _ _ (eG717 _ _ (eG695 _ _ (eG687 _ _ (eG668 _ _ (eG660 _ _ (eG641 _ _ (eG633 _ _ (eG603 _ _ (eG589 _ _ (eG575 _ _ (eG561 _ _ h554))))))))))))))))))))) (RpAll.mono eG877 (RpAll.mono eG873 (RpAll.mono eG868 (RpAll.mono eG826 (RpAll.mono eG822 (RpAll.mono eG800 (RpAll.mono eG786 (RpAll.mono eG771 (RpAll.mono eG763 (RpAll.mono eG721 (RpAll.mono eG717 (RpAll.mono eG695 (RpAll.mono eG687 (RpAll.mono eG668 (RpAll.mono eG660 (RpAll.mono eG641 (RpAll.mono eG633 (RpAll.mono eG603 (RpAll.mono eG589 (RpAll.mono eG575 (RpAll.mono eG561 d555)))))))))))))))))))))), (rp_mk_ints h901), cW_call hw (fun v902 hw v905 H903 G906 e904 eG907 sG908 hn909 r910 => ?_) (fun e he H2 e2 => hE e he H2 (Same.trans S888.b0 e2))⟩
    have S911 := S888.step e904 eG907 sG908 hn909
    obtain ⟨a912, vs913, rfl, h914, d915⟩ := rp_list r910
    refine ⟨_, rfl, (by show 3 ≤ sizeLine; decide), fun p916 n917 => ?_⟩
    generalize g918 : upd H903 p916 _ = H919
    obtain ⟨e920, h921⟩ := gen_new n917 g918
    have h922 : H919 p916 = some (.lst (([0, 0, 0] : (List Int)).map V.int)) := h921
    have fr923 := S911.free n917
    have S924 := S911.new n917 e920 h922 fr923
    obtain ⟨G925, eG926, hg927, S928⟩ := Sep.freeze (O' := [p880, p829, p743]) S924 (.head _) h922 fr923 ((all_cons ⟨(.tail _ (.head _)), (ne_of_none (e904 _ _ h886) n917)⟩ (all_cons ⟨(.tail _ (.tail _ (.head _))), (ne_of_none (e904 _ _ (e884 _ _ (e861 _ _ (e852 _ _ (e843 _ _ h835))))) n917)⟩ (all_cons ⟨(.tail _ (.tail _ (.tail _ (.head _)))), (ne_of_none (e904 _ _ (e884 _ _ (e861 _ _ (e852 _ _ (e843 _ _ (e833 _ _ (e813 _ _ (e797 _ _ (e783 _ _ (e768 _ _ (e757 _ _ h749))))))))))) n917)⟩ all_nil))))
    refine ⟨rfl, rfl, G925, _, _, _, _, ((encL PyData.int) ([0, 0, 0])), rfl, S928.sG, (rp_mk_list (eG926 _ _ (eG907 _ _ (eG877 _ _ (eG873 _ _ (eG868 _ _ (eG826 _ _ (eG822 _ _ (eG800 _ _ (eG786 _ _ (eG771 _ _ (eG763 _ _ (eG721 _ _ (eG717 _ _ (eG695 _ _ (eG687 _ _ (eG668 _ _ (eG660 _ _ (eG641 _ _ (eG633 _ _ (eG603 _ _ (eG589 _ _ (eG575 _ _ (eG561 _ _ h554))))))))))))))))))))))) (RpAll.mono eG926 (RpAll.mono eG907 (RpAll.mono eG877 (RpAll.mono eG873 (RpAll.mono eG868 (RpAll.mono eG826 (RpAll.mono eG822 (RpAll.mono eG800 (RpAll.mono eG786 (RpAll.mono eG771 (RpAll.mono eG763 (RpAll.mono eG721 (RpAll.mono eG717 (RpAll.mono eG695 (RpAll.mono eG687 (RpAll.mono eG668 (RpAll.mono eG660 (RpAll.mono eG641 (RpAll.mono eG633 (RpAll.mono eG603 (RpAll.mono eG589 (RpAll.mono eG575 (RpAll.mono eG561 d555)))))))))))))))))))))))), (rp_mk_ints hg927), cW_call hw (fun v929 hw v932 H930 G933 e931 eG934 sG935 hn936 r937 => ?_) (fun e he H2 e2 => hE e he H2 (Same.trans S928.b0 e2))⟩
    have S938 := S928.step e931 eG934 sG935 hn936
    obtain ⟨a939, vs940, rfl, h941, d942⟩ := rp_list r937
    refine ⟨_, rfl, _, rfl, _, _, rfl, rfl, rfl, rfl, G933, _, _, _, _, (PyData.int ((6 + far'))), rfl, S938.sG, (rp_mk_list (eG934 _ _ (eG926 _ _ (eG907 _ _ (eG877 _ _ (eG873 _ _ (eG868 _ _ (eG826 _ _ (eG822 _ _ (eG800 _ _ (eG786 _ _ (eG771 _ _ (eG763 _ _ (eG721 _ _ (eG717 _ _ (eG695 _ _ (eG687 _ _ (eG668 _ _ (eG660 _ _ (eG641 _ _ (eG633 _ _ (eG603 _ _ (eG589 _ _ (eG575 _ _ (eG561 _ _ h554)))))))))))))))))))))))) (RpAll.mono eG934 (RpAll.mono eG926 (RpAll.mono eG907 (RpAll.mono eG877 (RpAll.mono eG873 (RpAll.mono eG868 (RpAll.mono eG826 (RpAll.mono eG822 (RpAll.mono eG800 (RpAll.mono eG786 (RpAll.mono eG771 (RpAll.mono eG763 (RpAll.mono eG721 (RpAll.mono eG717 (RpAll.mono eG695 (RpAll.mono eG687 (RpAll.mono eG668 (RpAll.mono eG660 (RpAll.mono eG641 (RpAll.mono eG633 (RpAll.mono eG603 (RpAll.mono eG589 (RpAll.mono eG575 (RpAll.mono eG561 d555))))))))))))))))))))))))), (.int _), cW_call hw (fun v943 hw v946 H944 G947 e945 eG948 sG949 hn950 r951 => ?_) (fun e he H2 e2 => hE e he H2 (Same.trans S938.b0 e2))⟩
    have S952 := S938.step e945 eG948 sG949 hn950
    obtain ⟨a953, vs954, rfl, h955, d956⟩ := rp_list r951
    refine ⟨(by show 3 ≤ sizeLine; decide), fun p957 n958 => ?_⟩
    generalize g959 : upd H944 p957 _ = H960
    obtain ⟨e961, h962⟩ := gen_new n958 g959
    have h963 : H960 p957 = some (.lst ([V.ref a912, V.ref a939, V.ref a953])) := h962
    have fr964 := S952.free n958
    have S965 := S952.new n958 e961 h963 fr964
    have d966 : RpAll G947 ([V.ref a912, V.ref a939, V.ref a953]) (([v902, v929, v943] : (List (List PyData))).map (encL encD)) := (RpAll.cons (rp_mk_list (eG948 _ _ (eG934 _ _ (eG926 _ _ h914))) (RpAll.mono eG948 (RpAll.mono eG934 (RpAll.mono eG926 d915)))) (RpAll.cons (rp_mk_list (eG948 _ _ h941) (RpAll.mono eG948 d942)) (RpAll.cons (rp_mk_list h955 d956) RpAll.nil)))
    obtain ⟨g967, hw⟩ := cW_grd hw
    have h968 := (e961 _ _ (e945 _ _ (e931 _ _ (e920 _ _ (e904 _ _ (e884 _ _ (e861 _ _ (e852 _ _ (e843 _ _ h835)))))))))
    obtain ⟨G969, eG970, hg971, S972⟩ := Sep.freeze (O' := [p957, p880, p743]) S965 (.tail _ (.tail _ (.head _))) h968 fr836 ((all_cons ⟨(.head _), (ne_of_none (e945 _ _ (e931 _ _ (e920 _ _ (e904 _ _ (e884 _ _ (e861 _ _ (e852 _ _ (e843 _ _ h835)))))))) n958).symm⟩ (all_cons ⟨(.tail _ (.head _)), (ne_of_none (e861 _ _ (e852 _ _ (e843 _ _ h835))) n881).symm⟩ (all_cons ⟨(.tail _ (.tail _ (.tail _ (.head _)))), (ne_of_none (e813 _ _ (e797 _ _ (e783 _ _ (e768 _ _ (e757 _ _ h749))))) n830)⟩ all_nil))))
    obtain ⟨G973, eG974, hg975, S976⟩ := Sep.freeze (O' := [p880, p743]) S972 (.head _) h963 fr964 ((all_cons ⟨(.tail _ (.head _)), (ne_of_none (e945 _ _ (e931 _ _ (e920 _ _ (e904 _ _ h886)))) n958)⟩ (all_cons ⟨(.tail _ (.tail _ (.head _))), (ne_of_none (e945 _ _ (e931 _ _ (e920 _ _ (e904 _ _ (e884 _ _ (e861 _ _ (e852 _ _ (e843 _ _ (e833 _ _ (e813 _ _ (e797 _ _ (e783 _ _ (e768 _ _ (e757 _ _ h749)))))))))))))) n958)⟩ all_nil)))
    refine ⟨_, _, _, _, rfl, rfl, h968, h963, (cat_len (RpAll.mono eG948 (RpAll.mono eG934 (RpAll.mono eG926 (RpAll.mono eG907 (RpAll.mono eG877 (RpAll.mono eG873 (RpAll.mono eG868 d838))))))) d966 g967), fun p977 n978 => ?_⟩
    generalize g979 : upd H960 p977 _ = H980
    obtain ⟨e981, h982⟩ := gen_new n978 g979
    have h983 : H980 p977 = some (.lst ([V.ref a566, V.ref a580, V.ref a594, V.ref a608] ++ [V.ref a646, V.ref a673, V.ref a700] ++ [V.ref a776, V.ref a791, V.ref a805] ++ [V.ref a912, V.ref a939, V.ref a953])) := h982
    have fr984 := S976.free n978
    have S985 := S976.new n978 e981 h983 fr984
    have d986 : RpAll G973 ([V.ref a566, V.ref a580, V.ref a594, V.ref a608] ++ [V.ref a646, V.ref a673, V.ref a700] ++ [V.ref a776, V.ref a791, V.ref a805] ++ [V.ref a912, V.ref a939, V.ref a953]) ((((([v556, v570, v584, v598]) ++ ([v636, v663, v690])) ++ ([v766, v781, v795])) ++ ([v902, v929, v943]) : (List (List PyData))).map (encL encD)) := app_map (RpAll.mono eG974 (RpAll.mono eG970 (RpAll.mono eG948 (RpAll.mono eG934 (RpAll.mono eG926 (RpAll.mono eG907 (RpAll.mono eG877 (RpAll.mono eG873 (RpAll.mono eG868 d838))))))))) (RpAll.mono eG974 (RpAll.mono eG970 d966))
    refine ⟨_, rfl, _, rfl, _, rfl, _, rfl, _, _, rfl, rfl, rfl, rfl, G973, _, _, _, _, (PyData.int (((-6) - far'))), rfl, S985.sG, (rp_mk_list (eG974 _ _ (eG970 _ _ (eG948 _ _ (eG934 _ _ (eG926 _ _ (eG907 _ _ (eG877 _ _ (eG873 _ _ (eG868 _ _ (eG826 _ _ (eG822 _ _ (eG800 _ _ (eG786 _ _ (eG771 _ _ (eG763 _ _ (eG721 _ _ (eG717 _ _ (eG695 _ _ (eG687 _ _ (eG668 _ _ (eG660 _ _ (eG641 _ _ (eG633 _ _ (eG603 _ _ (eG589 _ _ (eG575 _ _ (eG561 _ _ h554))))))))))))))))))))))))))) (RpAll.mono eG974 (RpAll.mono eG970 (RpAll.mono eG948 (RpAll.mono eG934 (RpAll.mono eG926 (RpAll.mono eG907 (RpAll.mono eG877 (RpAll.mono eG873 (RpAll.mono eG868 (RpAll.mono eG826 (RpAll.mono eG822 (RpAll.mono eG800 (RpAll.mono eG786 (RpAll.mono eG771 (RpAll.mono eG763 (RpAll.mono eG721 (RpAll.mono eG717 (RpAll.mono eG695 (RpAll.mono eG687 (RpAll.mono eG668 (RpAll.mono eG660 (RpAll.mono eG641 (RpAll.mono eG633 (RpAll.mono eG603 (RpAll.mono eG589 (RpAll.mono eG575 (RpAll.mono eG561 d555)))))))))))))))))))))))))))), (.int _), cW_call hw (fun v987 hw v990 H988 G991 e989 eG992 sG993 hn994 r995 => ?_) (fun e he H2 e2 => hE e he H2 (Same.trans S985.b0 e2))⟩
    have S996 := S985.step e989 eG992 sG993 hn994
    obtain ⟨a997, vs998, rfl, h999, d1000⟩ := rp_list r995
    refine ⟨_, rfl, (by show 3 ≤ sizeLine; decide), fun p1001 n1002 => ?_⟩
    generalize g1003 : upd H988 p1001 _ = H1004
    obtain ⟨e1005, h1006⟩ := gen_new n1002 g1003
    have h1007 : H1004 p1001 = some (.lst (([7, 9, 17] : (List Int)).map V.int)) := h1006
    have fr1008 := S996.free n1002
    have S1009 := S996.new n1002 e1005 h1007 fr1008
    obtain ⟨g1010, hw⟩ := cW_grd hw
    obtain ⟨v1011, a1012, r1013⟩ := RpAll.ixD (k := 1) (RpAll.mono eG992 (RpAll.mono eG974 (RpAll.mono eG970 (RpAll.mono eG948 (RpAll.mono eG934 (RpAll.mono eG926 (RpAll.mono eG907 (RpAll.mono eG877 (RpAll.mono eG873 (RpAll.mono eG868 (RpAll.mono eG826 (RpAll.mono eG822 (RpAll.mono eG800 (RpAll.mono eG786 (RpAll.mono eG771 (RpAll.mono eG763 (RpAll.mono eG721 (RpAll.mono eG717 (RpAll.mono eG695 (RpAll.mono eG687 (RpAll.mono eG668 (RpAll.mono eG660 (RpAll.mono eG641 (RpAll.mono eG633 (RpAll.mono eG603 (RpAll.mono eG589 (RpAll.mono eG575 (RpAll.mono eG561 d555)))))))))))))))))))))))))))) g1010
    obtain ⟨g1014, hw⟩ := cW_grd hw
    have r1015 : Rp G991 v1011 (PyData.int ((cI).dec ((itD (p') (1))))) := rp_dcast cI g1014 r1013
    obtain rfl := rp_int r1015
    obtain ⟨g1016, hw⟩ := cW_grd hw
    refine ⟨_, rfl, _, _, _, _, rfl, rfl, (SqL.of (S1009.sG _ _ (eG992 _ _ (eG974 _ _ (eG970 _ _ (eG948 _ _ (eG934 _ _ (eG926 _ _ (eG907 _ _ (eG877 _ _ (eG873 _ _ (eG868 _ _ (eG826 _ _ (eG822 _ _ (eG800 _ _ (eG786 _ _ (eG771 _ _ (eG763 _ _ (eG721 _ _ (eG717 _ _ (eG695 _ _ (eG687 _ _ (eG668 _ _ (eG660 _ _ (eG641 _ _ (eG633 _ _ (eG603 _ _ (eG589 _ _ (eG575 _ _ (eG561 _ _ h554)))))))))))))))))))))))))))))), a1012, _, _, _, _, rfl, rfl, (SqL.of h1007), (atI_map g1016), rfl, rfl, G991, _, _, _, _, (PyData.int ((itD ([7, 9, 17]) (((cI).dec ((itD (p') (1)))))))), rfl, S1009.sG, (rp_mk_list (eG992 _ _ (eG974 _ _ (eG970 _ _ (eG948 _ _ (eG934 _ _ (eG926 _ _ (eG907 _ _ (eG877 _ _ (eG873 _ _ (eG868 _ _ (eG826 _ _ (eG822 _ _ (eG800 _ _ (eG786 _ _ (eG771 _ _ (eG763 _ _ (eG721 _ _ (eG717 _ _ (eG695 _ _ (eG687 _ _ (eG668 _ _ (eG660 _ _ (eG641 _ _ (eG633 _ _ (eG603 _ _ (eG589 _ _ (eG575 _ _ (eG561 _ _ h554)))))))))))))))))))))))))))) (RpAll.mono eG992 (RpAll.mono eG974 (RpAll.mono eG970 (RpAll.mono eG948 (RpAll.mono eG934 (RpAll.mono eG926 (RpAll.mono eG907 (RpAll.mono eG877 (RpAll.mono eG873 (RpAll.mono eG868 (RpAll.mono eG826 (RpAll.mono eG822 (RpAll.mono eG800 (RpAll.mono eG786 (RpAll.mono eG771 (RpAll.mono eG763 (RpAll.mono eG721 (RpAll.mono eG717 (RpAll.mono eG695 (RpAll.mono eG687 (RpAll.mono eG668 (RpAll.mono eG660 (RpAll.mono eG641 (RpAll.mono eG633 (RpAll.mono eG603 (RpAll.mono eG589 (RpAll.mono eG575 (RpAll.mono eG561 d555))))))))))))))))))))))))))))), (.int _), cW_call hw (fun v1017 hw v1020 H1018 G1021 e1019 eG1022 sG1023 hn1024 r1025 => ?_) (fun e he H2 e2 => hE e he H2 (Same.trans S1009.b0 e2))⟩
    have S1026 := S1009.step e1019 eG1022 sG1023 hn1024
    obtain ⟨a1027, vs1028, rfl, h1029, d1030⟩ := rp_list r1025
    refine ⟨_, rfl, _, rfl, _, _, rfl, rfl, _, rfl, _, _, rfl, rfl, _, rfl, _, rfl, (by show 3 ≤ sizeLine; decide), fun p1031 n1032 => ?_⟩
    generalize g1033 : upd H1018 p1031 _ = H1034
    obtain ⟨e1035, h1036⟩ := gen_new n1032 g1033
    have h1037 : H1034 p1031 = some (.lst (([(8 + far'), (8 - far'), (-far')] : (List Int)).map V.int)) := h1036
    have fr1038 := S1026.free n1032
    have S1039 := S1026.new n1032 e1035 h1037 fr1038
    obtain ⟨g1040, hw⟩ := cW_grd hw
    obtain ⟨v1041, a1042, r1043⟩ := RpAll.ixD (k := 1) (RpAll.mono eG1022 (RpAll.mono eG992 (RpAll.mono eG974 (RpAll.mono eG970 (RpAll.mono eG948 (RpAll.mono eG934 (RpAll.mono eG926 (RpAll.mono eG907 (RpAll.mono eG877 (RpAll.mono eG873 (RpAll.mono eG868 (RpAll.mono eG826 (RpAll.mono eG822 (RpAll.mono eG800 (RpAll.mono eG786 (RpAll.mono eG771 (RpAll.mono eG763 (RpAll.mono eG721 (RpAll.mono eG717 (RpAll.mono eG695 (RpAll.mono eG687 (RpAll.mono eG668 (RpAll.mono eG660 (RpAll.mono eG641 (RpAll.mono eG633 (RpAll.mono eG603 (RpAll.mono eG589 (RpAll.mono eG575 (RpAll.mono eG561 d555))))))))))))))))))))))))))))) g1040
    obtain ⟨g1044, hw⟩ := cW_grd hw
    have r1045 : Rp G1021 v1041 (PyData.int ((cI).dec ((itD (p') (1))))) := rp_dcast cI g1044 r1043
    obtain rfl := rp_int r1045
    obtain ⟨g1046, hw⟩ := cW_grd hw
    refine ⟨_, rfl, _, _, _, _, rfl, rfl, (SqL.of (S1039.sG _ _ (eG1022 _ _ (eG992 _ _ (eG974 _ _ (eG970 _ _ (eG948 _ _ (eG934 _ _ (eG926 _ _ (eG907 _ _ (eG877 _ _ (eG873 _ _ (eG868 _ _ (eG826 _ _ (eG822 _ _ (eG800 _ _ (eG786 _ _ (eG771 _ _ (eG763 _ _ (eG721 _ _ (eG717 _ _ (eG695 _ _ (eG687 _ _ (eG668 _ _ (eG660 _ _ (eG641 _ _ (eG633 _ _ (eG603 _ _ (eG589 _ _ (eG575 _ _ (eG561 _ _ h554))))))))))))))))))))))))))))))), a1042, _, _, _, _, rfl, rfl, (SqL.of h1037), (atI_map g1046), rfl, rfl, G1021, _, _, _, _, (PyData.int ((itD ([(8 + far'), (8 - far'), (-far')]) (((cI).dec ((itD (p') (1)))))))), rfl, S1039.sG, (rp_mk_list (eG1022 _ _ (eG992 _ _ (eG974 _ _ (eG970 _ _ (eG948 _ _ (eG934 _ _ (eG926 _ _ (eG907 _ _ (eG877 _ _ (eG873 _ _ (eG868 _ _ (eG826 _ _ (eG822 _ _ (eG800 _ _ (eG786 _ _ (eG771 _ _ (eG763 _ _ (eG721 _ _ (eG717 _ _ (eG695 _ _ (eG687 _ _ (eG668 _ _ (eG660 _ _ (eG641 _ _ (eG633 _ _ (eG603 _ _ (eG589 _ _ (eG575 _ _ (eG561 _ _ h554))))))))))))))))))))))))))))) (RpAll.mono eG1022 (RpAll.mono eG992 (RpAll.mono eG974 (RpAll.mono eG970 (RpAll.mono eG948 (RpAll.mono eG934 (RpAll.mono eG926 (RpAll.mono eG907 (RpAll.mono eG877 (RpAll.mono eG873 (RpAll.mono eG868 (RpAll.mono eG826 (RpAll.mono eG822 (RpAll.mono eG800 (RpAll.mono eG786 (RpAll.mono eG771 (RpAll.mono eG763 (RpAll.mono eG721 (RpAll.mono eG717 (RpAll.mono eG695 (RpAll.mono eG687 (RpAll.mono eG668 (RpAll.mono eG660 (RpAll.mono eG641 (RpAll.mono eG633 (RpAll.mono eG603 (RpAll.mono eG589 (RpAll.mono eG575 (RpAll.mono eG561 d555)))))))))))))))))))))))))))))), (.int _), cW_call hw (fun v1047 hw v1050 H1048 G1051 e1049 eG1052 sG1053 hn1054 r1055 => ?_) (fun e he H2 e2 => hE e he H2 (Same.trans S1039.b0 e2))⟩
    have S1056 := S1039.step e1049 eG1052 sG1053 hn1054
    obtain ⟨a1057, vs1058, rfl, h1059, d1060⟩ := rp_list r1055
    refine ⟨(by show 3 ≤ sizeLine; decide), fun p1061 n1062 => ?_⟩
    generalize g1063 : upd H1048 p1061 _ = H1064
    obtain ⟨e1065, h1066⟩ := gen_new n1062 g1063
    have h1067 : H1064 p1061 = some (.lst ([V.ref a997, V.ref a1027, V.ref a1057])) := h1066
    have fr1068 := S1056.free n1062
    have S1069 := S1056.new n1062 e1065 h1067 fr1068
    have d1070 : RpAll G1051 ([V.ref a997, V.ref a1027, V.ref a1057]) (([v987, v1017, v1047] : (List (List PyData))).map (encL encD)) := (RpAll.cons (rp_mk_list (eG1052 _ _ (eG1022 _ _ h999)) (RpAll.mono eG1052 (RpAll.mono eG1022 d1000))) (RpAll.cons (rp_mk_list (eG1052 _ _ h1029) (RpAll.mono eG1052 d1030)) (RpAll.cons (rp_mk_list h1059 d1060) RpAll.nil)))
    obtain ⟨g1071, hw⟩ := cW_grd hw
    have h1072 := (e1065 _ _ (e1049 _ _ (e1035 _ _ (e1019 _ _ (e1005 _ _ (e989 _ _ h983))))))
    obtain ⟨G1073, eG1074, hg1075, S1076⟩ := Sep.freeze (O' := [p1061, p1031, p1001, p880, p743]) S1069 (.tail _ (.tail _ (.tail _ (.head _)))) h1072 fr984 ((all_cons ⟨(.head _), (ne_of_none (e1049 _ _ (e1035 _ _ (e1019 _ _ (e1005 _ _ (e989 _ _ h983))))) n1062).symm⟩ (all_cons ⟨(.tail _ (.head _)), (ne_of_none (e1019 _ _ (e1005 _ _ (e989 _ _ h983))) n1032).symm⟩ (all_cons ⟨(.tail _ (.tail _ (.head _))), (ne_of_none (e989 _ _ h983) n1002).symm⟩ (all_cons ⟨(.tail _ (.tail _ (.tail _ (.tail _ (.head _))))), (ne_of_none (e961 _ _ (e945 _ _ (e931 _ _ (e920 _ _ (e904 _ _ h886))))) n978)⟩ (all_cons ⟨(.tail _ (.tail _ (.tail _ (.tail _ (.tail _ (.head _)))))), (ne_of_none (e961 _ _ (e945 _ _ (e931 _ _ (e920 _ _ (e904 _ _ (e884 _ _ (e861 _ _ (e852 _ _ (e843 _ _ (e833 _ _ (e813 _ _ (e797 _ _ (e783 _ _ (e768 _ _ (e757 _ _ h749))))))))))))))) n978)⟩ all_nil))))))
    obtain ⟨G1077, eG1078, hg1079, S1080⟩ := Sep.freeze (O' := [p1031, p1001, p880, p743]) S1076 (.head _) h1067 fr1068 ((all_cons ⟨(.tail _ (.head _)), (ne_of_none (e1049 _ _ h1037) n1062)⟩ (all_cons ⟨(.tail _ (.tail _ (.head _))), (ne_of_none (e1049 _ _ (e1035 _ _ (e1019 _ _ h1007))) n1062)⟩ (all_cons ⟨(.tail _ (.tail _ (.tail _ (.head _)))), (ne_of_none (e1049 _ _ (e1035 _ _ (e1019 _ _ (e1005 _ _ (e989 _ _ (e981 _ _ (e961 _ _ (e945 _ _ (e931 _ _ (e920 _ _ (e904 _ _ h886))))))))))) n1062)⟩ (all_cons ⟨(.tail _ (.tail _ (.tail _ (.tail _ (.head _))))), (ne_of_none (e1049 _ _ (e1035 _ _ (e1019 _ _ (e1005 _ _ (e989 _ _ (e981 _ _ (e961 _ _ (e945 _ _ (e931 _ _ (e920 _ _ (e904 _ _ (e884 _ _ (e861 _ _ (e852 _ _ (e843 _ _ (e833 _ _ (e813 _ _ (e797 _ _ (e783 _ _ (e768 _ _ (e757 _ _ h749))))))))))))))))))))) n1062)⟩ all_nil)))))
    refine ⟨_, _, _, _, rfl, rfl, h1072, h1067, (cat_len (RpAll.mono eG1052 (RpAll.mono eG1022 (RpAll.mono eG992 d986))) d1070 g1071), fun p1081 n1082 => ?_⟩
    generalize g1083 : upd H1064 p1081 _ = H1084
    obtain ⟨e1085, h1086⟩ := gen_new n1082 g1083
    have h1087 : H1084 p1081 = some (.lst ([V.ref a566, V.ref a580, V.ref a594, V.ref a608] ++ [V.ref a646, V.ref a673, V.ref a700] ++ [V.ref a776, V.ref a791, V.ref a805] ++ [V.ref a912, V.ref a939, V.ref a953] ++ [V.ref a997, V.ref a1027, V.ref a1057])) := h1086
    have fr1088 := S1080.free n1082
    have S1089 := S1080.new n1082 e1085 h1087 fr1088
    have d1090 : RpAll G1077 ([V.ref a566, V.ref a580, V.ref a594, V.ref a608] ++ [V.ref a646, V.ref a673, V.ref a700] ++ [V.ref a776, V.ref a791, V.ref a805] ++ [V.ref a912, V.ref a939, V.ref a953] ++ [V.ref a997, V.ref a1027, V.ref a1057]) (((((([v556, v570, v584, v598]) ++ ([v636, v663, v690])) ++ ([v766, v781, v795])) ++ ([v902, v929, v943])) ++ ([v987, v1017, v1047]) : (List (List PyData))).map (encL encD)) := app_map (RpAll.mono eG1078 (RpAll.mono eG1074 (RpAll.mono eG1052 (RpAll.mono eG1022 (RpAll.mono eG992 d986))))) (RpAll.mono eG1078 (RpAll.mono eG1074 d1070))
    refine ⟨fun σ H' => ∃ (p1096 : Addr) (faults_1095 : (List (List PyData))) (vs1097 : List V) (G' : Hp), σ = [some (V.ref a552), some (V.ref a_n), some (V.int (far')), some (V.ref p1096), none] ∧ Same G1077 G' ∧ Sep [] H G G' H' [p1096] ∧ H' p1096 = some (.lst (vs1097)) ∧ H p1096 = none ∧ RpAll G' (vs1097) ((faults_1095 : (List (List PyData))).map (encL encD)) ∧ cW (F__law_faults_k1 (p') (n') (far') faults_1095) KK EE, ?_, ?_⟩
    · obtain ⟨K1098, hK1099, hw⟩ := cW_push hw
      obtain ⟨g1100, hw⟩ := cW_grd hw
      refine ⟨_, rfl, _, _, _, _, rfl, rfl, (SqL.of (S1089.bM _ _ q_n)), (atI_map g1100), _, _, rfl, rfl, _, rfl, ?_⟩
      refine iteD (fun c1101 => ?_) (fun c1101 => ?_)
      · have hw := cW_pos c1101 hw
        refine ⟨_, rfl, _, rfl, (by show 2 ≤ sizeLine; decide), fun p1102 n1103 => ?_⟩
        generalize g1104 : upd H1084 p1102 _ = H1105
        obtain ⟨e1106, h1107⟩ := gen_new n1103 g1104
        have h1108 : H1105 p1102 = some (.lst (([1, 0] : (List Int)).map V.int)) := h1107
        have fr1109 := S1089.free n1103
        have S1110 := S1089.new n1103 e1106 h1108 fr1109
        obtain ⟨G1111, eG1112, hg1113, S1114⟩ := Sep.freeze (O' := [p1081, p1031, p1001, p880, p743]) S1110 (.head _) h1108 fr1109 ((all_cons ⟨(.tail _ (.head _)), (ne_of_none h1087 n1103)⟩ (all_cons ⟨(.tail _ (.tail _ (.head _))), (ne_of_none (e1085 _ _ (e1065 _ _ (e1049 _ _ h1037))) n1103)⟩ (all_cons ⟨(.tail _ (.tail _ (.tail _ (.head _)))), (ne_of_none (e1085 _ _ (e1065 _ _ (e1049 _ _ (e1035 _ _ (e1019 _ _ h1007))))) n1103)⟩ (all_cons ⟨(.tail _ (.tail _ (.tail _ (.tail _ (.head _))))), (ne_of_none (e1085 _ _ (e1065 _ _ (e1049 _ _ (e1035 _ _ (e1019 _ _ (e1005 _ _ (e989 _ _ (e981 _ _ (e961 _ _ (e945 _ _ (e931 _ _ (e920 _ _ (e904 _ _ h886))))))))))))) n1103)⟩ (all_cons ⟨(.tail _ (.tail _ (.tail _ (.tail _ (.tail _ (.head _)))))), (ne_of_none (e1085 _ _ (e1065 _ _ (e1049 _ _ (e1035 _ _ (e1019 _ _ (e1005 _ _ (e989 _ _ (e981 _ _ (e961 _ _ (e945 _ _ (e931 _ _ (e920 _ _ (e904 _ _ (e884 _ _ (e861 _ _ (e852 _ _ (e843 _ _ (e833 _ _ (e813 _ _ (e797 _ _ (e783 _ _ (e768 _ _ (e757 _ _ h749))))))))))))))))))))))) n1103)⟩ all_nil))))))
        refine ⟨rfl, rfl, G1111, _, _, _, _, ((encL PyData.int) ([1, 0])), rfl, S1114.sG, (rp_mk_list (eG1112 _ _ (eG1078 _ _ (eG1074 _ _ (eG1052 _ _ (eG1022 _ _ (eG992 _ _ (eG974 _ _ (eG970 _ _ (eG948 _ _ (eG934 _ _ (eG926 _ _ (eG907 _ _ (eG877 _ _ (eG873 _ _ (eG868 _ _ (eG826 _ _ (eG822 _ _ (eG800 _ _ (eG786 _ _ (eG771 _ _ (eG763 _ _ (eG721 _ _ (eG717 _ _ (eG695 _ _ (eG687 _ _ (eG668 _ _ (eG660 _ _ (eG641 _ _ (eG633 _ _ (eG603 _ _ (eG589 _ _ (eG575 _ _ (eG561 _ _ h554))))))))))))))))))))))))))))))))) (RpAll.mono eG1112 (RpAll.mono eG1078 (RpAll.mono eG1074 (RpAll.mono eG1052 (RpAll.mono eG1022 (RpAll.mono eG992 (RpAll.mono eG974 (RpAll.mono eG970 (RpAll.mono eG948 (RpAll.mono eG934 (RpAll.mono eG926 (RpAll.mono eG907 (RpAll.mono eG877 (RpAll.mono eG873 (RpAll.mono eG868 (RpAll.mono eG826 (RpAll.mono eG822 (RpAll.mono eG800 (RpAll.mono eG786 (RpAll.mono eG771 (RpAll.mono eG763 (RpAll.mono eG721 (RpAll.mono eG717 (RpAll.mono eG695 (RpAll.mono eG687 (RpAll.mono eG668 (RpAll.mono eG660 (RpAll.mono eG641 (RpAll.mono eG633 (RpAll.mono eG603 (RpAll.mono eG589 (RpAll.mono eG575 (RpAll.mono eG561 d555)))))))))))))))))))))))))))))))))), (rp_mk_ints hg1113), cW_call hw (fun v1115 hw v1118 H1116 G1119 e1117 eG1120 sG1121 hn1122 r1123 => ?_) (fun e he H2 e2 => hE e he H2 (Same.trans S1114.b0 e2))⟩
        have S1124 := S1114.step e1117 eG1120 sG1121 hn1122
        obtain ⟨a1125, vs1126, rfl, h1127, d1128⟩ := rp_list r1123
        obtain ⟨g1129, hw⟩ := cW_grd hw
        obtain ⟨g1130, hw⟩ := cW_grd hw
        refine ⟨_, rfl, _, rfl, _, _, _, _, rfl, rfl, (SqL.of (S1124.bM _ _ q_n)), (atI_map g1129), _, _, rfl, rfl, _, rfl, _, _, _, _, rfl, rfl, (SqL.of (S1124.bM _ _ q_n)), (atI_map g1130), _, _, rfl, rfl, (by show 3 ≤ sizeLine; decide), fun p1131 n1132 => ?_⟩
        generalize g1133 : upd H1116 p1131 _ = H1134
        obtain ⟨e1135, h1136⟩ := gen_new n1132 g1133
        have h1137 : H1134 p1131 = some (.lst (([0, ((itD (n') (4)) - 1), ((itD (n') (4)) - 1)] : (List Int)).map V.int)) := h1136
        have fr1138 := S1124.free n1132
        have S1139 := S1124.new n1132 e1135 h1137 fr1138
        obtain ⟨G1140, eG1141, hg1142, S1143⟩ := Sep.freeze (O' := [p1081, p1031, p1001, p880, p743]) S1139 (.head _) h1137 fr1138 ((all_cons ⟨(.tail _ (.head _)), (ne_of_none (e1117 _ _ (e1106 _ _ h1087)) n1132)⟩ (all_cons ⟨(.tail _ (.tail _ (.head _))), (ne_of_none (e1117 _ _ (e1106 _ _ (e1085 _ _ (e1065 _ _ (e1049 _ _ h1037))))) n1132)⟩ (all_cons ⟨(.tail _ (.tail _ (.tail _ (.head _)))), (ne_of_none (e1117 _ _ (e1106 _ _ (e1085 _ _ (e1065 _ _ (e1049 _ _ (e1035 _ _ (e1019 _ _ h1007))))))) n1132)⟩ (all_cons ⟨(.tail _ (.tail _ (.tail _ (.tail _ (.head _))))), (ne_of_none (e1117 _ _ (e1106 _ _ (e1085 _ _ (e1065 _ _ (e1049 _ _ (e1035 _ _ (e1019 _ _ (e1005 _ _ (e989 _ _ (e981 _ _ (e961 _ _ (e945 _ _ (e931 _ _ (e920 _ _ (e904 _ _ h886))))))))))))))) n1132)⟩ (all_cons ⟨(.tail _ (.tail _ (.tail _ (.tail _ (.tail _ (.head _)))))), (ne_of_none (e1117 _ _ (e1106 _ _ (e1085 _ _ (e1065 _ _ (e1049 _ _ (e1035 _ _ (e1019 _ _ (e1005 _ _ (e989 _ _ (e981 _ _ (e961 _ _ (e945 _ _ (e931 _ _ (e920 _ _ (e904 _ _ (e884 _ _ (e861 _ _ (e852 _ _ (e843 _ _ (e833 _ _ (e813 _ _ (e797 _ _ (e783 _ _ (e768 _ _ (e757 _ _ h749))))))))))))))))))))))))) n1132)⟩ all_nil))))))
        refine ⟨rfl, rfl, G1140, _, _, _, _, ((encL PyData.int) ([0, ((itD (n') (4)) - 1), ((itD (n') (4)) - 1)])), rfl, S1143.sG, (rp_mk_list (eG1141 _ _ (eG1120 _ _ (eG1112 _ _ (eG1078 _ _ (eG1074 _ _ (eG1052 _ _ (eG1022 _ _ (eG992 _ _ (eG974 _ _ (eG970 _ _ (eG948 _ _ (eG934 _ _ (eG926 _ _ (eG907 _ _ (eG877 _ _ (eG873 _ _ (eG868 _ _ (eG826 _ _ (eG822 _ _ (eG800 _ _ (eG786 _ _ (eG771 _ _ (eG763 _ _ (eG721 _ _ (eG717 _ _ (eG695 _ _ (eG687 _ _ (eG668 _ _ (eG660 _ _ (eG641 _ _ (eG633 _ _ (eG603 _ _ (eG589 _ _ (eG575 _ _ (eG561 _ _ h554))))))))))))))))))))))))))))))))))) (RpAll.mono eG1141 (RpAll.mono eG1120 (RpAll.mono eG1112 (RpAll.mono eG1078 (RpAll.mono eG1074 (RpAll.mono eG1052 (RpAll.mono eG1022 (RpAll.mono eG992 (RpAll.mono eG974 (RpAll.mono eG970 (RpAll.mono eG948 (RpAll.mono eG934 (RpAll.mono eG926 (RpAll.mono eG907 (RpAll.mono eG877 (RpAll.mono eG873 (RpAll.mono eG868 (RpAll.mono eG826 (RpAll.mono eG822 (RpAll.mono eG800 (RpAll.mono eG786 (RpAll.mono eG771 (RpAll.mono eG763 (RpAll.mono eG721 (RpAll.mono eG717 (RpAll.mono eG695 (RpAll.mono eG687 (RpAll.mono eG668 (RpAll.mono eG660 (RpAll.mono eG641 (RpAll.mono eG633 (RpAll.mono eG603 (RpAll.mono eG589 (RpAll.mono eG575 (RpAll.mono eG561 d555)))))))))))))))))))))))))))))))))))), (rp_mk_ints hg1142), cW_call hw (fun v1144 hw v1147 H1145 G1148 e1146 eG1149 sG1150 hn1151 r1152 => ?_) (fun e he H2 e2 => hE e he H2 (Same.trans S1143.b0 e2))⟩
        have S1153 := S1143.step e1146 eG1149 sG1150 hn1151
        obtain ⟨a1154, vs1155, rfl, h1156, d1157⟩ := rp_list r1152
        refine ⟨(by show 2 ≤ sizeLine; decide), fun p1158 n1159 => ?_⟩
        generalize g1160 : upd H1145 p1158 _ = H1161
        obtain ⟨e1162, h1163⟩ := gen_new n1159 g1160
        have h1164 : H1161 p1158 = some (.lst ([V.ref a1125, V.ref a1154])) := h1163
        have fr1165 := S1153.free n1159
        have S1166 := S1153.new n1159 e1162 h1164 fr1165
        have d1167 : RpAll G1148 ([V.ref a1125, V.ref a1154]) (([v1115, v1144] : (List (List PyData))).map (encL encD)) := (RpAll.cons (rp_mk_list (eG1149 _ _ (eG1141 _ _ h1127)) (RpAll.mono eG1149 (RpAll.mono eG1141 d1128))) (RpAll.cons (rp_mk_list h1156 d1157) RpAll.nil))
        obtain ⟨g1168, hw⟩ := cW_grd hw
        have h1169 := (e1162 _ _ (e1146 _ _ (e1135 _ _ (e1117 _ _ (e1106 _ _ h1087)))))
        obtain ⟨G1170, eG1171, hg1172, S1173⟩ := Sep.freeze (O' := [p1158, p1031, p1001, p880, p743]) S1166 (.tail _ (.head _)) h1169 fr1088 ((all_cons ⟨(.head _), (ne_of_none (e1146 _ _ (e1135 _ _ (e1117 _ _ (e1106 _ _ h1087)))) n1159).symm⟩ (all_cons ⟨(.tail _ (.tail _ (.head _))), (ne_of_none (e1065 _ _ (e1049 _ _ h1037)) n1082)⟩ (all_cons ⟨(.tail _ (.tail _ (.tail _ (.head _)))), (ne_of_none (e1065 _ _ (e1049 _ _ (e1035 _ _ (e1019 _ _ h1007)))) n1082)⟩ (all_cons ⟨(.tail _ (.tail _ (.tail _ (.tail _ (.head _))))), (ne_of_none (e1065 _ _ (e1049 _ _ (e1035 _ _ (e1019 _ _ (e1005 _ _ (e989 _ _ (e981 _ _ (e961 _ _ (e945 _ _ (e931 _ _ (e920 _ _ (e904 _ _ h886)))))))))))) n1082)⟩ (all_cons ⟨(.tail _ (.tail _ (.tail _ (.tail _ (.tail _ (.head _)))))), (ne_of_none (e1065 _ _ (e1049 _ _ (e1035 _ _ (e1019 _ _ (e1005 _ _ (e989 _ _ (e981 _ _ (e961 _ _ (e945 _ _ (e931 _ _ (e920 _ _ (e904 _ _ (e884 _ _ (e861 _ _ (e852 _ _ (e843 _ _ (e833 _ _ (e813 _ _ (e797 _ _ (e783 _ _ (e768 _ _ (e757 _ _ h749)))))))))))))))))))))) n1082)⟩ all_nil))))))
        obtain ⟨G1174, eG1175, hg1176, S1177⟩ := Sep.freeze (O' := [p1031, p1001, p880, p743]) S1173 (.head _) h1164 fr1165 ((all_cons ⟨(.tail _ (.head _)), (ne_of_none (e1146 _ _ (e1135 _ _ (e1117 _ _ (e1106 _ _ (e1085 _ _ (e1065 _ _ (e1049 _ _ h1037))))))) n1159)⟩ (all_cons ⟨(.tail _ (.tail _ (.head _))), (ne_of_none (e1146 _ _ (e1135 _ _ (e1117 _ _ (e1106 _ _ (e1085 _ _ (e1065 _ _ (e1049 _ _ (e1035 _ _ (e1019 _ _ h1007))))))))) n1159)⟩ (all_cons ⟨(.tail _ (.tail _ (.tail _ (.head _)))), (ne_of_none (e1146 _ _ (e1135 _ _ (e1117 _ _ (e1106 _ _ (e1085 _ _ (e1065 _ _ (e1049 _ _ (e1035 _ _ (e1019 _ _ (e1005 _ _ (e989 _ _ (e981 _ _ (e961 _ _ (e945 _ _ (e931 _ _ (e920 _ _ (e904 _ _ h886))))))))))))))))) n1159)⟩ (all_cons ⟨(.tail _ (.tail _ (.tail _ (.tail _ (.head _))))), (ne_of_none (e1146 _ _ (e1135 _ _ (e1117 _ _ (e1106 _ _ (e1085 _ _ (e1065 _ _ (e1049 _ _ (e1035 _ _ (e1019 _ _ (e1005 _ _ (e989 _ _ (e981 _ _ (e961 _ _ (e945 _ _ (e931 _ _ (e920 _ _ (e904 _ _ (e884 _ _ (e861 _ _ (e852 _ _ (e843 _ _ (e833 _ _ (e813 _ _ (e797 _ _ (e783 _ _ (e768 _ _ (e757 _ _ h749))))))))))))))))))))))))))) n1159)⟩ all_nil)))))
        refine ⟨_, _, _, _, rfl, rfl, h1169, h1164, (cat_len (RpAll.mono eG1149 (RpAll.mono eG1141 (RpAll.mono eG1120 (RpAll.mono eG1112 d1090)))) d1167 g1168), fun p1178 n1179 => ?_⟩
        generalize g1180 : upd H1161 p1178 _ = H1181
        obtain ⟨e1182, h1183⟩ := gen_new n1179 g1180
        have h1184 : H1181 p1178 = some (.lst ([V.ref a566, V.ref a580, V.ref a594, V.ref a608] ++ [V.ref a646, V.ref a673, V.ref a700] ++ [V.ref a776, V.ref a791, V.ref a805] ++ [V.ref a912, V.ref a939, V.ref a953] ++ [V.ref a997, V.ref a1027, V.ref a1057] ++ [V.ref a1125, V.ref a1154])) := h1183
        have fr1185 := S1177.free n1179
        have S1186 := S1177.new n1179 e1182 h1184 fr1185
        have d1187 : RpAll G1174 ([V.ref a566, V.ref a580, V.ref a594, V.ref a608] ++ [V.ref a646, V.ref a673, V.ref a700] ++ [V.ref a776, V.ref a791, V.ref a805] ++ [V.ref a912, V.ref a939, V.ref a953] ++ [V.ref a997, V.ref a1027, V.ref a1057] ++ [V.ref a1125, V.ref a1154]) ((((((([v556, v570, v584, v598]) ++ ([v636, v663, v690])) ++ ([v766, v781, v795])) ++ ([v902, v929, v943])) ++ ([v987, v1017, v1047])) ++ ([v1115, v1144]) : (List (List PyData))).map (encL encD)) := app_map (RpAll.mono eG1175 (RpAll.mono eG1171 (RpAll.mono eG1149 (RpAll.mono eG1141 (RpAll.mono eG1120 (RpAll.mono eG1112 d1090)))))) (RpAll.mono eG1175 (RpAll.mono eG1171 d1167))
        have hw := cW_ok hw
        have hw := hK1099 _ hw
        exact ⟨_, (((((([v556, v570, v584, v598]) ++ ([v636, v663, v690])) ++ ([v766, v781, v795])) ++ ([v902, v929, v943])) ++ ([v987, v1017, v1047])) ++ ([v1115, v1144])), _, _, rfl, (Same.trans (Same.trans (Same.trans (Same.trans (Same.trans eG1112 eG1120) eG1141) eG1149) eG1171) eG1175), (S1186.sub (all_cons (.head _) all_nil)), h1184, fr1185, d1187, hw⟩
      · have hw := cW_neg c1101 hw
        have hw := cW_ok hw
        have hw := hK1099 _ hw
        exact ⟨_, ((((([v556, v570, v584, v598]) ++ ([v636, v663, v690])) ++ ([v766, v781, v795])) ++ ([v902, v929, v943])) ++ ([v987, v1017, v1047])), _, _, rfl, (Same.refl _), (S1089.sub (all_cons (.head _) all_nil)), h1087, fr1088, d1090, hw⟩
    · intro σ H1188 hw
      obtain ⟨p1096, faults_1095, vs1097, G1193, rfl, eG1194, S1189, h1190, fr1191, d1192, hw⟩ := hw
      unfold F__law_faults_k1 at hw
      refine ⟨fun σ H' => ∃ (p1200 : Addr) (faults_1199 : (List (List PyData))) (vs1201 : List V) (G' : Hp), σ = [some (V.ref a552), some (V.ref a_n), some (V.int (far')), some (V.ref p1200), none] ∧ Same G1193 G' ∧ Sep [] H G G' H' [p1200] ∧ H' p1200 = some (.lst (vs1201)) ∧ H p1200 = none ∧ RpAll G' (vs1201) ((faults_1199 : (List (List PyData))).map (encL encD)) ∧ cW (F__law_faults_k2 (p') (n') (far') faults_1199) KK EE, ?_, ?_⟩
      · obtain ⟨K1202, hK1203, hw⟩ := cW_push hw
        obtain ⟨g1204, hw⟩ := cW_grd hw
        refine ⟨_, rfl, _, _, _, _, rfl, rfl, (SqL.of (S1189.bM _ _ q_n)), (atI_map g1204), _, _, rfl, rfl, _, rfl, ?_⟩
        refine iteD (fun c1205 => ?_) (fun c1205 => ?_)
        · have hw := cW_pos c1205 hw
          refine ⟨_, rfl, _, rfl, (by show 4 ≤ sizeLine; decide), fun p1206 n1207 => ?_⟩
          generalize g1208 : upd H1188 p1206 _ = H1209
          obtain ⟨e1210, h1211⟩ := gen_new n1207 g1208
          have h1212 : H1209 p1206 = some (.lst (([0, 1, 3, 2] : (List Int)).map V.int)) := h1211
          have fr1213 := S1189.free n1207
          have S1214 := S1189.new n1207 e1210 h1212 fr1213
          obtain ⟨G1215, eG1216, hg1217, S1218⟩ := Sep.freeze (O' := [p1096]) S1214 (.head _) h1212 fr1213 ((all_cons ⟨(.tail _ (.head _)), (ne_of_none h1190 n1207)⟩ all_nil))
          refine ⟨rfl, rfl, G1215, _, _, _, _, ((encL PyData.int) ([0, 1, 3, 2])), rfl, S1218.sG, (rp_mk_list (eG1216 _ _ (eG1194 _ _ (eG1078 _ _ (eG1074 _ _ (eG1052 _ _ (eG1022 _ _ (eG992 _ _ (eG974 _ _ (eG970 _ _ (eG948 _ _ (eG934 _ _ (eG926 _ _ (eG907 _ _ (eG877 _ _ (eG873 _ _ (eG868 _ _ (eG826 _ _ (eG822 _ _ (eG800 _ _ (eG786 _ _ (eG771 _ _ (eG763 _ _ (eG721 _ _ (eG717 _ _ (eG695 _ _ (eG687 _ _ (eG668 _ _ (eG660 _ _ (eG641 _ _ (eG633 _ _ (eG603 _ _ (eG589 _ _ (eG575 _ _ (eG561 _ _ h554)))))))))))))))))))))))))))))))))) (RpAll.mono eG1216 (RpAll.mono eG1194 (RpAll.mono eG1078 (RpAll.mono eG1074 (RpAll.mono eG1052 (RpAll.mono eG1022 (RpAll.mono eG992 (RpAll.mono eG974 (RpAll.mono eG970 (RpAll.mono eG948 (RpAll.mono eG934 (RpAll.mono eG926 (RpAll.mono eG907 (RpAll.mono eG877 (RpAll.mono eG873 (RpAll.mono eG868 (RpAll.mono eG826 (RpAll.mono eG822 (RpAll.mono eG800 (RpAll.mono eG786 (RpAll.mono eG771 (RpAll.mono eG763 (RpAll.mono eG721 (RpAll.mono eG717 (RpAll.mono eG695 (RpAll.mono eG687 (RpAll.mono eG668 (RpAll.mono eG660 (RpAll.mono eG641 (RpAll.mono eG633 (RpAll.mono eG603 (RpAll.mono eG589 (RpAll.mono eG575 (RpAll.mono eG561 d555))))))))))))))))))))))))))))))))))), (rp_mk_ints hg1217), cW_call hw (fun v1219 hw v1222 H1220 G1223 e1221 eG1224 sG1225 hn1226 r1227 => ?_) (fun e he H2 e2 => hE e he H2 (Same.trans S1218.b0 e2))⟩
          have S1228 := S1218.step e1221 eG1224 sG1225 hn1226
          obtain ⟨a1229, vs1230, rfl, h1231, d1232⟩ := rp_list r1227
          refine ⟨_, rfl, (by show 4 ≤ sizeLine; decide), fun p1233 n1234 => ?_⟩
          generalize g1235 : upd H1220 p1233 _ = H1236
          obtain ⟨e1237, h1238⟩ := gen_new n1234 g1235
          have h1239 : H1236 p1233 = some (.lst (([0, 2, 1, 3] : (List Int)).map V.int)) := h1238
          have fr1240 := S1228.free n1234
          have S1241 := S1228.new n1234 e1237 h1239 fr1240
          obtain ⟨G1242, eG1243, hg1244, S1245⟩ := Sep.freeze (O' := [p1096]) S1241 (.head _) h1239 fr1240 ((all_cons ⟨(.tail _ (.head _)), (ne_of_none (e1221 _ _ (e1210 _ _ h1190)) n1234)⟩ all_nil))
          refine ⟨rfl, rfl, G1242, _, _, _, _, ((encL PyData.int) ([0, 2, 1, 3])), rfl, S1245.sG, (rp_mk_list (eG1243 _ _ (eG1224 _ _ (eG1216 _ _ (eG1194 _ _ (eG1078 _ _ (eG1074 _ _ (eG1052 _ _ (eG1022 _ _ (eG992 _ _ (eG974 _ _ (eG970 _ _ (eG948 _ _ (eG934 _ _ (eG926 _ _ (eG907 _ _ (eG877 _ _ (eG873 _ _ (eG868 _ _ (eG826 _ _ (eG822 _ _ (eG800 _ _ (eG786 _ _ (eG771 _ _ (eG763 _ _ (eG721 _ _ (eG717 _ _ (eG695 _ _ (eG687 _ _ (eG668 _ _ (eG660 _ _ (eG641 _ _ (eG633 _ _ (eG603 _ _ (eG589 _ _ (eG575 _ _ (eG561 _ _ h554)))))))))))))))))))))))))))))))))))) (RpAll.mono eG1243 (RpAll.mono eG1224 (RpAll.mono eG1216 (RpAll.mono eG1194 (RpAll.mono eG1078 (RpAll.mono eG1074 (RpAll.mono eG1052 (RpAll.mono eG1022 (RpAll.mono eG992 (RpAll.mono eG974 (RpAll.mono eG970 (RpAll.mono eG948 (RpAll.mono eG934 (RpAll.mono eG926 (RpAll.mono eG907 (RpAll.mono eG877 (RpAll.mono eG873 (RpAll.mono eG868 (RpAll.mono eG826 (RpAll.mono eG822 (RpAll.mono eG800 (RpAll.mono eG786 (RpAll.mono eG771 (RpAll.mono eG763 (RpAll.mono eG721 (RpAll.mono eG717 (RpAll.mono eG695 (RpAll.mono eG687 (RpAll.mono eG668 (RpAll.mono eG660 (RpAll.mono eG641 (RpAll.mono eG633 (RpAll.mono eG603 (RpAll.mono eG589 (RpAll.mono eG575 (RpAll.mono eG561 d555))))))))))))))))))))))))))))))))))))), (rp_mk_ints hg1244), cW_call hw (fun v1246 hw v1249 H1247 G1250 e1248 eG1251 sG1252 hn1253 r1254 => ?_) (fun e he H2 e2 => hE e he H2 (Same.trans S1245.b0 e2))⟩
          have S1255 := S1245.step e1248 eG1251 sG1252 hn1253
          obtain ⟨a1256, vs1257, rfl, h1258, d1259⟩ := rp_list r1254
          refine ⟨_, rfl, (by show 3 ≤ sizeLine; decide), fun p1260 n1261 => ?_⟩
          generalize g1262 : upd H1247 p1260 _ = H1263
          obtain ⟨e1264, h1265⟩ := gen_new n1261 g1262
          have h1266 : H1263 p1260 = some (.lst (([1, 3, 0] : (List Int)).map V.int)) := h1265
          have fr1267 := S1255.free n1261
          have S1268 := S1255.new n1261 e1264 h1266 fr1267
          obtain ⟨G1269, eG1270, hg1271, S1272⟩ := Sep.freeze (O' := [p1096]) S1268 (.head _) h1266 fr1267 ((all_cons ⟨(.tail _ (.head _)), (ne_of_none (e1248 _ _ (e1237 _ _ (e1221 _ _ (e1210 _ _ h1190)))) n1261)⟩ all_nil))
          refine ⟨rfl, rfl, G1269, _, _, _, _, ((encL PyData.int) ([1, 3, 0])), rfl, S1272.sG, (rp_mk_list (eG1270 _ _ (eG1251 _ _ (eG1243 _ _ (eG1224 _ _ (eG1216 _ _ (eG1194 _ _ (eG1078 _ _ (eG1074 _ _ (eG1052 _ _ (eG1022 _ _ (eG992 _ _ (eG974 _ _ (eG970 _ _ (eG948 _ _ (eG934 _ _ (eG926 _ _ (eG907 _ _ (eG877 _ _ (eG873 _ _ (eG868 _ _ (eG826 _ _ (eG822 _ _ (eG800 _ _ (eG786 _ _ (eG771 _ _ (eG763 _ _ (eG721 _ _ (eG717 _ _ (eG695 _ _ (eG687 _ _ (eG668 _ _ (eG660 _ _ (eG641 _ _ (eG633 _ _ (eG603 _ _ (eG589 _ _ (eG575 _ _ (eG561 _ _ h554)))))))))))))))))))))))))))))))))))))) (RpAll.mono eG1270 (RpAll.mono eG1251 (RpAll.mono eG1243 (RpAll.mono eG1224 (RpAll.mono eG1216 (RpAll.mono eG1194 (RpAll.mono eG1078 (RpAll.mono eG1074 (RpAll.mono eG1052 (RpAll.mono eG1022 (RpAll.mono eG992 (RpAll.mono eG974 (RpAll.mono eG970 (RpAll.mono eG948 (RpAll.mono eG934 (RpAll.mono eG926 (RpAll.mono eG907 (RpAll.mono eG877 (RpAll.mono eG873 (RpAll.mono eG868 (RpAll.mono eG826 (RpAll.mono eG822 (RpAll.mono eG800 (RpAll.mono eG786 (RpAll.mono eG771 (RpAll.mono eG763 (RpAll.mono eG721 (RpAll.mono eG717 (RpAll.mono eG695 (RpAll.mono eG687 (RpAll.mono eG668 (RpAll.mono eG660 (RpAll.mono eG641 (RpAll.mono eG633 (RpAll.mono eG603 (RpAll.mono eG589 (RpAll.mono eG575 (RpAll.mono eG561 d555))))))))))))))))))))))))))))))))))))))), (rp_mk_ints hg1271), cW_call hw (fun v1273 hw v1276 H1274 G1277 e1275 eG1278 sG1279 hn1280 r1281 => ?_) (fun e he H2 e2 => hE e he H2 (Same.trans S1272.b0 e2))⟩
          have S1282 := S1272.step e1275 eG1278 sG1279 hn1280
          obtain ⟨a1283, vs1284, rfl, h1285, d1286⟩ := rp_list r1281
          refine ⟨(by show 3 ≤ sizeLine; decide), fun p1287 n1288 => ?_⟩
          generalize g1289 : upd H1274 p1287 _ = H1290
          obtain ⟨e1291, h1292⟩ := gen_new n1288 g1289
          have h1293 : H1290 p1287 = some (.lst ([V.ref a1229, V.ref a1256, V.ref a1283])) := h1292
          have fr1294 := S1282.free n1288
          have S1295 := S1282.new n1288 e1291 h1293 fr1294
          have d1296 : RpAll G1277 ([V.ref a1229, V.ref a1256, V.ref a1283]) (([v1219, v1246, v1273] : (List (List PyData))).map (encL encD)) := (RpAll.cons (rp_mk_list (eG1278 _ _ (eG1270 _ _ (eG1251 _ _ (eG1243 _ _ h1231)))) (RpAll.mono eG1278 (RpAll.mono eG1270 (RpAll.mono eG1251 (RpAll.mono eG1243 d1232))))) (RpAll.cons (rp_mk_list (eG1278 _ _ (eG1270 _ _ h1258)) (RpAll.mono eG1278 (RpAll.mono eG1270 d1259))) (RpAll.cons (rp_mk_list h1285 d1286) RpAll.nil)))
          obtain ⟨g1297, hw⟩ := cW_grd hw
          have h1298 := (e1291 _ _ (e1275 _ _ (e1264 _ _ (e1248 _ _ (e1237 _ _ (e1221 _ _ (e1210 _ _ h1190)))))))
          obtain ⟨G1299, eG1300, hg1301, S1302⟩ := Sep.freeze (O' := [p1287]) S1295 (.tail _ (.head _)) h1298 fr1191 ((all_cons ⟨(.head _), (ne_of_none (e1275 _ _ (e1264 _ _ (e1248 _ _ (e1237 _ _ (e1221 _ _ (e1210 _ _ h1190)))))) n1288).symm⟩ all_nil))
          obtain ⟨G1303, eG1304, hg1305, S1306⟩ := Sep.freeze (O' := []) S1302 (.head _) h1293 fr1294 (all_nil)
          refine ⟨_, _, _, _, rfl, rfl, h1298, h1293, (cat_len (RpAll.mono eG1278 (RpAll.mono eG1270 (RpAll.mono eG1251 (RpAll.mono eG1243 (RpAll.mono eG1224 (RpAll.mono eG1216 d1192)))))) d1296 g1297), fun p1307 n1308 => ?_⟩
          generalize g1309 : upd H1290 p1307 _ = H1310
          obtain ⟨e1311, h1312⟩ := gen_new n1308 g1309
          have h1313 : H1310 p1307 = some (.lst (vs1097 ++ [V.ref a1229, V.ref a1256, V.ref a1283])) := h1312
          have fr1314 := S1306.free n1308
          have S1315 := S1306.new n1308 e1311 h1313 fr1314
          have d1316 : RpAll G1303 (vs1097 ++ [V.ref a1229, V.ref a1256, V.ref a1283]) (((faults_1095) ++ ([v1219, v1246, v1273]) : (List (List PyData))).map (encL encD)) := app_map (RpAll.mono eG1304 (RpAll.mono eG1300 (RpAll.mono eG1278 (RpAll.mono eG1270 (RpAll.mono eG1251 (RpAll.mono eG1243 (RpAll.mono eG1224 (RpAll.mono eG1216 d1192)))))))) (RpAll.mono eG1304 (RpAll.mono eG1300 d1296))
          have hw := cW_ok hw
          have hw := hK1203 _ hw
          exact ⟨_, ((faults_1095) ++ ([v1219, v1246, v1273])), _, _, rfl, (Same.trans (Same.trans (Same.trans (Same.trans (Same.trans (Same.trans (Same.trans eG1216 eG1224) eG1243) eG1251) eG1270) eG1278) eG1300) eG1304), S1315, h1313, fr1314, d1316, hw⟩
        · have hw := cW_neg c1205 hw
          have hw := cW_ok hw
          have hw := hK1203 _ hw
          exact ⟨_, (faults_1095), _, _, rfl, (Same.refl _), S1189, h1190, fr1191, d1192, hw⟩
      · intro σ H1317 hw
        obtain ⟨p1200, faults_1199, vs1201, G1322, rfl, eG1323, S1318, h1319, fr1320, d1321, hw⟩ := hw
        unfold F__law_faults_k2 at hw
        refine ⟨fun σ H' => ∃ (p1329 : Addr) (faults_1328 : (List (List PyData))) (vs1330 : List V) (G' : Hp), σ = [some (V.ref a552), some (V.ref a_n), some (V.int (far')), some (V.ref p1329), none] ∧ Same G1322 G' ∧ Sep [] H G G' H' [p1329] ∧ H' p1329 = some (.lst (vs1330)) ∧ H p1329 = none ∧ RpAll G' (vs1330) ((faults_1328 : (List (List PyData))).map (encL encD)) ∧ cW (F__law_faults_k3 (p') (n') (far') faults_1328) KK EE, ?_, ?_⟩
        · obtain ⟨K1331, hK1332, hw⟩ := cW_push hw
          obtain ⟨g1333, hw⟩ := cW_grd hw
          refine ⟨_, rfl, _, _, _, _, rfl, rfl, (SqL.of (S1318.bM _ _ q_n)), (atI_map g1333), _, _, rfl, rfl, _, rfl, ?_⟩
          refine iteD (fun c1334 => ?_) (fun c1334 => ?_)
          · have hw := cW_pos c1334 hw
            refine ⟨_, rfl, _, rfl, (by show 3 ≤ sizeLine; decide), fun p1335 n1336 => ?_⟩
            generalize g1337 : upd H1317 p1335 _ = H1338
            obtain ⟨e1339, h1340⟩ := gen_new n1336 g1337
            have h1341 : H1338 p1335 = some (.lst (([0, 2, 1] : (List Int)).map V.int)) := h1340
            have fr1342 := S1318.free n1336
            have S1343 := S1318.new n1336 e1339 h1341 fr1342
            obtain ⟨G1344, eG1345, hg1346, S1347⟩ := Sep.freeze (O' := [p1200]) S1343 (.head _) h1341 fr1342 ((all_cons ⟨(.tail _ (.head _)), (ne_of_none h1319 n1336)⟩ all_nil))
            refine ⟨rfl, rfl, G1344, _, _, _, _, ((encL PyData.int) ([0, 2, 1])), rfl, S1347.sG, (rp_mk_list (eG1345 _ _ (eG1323 _ _ (eG1194 _ _ (eG1078 _ _ (eG1074 _ _ (eG1052 _ _ (eG1022 _ _ (eG992 _ _ (eG974 _ _ (eG970 _ _ (eG948 _ _ (eG934 _ _ (eG926 _ _ (eG907 _ _ (eG877 _ _ (eG873 _ _ (eG868 _ _ (eG826 _ _ (eG822 _ _ (eG800 _ _ (eG786 _ _ (eG771 _ _ (eG763 _ _ (eG721 _ _ (eG717 _ _ (eG695 _ _ (eG687 _ _ (eG668 _ _ (eG660 _ _ (eG641 _ _ (eG633 _ _ (eG603 _ _ (eG589 _ _ (eG575 _ _ (eG561 _ _ h554))))))))))))))))))))))))))))))))))) (RpAll.mono eG1345 (RpAll.mono eG1323 (RpAll.mono eG1194 (RpAll.mono eG1078 (RpAll.mono eG1074 (RpAll.mono eG1052 (RpAll.mono eG1022 (RpAll.mono eG992 (RpAll.mono eG974 (RpAll.mono eG970 (RpAll.mono eG948 (RpAll.mono eG934 (RpAll.mono eG926 (RpAll.mono eG907 (RpAll.mono eG877 (RpAll.mono eG873 (RpAll.mono eG868 (RpAll.mono eG826 (RpAll.mono eG822 (RpAll.mono eG800 (RpAll.mono eG786 (RpAll.mono eG771 (RpAll.mono eG763 (RpAll.mono eG721 (RpAll.mono eG717 (RpAll.mono eG695 (RpAll.mono eG687 (RpAll.mono eG668 (RpAll.mono eG660 (RpAll.mono eG641 (RpAll.mono eG633 (RpAll.mono eG603 (RpAll.mono eG589 (RpAll.mono eG575 (RpAll.mono eG561 d555)))))))))))))))))))))))))))))))))))), (rp_mk_ints hg1346), cW_call hw (fun v1348 hw v1351 H1349 G1352 e1350 eG1353 sG1354 hn1355 r1356 => ?_) (fun e he H2 e2 => hE e he H2 (Same.trans S1347.b0 e2))⟩
            have S1357 := S1347.step e1350 eG1353 sG1354 hn1355
            obtain ⟨a1358, vs1359, rfl, h1360, d1361⟩ := rp_list r1356
            refine ⟨_, rfl, (by show 3 ≤ sizeLine; decide), fun p1362 n1363 => ?_⟩
            generalize g1364 : upd H1349 p1362 _ = H1365
            obtain ⟨e1366, h1367⟩ := gen_new n1363 g1364
            have h1368 : H1365 p1362 = some (.lst (([0, 1, 1] : (List Int)).map V.int)) := h1367
            have fr1369 := S1357.free n1363
            have S1370 := S1357.new n1363 e1366 h1368 fr1369
            obtain ⟨G1371, eG1372, hg1373, S1374⟩ := Sep.freeze (O' := [p1200]) S1370 (.head _) h1368 fr1369 ((all_cons ⟨(.tail _ (.head _)), (ne_of_none (e1350 _ _ (e1339 _ _ h1319)) n1363)⟩ all_nil))
            refine ⟨rfl, rfl, G1371, _, _, _, _, ((encL PyData.int) ([0, 1, 1])), rfl, S1374.sG, (rp_mk_list (eG1372 _ _ (eG1353 _ _ (eG1345 _ _ (eG1323 _ _ (eG1194 _ _ (eG1078 _ _ (eG1074 _ _ (eG1052 _ _ (eG1022 _ _ (eG992 _ _ (eG974 _ _ (eG970 _ _ (eG948 _ _ (eG934 _ _ (eG926 _ _ (eG907 _ _ (eG877 _ _ (eG873 _ _ (eG868 _ _ (eG826 _ _ (eG822 _ _ (eG800 _ _ (eG786 _ _ (eG771 _ _ (eG763 _ _ (eG721 _ _ (eG717 _ _ (eG695 _ _ (eG687 _ _ (eG668 _ _ (eG660 _ _ (eG641 _ _ (eG633 _ _ (eG603 _ _ (eG589 _ _ (eG575 _ _ (eG561 _ _ h554))))))))))))))))))))))))))))))))))))) (RpAll.mono eG1372 (RpAll.mono eG1353 (RpAll.mono eG1345 (RpAll.mono eG1323 (RpAll.mono eG1194 (RpAll.mono eG1078 (RpAll.mono eG1074 (RpAll.mono eG1052 (RpAll.mono eG1022 (RpAll.mono eG992 (RpAll.mono eG974 (RpAll.mono eG970 (RpAll.mono eG948 (RpAll.mono eG934 (RpAll.mono eG926 (RpAll.mono eG907 (RpAll.mono eG877 (RpAll.mono eG873 (RpAll.mono eG868 (RpAll.mono eG826 (RpAll.mono eG822 (RpAll.mono eG800 (RpAll.mono eG786 (RpAll.mono eG771 (RpAll.mono eG763 (RpAll.mono eG721 (RpAll.mono eG717 (RpAll.mono eG695 (RpAll.mono eG687 (RpAll.mono eG668 (RpAll.mono eG660 (RpAll.mono eG641 (RpAll.mono eG633 (RpAll.mono eG603 (RpAll.mono eG589 (RpAll.mono eG575 (RpAll.mono eG561 d555)))))))))))))))))))))))))))))))))))))), (rp_mk_ints hg1373), cW_call hw (fun v1375 hw v1378 H1376 G1379 e1377 eG1380 sG1381 hn1382 r1383 => ?_) (fun e he H2 e2 => hE e he H2 (Same.trans S1374.b0 e2))⟩
            have S1384 := S1374.step e1377 eG1380 sG1381 hn1382
            obtain ⟨a1385, vs1386, rfl, h1387, d1388⟩ := rp_list r1383
            refine ⟨(by show 2 ≤ sizeLine; decide), fun p1389 n1390 => ?_⟩
            generalize g1391 : upd H1376 p1389 _ = H1392
            obtain ⟨e1393, h1394⟩ := gen_new n1390 g1391
            have h1395 : H1392 p1389 = some (.lst ([V.ref a1358, V.ref a1385])) := h1394
            have fr1396 := S1384.free n1390
            have S1397 := S1384.new n1390 e1393 h1395 fr1396
            have d1398 : RpAll G1379 ([V.ref a1358, V.ref a1385]) (([v1348, v1375] : (List (List PyData))).map (encL encD)) := (RpAll.cons (rp_mk_list (eG1380 _ _ (eG1372 _ _ h1360)) (RpAll.mono eG1380 (RpAll.mono eG1372 d1361))) (RpAll.cons (rp_mk_list h1387 d1388) RpAll.nil))
            obtain ⟨g1399, hw⟩ := cW_grd hw
            have h1400 := (e1393 _ _ (e1377 _ _ (e1366 _ _ (e1350 _ _ (e1339 _ _ h1319)))))
            obtain ⟨G1401, eG1402, hg1403, S1404⟩ := Sep.freeze (O' := [p1389]) S1397 (.tail _ (.head _)) h1400 fr1320 ((all_cons ⟨(.head _), (ne_of_none (e1377 _ _ (e1366 _ _ (e1350 _ _ (e1339 _ _ h1319)))) n1390).symm⟩ all_nil))
            obtain ⟨G1405, eG1406, hg1407, S1408⟩ := Sep.freeze (O' := []) S1404 (.head _) h1395 fr1396 (all_nil)
            refine ⟨_, _, _, _, rfl, rfl, h1400, h1395, (cat_len (RpAll.mono eG1380 (RpAll.mono eG1372 (RpAll.mono eG1353 (RpAll.mono eG1345 d1321)))) d1398 g1399), fun p1409 n1410 => ?_⟩
            generalize g1411 : upd H1392 p1409 _ = H1412
            obtain ⟨e1413, h1414⟩ := gen_new n1410 g1411
            have h1415 : H1412 p1409 = some (.lst (vs1201 ++ [V.ref a1358, V.ref a1385])) := h1414
            have fr1416 := S1408.free n1410
            have S1417 := S1408.new n1410 e1413 h1415 fr1416
            have d1418 : RpAll G1405 (vs1201 ++ [V.ref a1358, V.ref a1385]) (((faults_1199) ++ ([v1348, v1375]) : (List (List PyData))).map (encL encD)) := app_map (RpAll.mono eG1406 (RpAll.mono eG1402 (RpAll.mono eG1380 (RpAll.mono eG1372 (RpAll.mono eG1353 (RpAll.mono eG1345 d1321)))))) (RpAll.mono eG1406 (RpAll.mono eG1402 d1398))
            have hw := cW_ok hw
            have hw := hK1332 _ hw
            exact ⟨_, ((faults_1199) ++ ([v1348, v1375])), _, _, rfl, (Same.trans (Same.trans (Same.trans (Same.trans (Same.trans eG1345 eG1353) eG1372) eG1380) eG1402) eG1406), S1417, h1415, fr1416, d1418, hw⟩
          · have hw := cW_neg c1334 hw
            have hw := cW_ok hw
            have hw := hK1332 _ hw
            exact ⟨_, (faults_1199), _, _, rfl, (Same.refl _), S1318, h1319, fr1320, d1321, hw⟩
        · intro σ H1419 hw
          obtain ⟨p1329, faults_1328, vs1330, G1424, rfl, eG1425, S1420, h1421, fr1422, d1423, hw⟩ := hw
          unfold F__law_faults_k3 at hw
          refine ⟨fun σ H' => ∃ (p1431 : Addr) (faults_1430 : (List (List PyData))) (vs1432 : List V) (G' : Hp), σ = [some (V.ref a552), some (V.ref a_n), some (V.int (far')), some (V.ref p1431), none] ∧ Same G1424 G' ∧ Sep [] H G G' H' [p1431] ∧ H' p1431 = some (.lst (vs1432)) ∧ H p1431 = none ∧ RpAll G' (vs1432) ((faults_1430 : (List (List PyData))).map (encL encD)) ∧ cW (F__law_faults_k4 (p') (n') (far') faults_1430) KK EE, ?_, ?_⟩
          · obtain ⟨K1433, hK1434, hw⟩ := cW_push hw
            obtain ⟨g1435, hw⟩ := cW_grd hw
            refine ⟨_, rfl, _, _, _, _, rfl, rfl, (SqL.of (S1420.bM _ _ q_n)), (atI_map g1435), _, _, rfl, rfl, _, rfl, ?_⟩
            refine iteD (fun c1436 => ?_) (fun c1436 => ?_)
            · have hw := cW_pos c1436 hw
              refine ⟨_, rfl, _, rfl, rfl, rfl, G1424, _, _, _, _, (PyData.int (1)), rfl, S1420.sG, (rp_mk_list (eG1425 _ _ (eG1323 _ _ (eG1194 _ _ (eG1078 _ _ (eG1074 _ _ (eG1052 _ _ (eG1022 _ _ (eG992 _ _ (eG974 _ _ (eG970 _ _ (eG948 _ _ (eG934 _ _ (eG926 _ _ (eG907 _ _ (eG877 _ _ (eG873 _ _ (eG868 _ _ (eG826 _ _ (eG822 _ _ (eG800 _ _ (eG786 _ _ (eG771 _ _ (eG763 _ _ (eG721 _ _ (eG717 _ _ (eG695 _ _ (eG687 _ _ (eG668 _ _ (eG660 _ _ (eG641 _ _ (eG633 _ _ (eG603 _ _ (eG589 _ _ (eG575 _ _ (eG561 _ _ h554))))))))))))))))))))))))))))))))))) (RpAll.mono eG1425 (RpAll.mono eG1323 (RpAll.mono eG1194 (RpAll.mono eG1078 (RpAll.mono eG1074 (RpAll.mono eG1052 (RpAll.mono eG1022 (RpAll.mono eG992 (RpAll.mono eG974 (RpAll.mono eG970 (RpAll.mono eG948 (RpAll.mono eG934 (RpAll.mono eG926 (RpAll.mono eG907 (RpAll.mono eG877 (RpAll.mono eG873 (RpAll.mono eG868 (RpAll.mono eG826 (RpAll.mono eG822 (RpAll.mono eG800 (RpAll.mono eG786 (RpAll.mono eG771 (RpAll.mono eG763 (RpAll.mono eG721 (RpAll.mono eG717 (RpAll.mono eG695 (RpAll.mono eG687 (RpAll.mono eG668 (RpAll.mono eG660 (RpAll.mono eG641 (RpAll.mono eG633 (RpAll.mono eG603 (RpAll.mono eG589 (RpAll.mono eG575 (RpAll.mono eG561 d555)))))))))))))))))))))))))))))))))))), (.int _), cW_call hw (fun v1437 hw v1440 H1438 G1441 e1439 eG1442 sG1443 hn1444 r1445 => ?_) (fun e he H2 e2 => hE e he H2 (Same.trans S1420.b0 e2))⟩
              have S1446 := S1420.step e1439 eG1442 sG1443 hn1444
              obtain ⟨a1447, vs1448, rfl, h1449, d1450⟩ := rp_list r1445
              refine ⟨_, rfl, _, rfl, rfl, rfl, G1441, _, _, _, _, (PyData.int ((-1))), rfl, S1446.sG, (rp_mk_list (eG1442 _ _ (eG1425 _ _ (eG1323 _ _ (eG1194 _ _ (eG1078 _ _ (eG1074 _ _ (eG1052 _ _ (eG1022 _ _ (eG992 _ _ (eG974 _ _ (eG970 _ _ (eG948 _ _ (eG934 _ _ (eG926 _ _ (eG907 _ _ (eG877 _ _ (eG873 _ _ (eG868 _ _ (eG826 _ _ (eG822 _ _ (eG800 _ _ (eG786 _ _ (eG771 _ _ (eG763 _ _ (eG721 _ _ (eG717 _ _ (eG695 _ _ (eG687 _ _ (eG668 _ _ (eG660 _ _ (eG641 _ _ (eG633 _ _ (eG603 _ _ (eG589 _ _ (eG575 _ _ (eG561 _ _ h554)))))))))))))))))))))))))))))))))))) (RpAll.mono eG1442 (RpAll.mono eG1425 (RpAll.mono eG1323 (RpAll.mono eG1194 (RpAll.mono eG1078 (RpAll.mono eG1074 (RpAll.mono eG1052 (RpAll.mono eG1022 (RpAll.mono eG992 (RpAll.mono eG974 (RpAll.mono eG970 (RpAll.mono eG948 (RpAll.mono eG934 (RpAll.mono eG926 (RpAll.mono eG907 (RpAll.mono eG877 (RpAll.mono eG873 (RpAll.mono eG868 (RpAll.mono eG826 (RpAll.mono eG822 (RpAll.mono eG800 (RpAll.mono eG786 (RpAll.mono eG771 (RpAll.mono eG763 (RpAll.mono eG721 (RpAll.mono eG717 (RpAll.mono eG695 (RpAll.mono eG687 (RpAll.mono eG668 (RpAll.mono eG660 (RpAll.mono eG641 (RpAll.mono eG633 (RpAll.mono eG603 (RpAll.mono eG589 (RpAll.mono eG575 (RpAll.mono eG561 d555))))))))))))))))))))))))))))))))))))), (.int _), cW_call hw (fun v1451 hw v1454 H1452 G1455 e1453 eG1456 sG1457 hn1458 r1459 => ?_) (fun e he H2 e2 => hE e he H2 (Same.trans S1446.b0 e2))⟩
              have S1460 := S1446.step e1453 eG1456 sG1457 hn1458
              obtain ⟨a1461, vs1462, rfl, h1463, d1464⟩ := rp_list r1459
              refine ⟨(by show 2 ≤ sizeLine; decide), fun p1465 n1466 => ?_⟩
              generalize g1467 : upd H1452 p1465 _ = H1468
              obtain ⟨e1469, h1470⟩ := gen_new n1466 g1467
              have h1471 : H1468 p1465 = some (.lst ([V.ref a1447, V.ref a1461])) := h1470
              have fr1472 := S1460.free n1466
              have S1473 := S1460.new n1466 e1469 h1471 fr1472
              have d1474 : RpAll G1455 ([V.ref a1447, V.ref a1461]) (([v1437, v1451] : (List (List PyData))).map (encL encD)) := (RpAll.cons (rp_mk_list (eG1456 _ _ h1449) (RpAll.mono eG1456 d1450)) (RpAll.cons (rp_mk_list h1463 d1464) RpAll.nil))
              obtain ⟨g1475, hw⟩ := cW_grd hw
              have h1476 := (e1469 _ _ (e1453 _ _ (e1439 _ _ h1421)))
              obtain ⟨G1477, eG1478, hg1479, S1480⟩ := Sep.freeze (O' := [p1465]) S1473 (.tail _ (.head _)) h1476 fr1422 ((all_cons ⟨(.head _), (ne_of_none (e1453 _ _ (e1439 _ _ h1421)) n1466).symm⟩ all_nil))
              obtain ⟨G1481, eG1482, hg1483, S1484⟩ := Sep.freeze (O' := []) S1480 (.head _) h1471 fr1472 (all_nil)
              refine ⟨_, _, _, _, rfl, rfl, h1476, h1471, (cat_len (RpAll.mono eG1456 (RpAll.mono eG1442 d1423)) d1474 g1475), fun p1485 n1486 => ?_⟩
              generalize g1487 : upd H1468 p1485 _ = H1488
              obtain ⟨e1489, h1490⟩ := gen_new n1486 g1487
              have h1491 : H1488 p1485 = some (.lst (vs1330 ++ [V.ref a1447, V.ref a1461])) := h1490
              have fr1492 := S1484.free n1486
              have S1493 := S1484.new n1486 e1489 h1491 fr1492
              have d1494 : RpAll G1481 (vs1330 ++ [V.ref a1447, V.ref a1461]) (((faults_1328) ++ ([v1437, v1451]) : (List (List PyData))).map (encL encD)) := app_map (RpAll.mono eG1482 (RpAll.mono eG1478 (RpAll.mono eG1456 (RpAll.mono eG1442 d1423)))) (RpAll.mono eG1482 (RpAll.mono eG1478 d1474))
              have hw := cW_ok hw
              have hw := hK1434 _ hw
              exact ⟨_, ((faults_1328) ++ ([v1437, v1451])), _, _, rfl, (Same.trans (Same.trans (Same.trans eG1442 eG1456) eG1478) eG1482), S1493, h1491, fr1492, d1494, hw⟩
            · have hw := cW_neg c1436 hw
              have hw := cW_ok hw
              have hw := hK1434 _ hw
              exact ⟨_, (faults_1328), _, _, rfl, (Same.refl _), S1420, h1421, fr1422, d1423, hw⟩
          · intro σ H1495 hw
            obtain ⟨p1431, faults_1430, vs1432, G1500, rfl, eG1501, S1496, h1497, fr1498, d1499, hw⟩ := hw
            unfold F__law_faults_k4 at hw
            obtain ⟨K1506, hK1507, hw⟩ := cW_push hw
            refine ⟨_, rfl, (by decide), (by decide), for_range (lo := 0) (n := Int.toNat (5)) (fun i σ H' => ∃ (faults_1508 : (List (List PyData))) (vs1509 : List V) (u1510 : Option V) (G' : Hp), σ = [some (V.ref a552), some (V.ref a_n), some (V.int (far')), some (V.ref p1431), u1510] ∧ Same G1500 G' ∧ Sep [] H G G' H' [p1431] ∧ H' p1431 = some (.lst (vs1509)) ∧ RpAll G' (vs1509) ((faults_1508 : (List (List PyData))).map (encL encD)) ∧ cW (forS (List.drop i (rng (0) (Int.toNat (5)))) faults_1508 (fun s x => F__law_faults_b5 (p') s x)) K1506 EE) ?_ ?_ ?_⟩
            · exact ⟨(faults_1430), _, _, _, rfl, (Same.refl _), S1496, h1497, d1499, hw⟩
            · intro i σ H1511 hi hw
              obtain ⟨faults_1508, vs1509, u1510, G1515, rfl, eG1516, S1512, h1513, d1514, hw⟩ := hw
              have hw := cW_forS (rng_get hi) hw
              generalize (0 + (i : Int)) = x1517 at hw ⊢
              have hw : cW (F__law_faults_b5 (p') (faults_1508) (x1517)) _ EE := hw
              unfold F__law_faults_b5 at hw
              obtain ⟨K1519, hK1520, hw⟩ := cW_name hw
              refine ⟨_, rfl, (by show 1 ≤ sizeLine; decide), fun p1522 n1523 => ?_⟩
              generalize g1524 : upd H1511 p1522 _ = H1525
              obtain ⟨e1526, h1527⟩ := gen_new n1523 g1524
              have h1528 : H1525 p1522 = some (.lst (([0] : (List Int)).map V.int)) := h1527
              have fr1529 := S1512.free n1523
              have S1530 := S1512.new n1523 e1526 h1528 fr1529
              refine ⟨(by show 2 ≤ sizeLine; decide), fun p1531 n1532 => ?_⟩
              generalize g1533 : upd H1525 p1531 _ = H1534
              obtain ⟨e1535, h1536⟩ := gen_new n1532 g1533
              have h1537 : H1534 p1531 = some (.lst (([1, 2] : (List Int)).map V.int)) := h1536
              have fr1538 := S1530.free n1532
              have S1539 := S1530.new n1532 e1535 h1537 fr1538
              refine ⟨(by show 1 ≤ sizeLine; decide), fun p1540 n1541 => ?_⟩
              generalize g1542 : upd H1534 p1540 _ = H1543
              obtain ⟨e1544, h1545⟩ := gen_new n1541 g1542
              have h1546 : H1543 p1540 = some (.lst (([2] : (List Int)).map V.int)) := h1545
              have fr1547 := S1539.free n1541
              have S1548 := S1539.new n1541 e1544 h1546 fr1547
              have h1549 := (e1544 _ _ (e1535 _ _ h1528))
              obtain ⟨G1550, eG1551, hg1552, S1553⟩ := Sep.freeze (O' := [p1540, p1531, p1431]) S1548 (.tail _ (.tail _ (.head _))) h1549 fr1529 ((all_cons ⟨(.head _), (ne_of_none (e1535 _ _ h1528) n1541).symm⟩ (all_cons ⟨(.tail _ (.head _)), (ne_of_none h1528 n1532).symm⟩ (all_cons ⟨(.tail _ (.tail _ (.tail _ (.head _)))), (ne_of_none h1513 n1523)⟩ all_nil))))
              have h1554 := (e1544 _ _ h1537)
              obtain ⟨G1555, eG1556, hg1557, S1558⟩ := Sep.freeze (O' := [p1540, p1431]) S1553 (.tail _ (.head _)) h1554 fr1538 ((all_cons ⟨(.head _), (ne_of_none h1537 n1541).symm⟩ (all_cons ⟨(.tail _ (.tail _ (.head _))), (ne_of_none (e1526 _ _ h1513) n1532)⟩ all_nil)))
              obtain ⟨G1559, eG1560, hg1561, S1562⟩ := Sep.freeze (O' := [p1431]) S1558 (.head _) h1546 fr1547 ((all_cons ⟨(.tail _ (.head _)), (ne_of_none (e1535 _ _ (e1526 _ _ h1513)) n1541)⟩ all_nil))
              refine ⟨(by show 3 ≤ sizeLine; decide), fun p1563 n1564 => ?_⟩
              generalize g1565 : upd H1543 p1563 _ = H1566
              obtain ⟨e1567, h1568⟩ := gen_new n1564 g1565
              have h1569 : H1566 p1563 = some (.lst ([V.ref p1522, V.ref p1531, V.ref p1540])) := h1568
              have fr1570 := S1562.free n1564
              have S1571 := S1562.new n1564 e1567 h1569 fr1570
              have d1572 : RpAll G1559 ([V.ref p1522, V.ref p1531, V.ref p1540]) (([[0], [1, 2], [2]] : (List (List Int))).map (encL PyData.int)) := (RpAll.cons (rp_mk_ints (eG1560 _ _ (eG1556 _ _ hg1552))) (RpAll.cons (rp_mk_ints (eG1560 _ _ hg1557)) (RpAll.cons (rp_mk_ints hg1561) RpAll.nil)))
              obtain ⟨g1573, hw⟩ := cW_grd hw
              obtain ⟨v1574, a1575, r1576⟩ := RpAll.ixD (k := 1) (RpAll.mono eG1560 (RpAll.mono eG1556 (RpAll.mono eG1551 (RpAll.mono eG1516 (RpAll.mono eG1501 (RpAll.mono eG1425 (RpAll.mono eG1323 (RpAll.mono eG1194 (RpAll.mono eG1078 (RpAll.mono eG1074 (RpAll.mono eG1052 (RpAll.mono eG1022 (RpAll.mono eG992 (RpAll.mono eG974 (RpAll.mono eG970 (RpAll.mono eG948 (RpAll.mono eG934 (RpAll.mono eG926 (RpAll.mono eG907 (RpAll.mono eG877 (RpAll.mono eG873 (RpAll.mono eG868 (RpAll.mono eG826 (RpAll.mono eG822 (RpAll.mono eG800 (RpAll.mono eG786 (RpAll.mono eG771 (RpAll.mono eG763 (RpAll.mono eG721 (RpAll.mono eG717 (RpAll.mono eG695 (RpAll.mono eG687 (RpAll.mono eG668 (RpAll.mono eG660 (RpAll.mono eG641 (RpAll.mono eG633 (RpAll.mono eG603 (RpAll.mono eG589 (RpAll.mono eG575 (RpAll.mono eG561 d555)))))))))))))))))))))))))))))))))))))))) g1573
              obtain ⟨g1577, hw⟩ := cW_grd hw
              have r1578 : Rp G1559 v1574 (PyData.int ((cI).dec ((itD (p') (1))))) := rp_dcast cI g1577 r1576
              obtain rfl := rp_int r1578
              obtain ⟨g1579, hw⟩ := cW_grd hw
              obtain ⟨v1580, a1581, r1582⟩ := RpAll.ixD (k := ((cI).dec ((itD (p') (1))))) d1572 g1579
              obtain ⟨a1583, rfl, h1584⟩ := rp_ints r1582
              refine ⟨_, rfl, _, _, _, _, rfl, rfl, (SqL.of (S1571.sG _ _ (eG1560 _ _ (eG1556 _ _ (eG1551 _ _ (eG1516 _ _ (eG1501 _ _ (eG1425 _ _ (eG1323 _ _ (eG1194 _ _ (eG1078 _ _ (eG1074 _ _ (eG1052 _ _ (eG1022 _ _ (eG992 _ _ (eG974 _ _ (eG970 _ _ (eG948 _ _ (eG934 _ _ (eG926 _ _ (eG907 _ _ (eG877 _ _ (eG873 _ _ (eG868 _ _ (eG826 _ _ (eG822 _ _ (eG800 _ _ (eG786 _ _ (eG771 _ _ (eG763 _ _ (eG721 _ _ (eG717 _ _ (eG695 _ _ (eG687 _ _ (eG668 _ _ (eG660 _ _ (eG641 _ _ (eG633 _ _ (eG603 _ _ (eG589 _ _ (eG575 _ _ (eG561 _ _ h554)))))))))))))))))))))))))))))))))))))))))), a1575, _, _, _, _, rfl, rfl, (SqL.of h1569), a1581, _, _, ((itD ([[0], [1, 2], [2]]) (((cI).dec ((itD (p') (1)))))) : List Int), rfl, rfl, (.inl (SqL.of (S1571.sG _ _ h1584))), _, rfl, ?_⟩
              refine iteN (fun c1585 => ?_) (fun c1585 => ?_)
              · have hw := cW_neg c1585 hw
                have h1586 := (e1567 _ _ (e1544 _ _ (e1535 _ _ (e1526 _ _ h1513))))
                refine ⟨_, rfl, (.inl ⟨rfl, _, SqL.of h1586⟩), _, rfl, (by show 1 ≤ sizeLine; decide), fun p1587 n1588 => ?_⟩
                generalize g1589 : upd H1566 p1587 _ = H1590
                obtain ⟨e1591, h1592⟩ := gen_new n1588 g1589
                have h1593 : H1590 p1587 = some (.lst (([0] : (List Int)).map V.int)) := h1592
                have fr1594 := S1571.free n1588
                have S1595 := S1571.new n1588 e1591 h1593 fr1594
                obtain ⟨g1596, hw⟩ := cW_grd hw
                refine ⟨_, rfl, _, _, _, rfl, rfl, h1593, g1596.1, g1596.2.1, (rep_lenM g1596.2.2), fun p1597 n1598 => ?_⟩
                generalize g1599 : upd H1590 p1597 _ = H1600
                obtain ⟨e1601, h1602⟩ := gen_new n1598 g1599
                have h1603 : H1600 p1597 = some (.lst ((repL ([0]) (x1517) : (List Int)).map V.int)) := rep_map h1602
                have fr1604 := S1595.free n1598
                have S1605 := S1595.new n1598 e1601 h1603 fr1604
                obtain ⟨G1606, eG1607, hg1608, S1609⟩ := Sep.freeze (O' := [p1587, p1563, p1431]) S1605 (.head _) h1603 fr1604 ((all_cons ⟨(.tail _ (.head _)), (ne_of_none h1593 n1598)⟩ (all_cons ⟨(.tail _ (.tail _ (.head _))), (ne_of_none (e1591 _ _ h1569) n1598)⟩ (all_cons ⟨(.tail _ (.tail _ (.tail _ (.head _)))), (ne_of_none (e1591 _ _ h1586) n1598)⟩ all_nil))))
                refine ⟨rfl, rfl, G1606, _, _, _, _, ((encL PyData.int) (repL ([0]) (x1517))), rfl, S1609.sG, (rp_mk_list (eG1607 _ _ (eG1560 _ _ (eG1556 _ _ (eG1551 _ _ (eG1516 _ _ (eG1501 _ _ (eG1425 _ _ (eG1323 _ _ (eG1194 _ _ (eG1078 _ _ (eG1074 _ _ (eG1052 _ _ (eG1022 _ _ (eG992 _ _ (eG974 _ _ (eG970 _ _ (eG948 _ _ (eG934 _ _ (eG926 _ _ (eG907 _ _ (eG877 _ _ (eG873 _ _ (eG868 _ _ (eG826 _ _ (eG822 _ _ (eG800 _ _ (eG786 _ _ (eG771 _ _ (eG763 _ _ (eG721 _ _ (eG717 _ _ (eG695 _ _ (eG687 _ _ (eG668 _ _ (eG660 _ _ (eG641 _ _ (eG633 _ _ (eG603 _ _ (eG589 _ _ (eG575 _ _ (eG561 _ _ h554))))))))))))))))))))))))))))))))))))))))) (RpAll.mono eG1607 (RpAll.mono eG1560 (RpAll.mono eG1556 (RpAll.mono eG1551 (RpAll.mono eG1516 (RpAll.mono eG1501 (RpAll.mono eG1425 (RpAll.mono eG1323 (RpAll.mono eG1194 (RpAll.mono eG1078 (RpAll.mono eG1074 (RpAll.mono eG1052 (RpAll.mono eG1022 (RpAll.mono eG992 (RpAll.mono eG974 (RpAll.mono eG970 (RpAll.mono eG948 (RpAll.mono eG934 (RpAll.mono eG926 (RpAll.mono eG907 (RpAll.mono eG877 (RpAll.mono eG873 (RpAll.mono eG868 (RpAll.mono eG826 (RpAll.mono eG822 (RpAll.mono eG800 (RpAll.mono eG786 (RpAll.mono eG771 (RpAll.mono eG763 (RpAll.mono eG721 (RpAll.mono eG717 (RpAll.mono eG695 (RpAll.mono eG687 (RpAll.mono eG668 (RpAll.mono eG660 (RpAll.mono eG641 (RpAll.mono eG633 (RpAll.mono eG603 (RpAll.mono eG589 (RpAll.mono eG575 (RpAll.mono eG561 d555)))))))))))))))))))))))))))))))))))))))))), (rp_mk_ints hg1608), cW_call hw (fun v1610 hw v1613 H1611 G1614 e1612 eG1615 sG1616 hn1617 r1618 => ?_) (fun e he H2 e2 => hE e he H2 (Same.trans S1609.b0 e2))⟩
                have S1619 := S1609.step e1612 eG1615 sG1616 hn1617
                obtain ⟨a1620, vs1621, rfl, h1622, d1623⟩ := rp_list r1618
                obtain ⟨g1624, hw⟩ := cW_grd hw
                have h1625 := (e1612 _ _ (e1601 _ _ (e1591 _ _ h1586)))
                refine ⟨_, _, _, rfl, rfl, h1625, (app_len (RpAll.mono eG1615 (RpAll.mono eG1607 (RpAll.mono eG1560 (RpAll.mono eG1556 (RpAll.mono eG1551 d1514))))) g1624), ?_⟩
                generalize g1626 : upd H1611 p1431 _ = H1627
                obtain ⟨x1628, h1629⟩ := gen_mut g1626
                have h1630 : H1627 p1431 = some (.lst (vs1509 ++ [V.ref a1620])) := h1629
                have S1631 := S1619.mut1 x1628 (.tail _ (.tail _ (.head _))) h1630
                have d1632 : RpAll G1614 (vs1509 ++ [V.ref a1620]) (((faults_1508) ++ [v1610] : (List (List PyData))).map (encL encD)) := app_map (RpAll.mono eG1615 (RpAll.mono eG1607 (RpAll.mono eG1560 (RpAll.mono eG1556 (RpAll.mono eG1551 d1514))))) (RpAll.one (rp_mk_list h1622 d1623))
                have hw := cW_bnd hw
                have hw := cW_ok hw
                have hw := hK1520 _ hw
                exact ⟨((faults_1508) ++ [v1610]), _, _, _, rfl, (Same.trans (Same.trans (Same.trans (Same.trans (Same.trans eG1516 eG1551) eG1556) eG1560) eG1607) eG1615), (S1631.sub (all_cons (.tail _ (.tail _ (.head _))) all_nil)), h1630, d1632, hw⟩
              · have hw := cW_pos c1585 hw
                have hw := cW_ok hw
                have hw := hK1520 _ hw
                have h1634 := (e1567 _ _ (e1544 _ _ (e1535 _ _ (e1526 _ _ h1513))))
                exact ⟨(faults_1508), _, _, _, rfl, (Same.trans (Same.trans (Same.trans eG1516 eG1551) eG1556) eG1560), (S1571.sub (all_cons (.tail _ (.head _)) all_nil)), h1634, (RpAll.mono eG1560 (RpAll.mono eG1556 (RpAll.mono eG1551 d1514))), hw⟩
            · intro σ H1635 hw
              obtain ⟨faults_1508, vs1509, u1510, G1639, rfl, eG1640, S1636, h1637, d1638, hw⟩ := hw
              have hw := hK1507 _ (cW_forS0 (rng_len _ _).symm hw)
              have hw : cW (F__law_faults_r5 (p') (n') (far') (faults_1508)) _ EE := hw
              unfold F__law_faults_r5 at hw
              refine ⟨fun σ H' => ∃ (p1647 : Addr) (faults_1646 : (List (List PyData))) (vs1648 : List V) (G' : Hp), σ = [some (V.ref a552), some (V.ref a_n), some (V.int (far')), some (V.ref p1647), u1510] ∧ Same G1639 G' ∧ Sep [] H G G' H' [p1647] ∧ H' p1647 = some (.lst (vs1648)) ∧ H p1647 = none ∧ RpAll G' (vs1648) ((faults_1646 : (List (List PyData))).map (encL encD)) ∧ cW (F__law_faults_k6 (p') (n') (far') faults_1646) KK EE, ?_, ?_⟩
              · obtain ⟨K1649, hK1650, hw⟩ := cW_push hw
                obtain ⟨g1651, hw⟩ := cW_grd hw
                obtain ⟨v1652, a1653, r1654⟩ := RpAll.ixD (k := 1) (RpAll.mono eG1640 (RpAll.mono eG1501 (RpAll.mono eG1425 (RpAll.mono eG1323 (RpAll.mono eG1194 (RpAll.mono eG1078 (RpAll.mono eG1074 (RpAll.mono eG1052 (RpAll.mono eG1022 (RpAll.mono eG992 (RpAll.mono eG974 (RpAll.mono eG970 (RpAll.mono eG948 (RpAll.mono eG934 (RpAll.mono eG926 (RpAll.mono eG907 (RpAll.mono eG877 (RpAll.mono eG873 (RpAll.mono eG868 (RpAll.mono eG826 (RpAll.mono eG822 (RpAll.mono eG800 (RpAll.mono eG786 (RpAll.mono eG771 (RpAll.mono eG763 (RpAll.mono eG721 (RpAll.mono eG717 (RpAll.mono eG695 (RpAll.mono eG687 (RpAll.mono eG668 (RpAll.mono eG660 (RpAll.mono eG641 (RpAll.mono eG633 (RpAll.mono eG603 (RpAll.mono eG589 (RpAll.mono eG575 (RpAll.mono eG561 d555))))))))))))))))))))))))))))))))))))) g1651
                obtain ⟨g1655, hw⟩ := cW_grd hw
                have r1656 : Rp G1639 v1652 (PyData.int ((cI).dec ((itD (p') (1))))) := rp_dcast cI g1655 r1654
                obtain rfl := rp_int r1656
                refine ⟨_, rfl, _, _, _, _, rfl, rfl, (SqL.of (S1636.sG _ _ (eG1640 _ _ (eG1501 _ _ (eG1425 _ _ (eG1323 _ _ (eG1194 _ _ (eG1078 _ _ (eG1074 _ _ (eG1052 _ _ (eG1022 _ _ (eG992 _ _ (eG974 _ _ (eG970 _ _ (eG948 _ _ (eG934 _ _ (eG926 _ _ (eG907 _ _ (eG877 _ _ (eG873 _ _ (eG868 _ _ (eG826 _ _ (eG822 _ _ (eG800 _ _ (eG786 _ _ (eG771 _ _ (eG763 _ _ (eG721 _ _ (eG717 _ _ (eG695 _ _ (eG687 _ _ (eG668 _ _ (eG660 _ _ (eG641 _ _ (eG633 _ _ (eG603 _ _ (eG589 _ _ (eG575 _ _ (eG561 _ _ h554))))))))))))))))))))))))))))))))))))))), a1653, _, _, rfl, rfl, _, rfl, ?_⟩
                refine iteD (fun c1657 => ?_) (fun c1657 => ?_)
                · have hw := cW_pos c1657 hw
                  obtain ⟨g1658, hw⟩ := cW_grd hw
                  refine ⟨_, rfl, _, rfl, _, rfl, _, _, _, _, rfl, rfl, (SqL.of (S1636.bM _ _ q_n)), (atI_map g1658), _, _, rfl, rfl, _, rfl, _, _, rfl, rfl, (by show 1 ≤ sizeLine; decide), fun p1659 n1660 => ?_⟩
                  generalize g1661 : upd H1635 p1659 _ = H1662
                  obtain ⟨e1663, h1664⟩ := gen_new n1660 g1661
                  have h1665 : H1662 p1659 = some (.lst (([(((itD (n') (4)) - 1) + far')] : (List Int)).map V.int)) := h1664
                  have fr1666 := S1636.free n1660
                  have S1667 := S1636.new n1660 e1663 h1665 fr1666
                  obtain ⟨G1668, eG1669, hg1670, S1671⟩ := Sep.freeze (O' := [p1431]) S1667 (.head _) h1665 fr1666 ((all_cons ⟨(.tail _ (.head _)), (ne_of_none h1637 n1660)⟩ all_nil))
                  refine ⟨rfl, rfl, G1668, _, _, _, _, ((encL PyData.int) ([(((itD (n') (4)) - 1) + far')])), rfl, S1671.sG, (rp_mk_list (eG1669 _ _ (eG1640 _ _ (eG1501 _ _ (eG1425 _ _ (eG1323 _ _ (eG1194 _ _ (eG1078 _ _ (eG1074 _ _ (eG1052 _ _ (eG1022 _ _ (eG992 _ _ (eG974 _ _ (eG970 _ _ (eG948 _ _ (eG934 _ _ (eG926 _ _ (eG907 _ _ (eG877 _ _ (eG873 _ _ (eG868 _ _ (eG826 _ _ (eG822 _ _ (eG800 _ _ (eG786 _ _ (eG771 _ _ (eG763 _ _ (eG721 _ _ (eG717 _ _ (eG695 _ _ (eG687 _ _ (eG668 _ _ (eG660 _ _ (eG641 _ _ (eG633 _ _ (eG603 _ _ (eG589 _ _ (eG575 _ _ (eG561 _ _ h554)))))))))))))))))))))))))))))))))))))) (RpAll.mono eG1669 (RpAll.mono eG1640 (RpAll.mono eG1501 (RpAll.mono eG1425 (RpAll.mono eG1323 (RpAll.mono eG1194 (RpAll.mono eG1078 (RpAll.mono eG1074 (RpAll.mono eG1052 (RpAll.mono eG1022 (RpAll.mono eG992 (RpAll.mono eG974 (RpAll.mono eG970 (RpAll.mono eG948 (RpAll.mono eG934 (RpAll.mono eG926 (RpAll.mono eG907 (RpAll.mono eG877 (RpAll.mono eG873 (RpAll.mono eG868 (RpAll.mono eG826 (RpAll.mono eG822 (RpAll.mono eG800 (RpAll.mono eG786 (RpAll.mono eG771 (RpAll.mono eG763 (RpAll.mono eG721 (RpAll.mono eG717 (RpAll.mono eG695 (RpAll.mono eG687 (RpAll.mono eG668 (RpAll.mono eG660 (RpAll.mono eG641 (RpAll.mono eG633 (RpAll.mono eG603 (RpAll.mono eG589 (RpAll.mono eG575 (RpAll.mono eG561 d555))))))))))))))))))))))))))))))))))))))), (rp_mk_ints hg1670), cW_call hw (fun v1672 hw v1675 H1673 G1676 e1674 eG1677 sG1678 hn1679 r1680 => ?_) (fun e he H2 e2 => hE e he H2 (Same.trans S1671.b0 e2))⟩
                  have S1681 := S1671.step e1674 eG1677 sG1678 hn1679
                  obtain ⟨a1682, vs1683, rfl, h1684, d1685⟩ := rp_list r1680
                  refine ⟨_, rfl, _, rfl, _, rfl, (by show 1 ≤ sizeLine; decide), fun p1686 n1687 => ?_⟩
                  generalize g1688 : upd H1673 p1686 _ = H1689
                  obtain ⟨e1690, h1691⟩ := gen_new n1687 g1688
                  have h1692 : H1689 p1686 = some (.lst (([(-far')] : (List Int)).map V.int)) := h1691
                  have fr1693 := S1681.free n1687
                  have S1694 := S1681.new n1687 e1690 h1692 fr1693
                  obtain ⟨G1695, eG1696, hg1697, S1698⟩ := Sep.freeze (O' := [p1431]) S1694 (.head _) h1692 fr1693 ((all_cons ⟨(.tail _ (.head _)), (ne_of_none (e1674 _ _ (e1663 _ _ h1637)) n1687)⟩ all_nil))
                  refine ⟨rfl, rfl, G1695, _, _, _, _, ((encL PyData.int) ([(-far')])), rfl, S1698.sG, (rp_mk_list (eG1696 _ _ (eG1677 _ _ (eG1669 _ _ (eG1640 _ _ (eG1501 _ _ (eG1425 _ _ (eG1323 _ _ (eG1194 _ _ (eG1078 _ _ (eG1074 _ _ (eG1052 _ _ (eG1022 _ _ (eG992 _ _ (eG974 _ _ (eG970 _ _ (eG948 _ _ (eG934 _ _ (eG926 _ _ (eG907 _ _ (eG877 _ _ (eG873 _ _ (eG868 _ _ (eG826 _ _ (eG822 _ _ (eG800 _ _ (eG786 _ _ (eG771 _ _ (eG763 _ _ (eG721 _ _ (eG717 _ _ (eG695 _ _ (eG687 _ _ (eG668 _ _ (eG660 _ _ (eG641 _ _ (eG633 _ _ (eG603 _ _ (eG589 _ _ (eG575 _ _ (eG561 _ _ h554)))))))))))))))))))))))))))))))))))))))) (RpAll.mono eG1696 (RpAll.mono eG1677 (RpAll.mono eG1669 (RpAll.mono eG1640 (RpAll.mono eG1501 (RpAll.mono eG1425 (RpAll.mono eG1323 (RpAll.mono eG1194 (RpAll.mono eG1078 (RpAll.mono eG1074 (RpAll.mono eG1052 (RpAll.mono eG1022 (RpAll.mono eG992 (RpAll.mono eG974 (RpAll.mono eG970 (RpAll.mono eG948 (RpAll.mono eG934 (RpAll.mono eG926 (RpAll.mono eG907 (RpAll.mono eG877 (RpAll.mono eG873 (RpAll.mono eG868 (RpAll.mono eG826 (RpAll.mono eG822 (RpAll.mono eG800 (RpAll.mono eG786 (RpAll.mono eG771 (RpAll.mono eG763 (RpAll.mono eG721 (RpAll.mono eG717 (RpAll.mono eG695 (RpAll.mono eG687 (RpAll.mono eG668 (RpAll.mono eG660 (RpAll.mono eG641 (RpAll.mono eG633 (RpAll.mono eG603 (RpAll.mono eG589 (RpAll.mono eG575 (RpAll.mono eG561 d555))))))))))))))))))))))))))))))))))))))))), (rp_mk_ints hg1697), cW_call hw (fun v1699 hw v1702 H1700 G1703 e1701 eG1704 sG1705 hn1706 r1707 => ?_) (fun e he H2 e2 => hE e he H2 (Same.trans S1698.b0 e2))⟩
                  have S1708 := S1698.step e1701 eG1704 sG1705 hn1706
                  obtain ⟨a1709, vs1710, rfl, h1711, d1712⟩ := rp_list r1707
                  refine ⟨_, rfl, _, rfl, _, rfl, (by show 2 ≤ sizeLine; decide), fun p1713 n1714 => ?_⟩
                  generalize g1715 : upd H1700 p1713 _ = H1716
                  obtain ⟨e1717, h1718⟩ := gen_new n1714 g1715
                  have h1719 : H1716 p1713 = some (.lst (([(-far'), 0] : (List Int)).map V.int)) := h1718
                  have fr1720 := S1708.free n1714
                  have S1721 := S1708.new n1714 e1717 h1719 fr1720
                  obtain ⟨G1722, eG1723, hg1724, S1725⟩ := Sep.freeze (O' := [p1431]) S1721 (.head _) h1719 fr1720 ((all_cons ⟨(.tail _ (.head _)), (ne_of_none (e1701 _ _ (e1690 _ _ (e1674 _ _ (e1663 _ _ h1637)))) n1714)⟩ all_nil))
                  refine ⟨rfl, rfl, G1722, _, _, _, _, ((encL PyData.int) ([(-far'), 0])), rfl, S1725.sG, (rp_mk_list (eG1723 _ _ (eG1704 _ _ (eG1696 _ _ (eG1677 _ _ (eG1669 _ _ (eG1640 _ _ (eG1501 _ _ (eG1425 _ _ (eG1323 _ _ (eG1194 _ _ (eG1078 _ _ (eG1074 _ _ (eG1052 _ _ (eG1022 _ _ (eG992 _ _ (eG974 _ _ (eG970 _ _ (eG948 _ _ (eG934 _ _ (eG926 _ _ (eG907 _ _ (eG877 _ _ (eG873 _ _ (eG868 _ _ (eG826 _ _ (eG822 _ _ (eG800 _ _ (eG786 _ _ (eG771 _ _ (eG763 _ _ (eG721 _ _ (eG717 _ _ (eG695 _ _ (eG687 _ _ (eG668 _ _ (eG660 _ _ (eG641 _ _ (eG633 _ _ (eG603 _ _ (eG589 _ _ (eG575 _ _ (eG561 _ _ h554)))))))))))))))))))))))))))))))))))))))))) (RpAll.mono eG1723 (RpAll.mono eG1704 (RpAll.mono eG1696 (RpAll.mono eG1677 (RpAll.mono eG1669 (RpAll.mono eG1640 (RpAll.mono eG1501 (RpAll.mono eG1425 (RpAll.mono eG1323 (RpAll.mono eG1194 (RpAll.mono eG1078 (RpAll.mono eG1074 (RpAll.mono eG1052 (RpAll.mono eG1022 (RpAll.mono eG992 (RpAll.mono eG974 (RpAll.mono eG970 (RpAll.mono eG948 (RpAll.mono eG934 (RpAll.mono eG926 (RpAll.mono eG907 (RpAll.mono eG877 (RpAll.mono eG873 (RpAll.mono eG868 (RpAll.mono eG826 (RpAll.mono eG822 (RpAll.mono eG800 (RpAll.mono eG786 (RpAll.mono eG771 (RpAll.mono eG763 (RpAll.mono eG721 (RpAll.mono eG717 (RpAll.mono eG695 (RpAll.mono eG687 (RpAll.mono eG668 (RpAll.mono eG660 (RpAll.mono eG641 (RpAll.mono eG633 (RpAll.mono eG603 (RpAll.mono eG589 (RpAll.mono eG575 (RpAll.mono eG561 d555))))))))))))))))))))))))))))))))))))))))))), (rp_mk_ints hg1724), cW_call hw (fun v1726 hw v1729 H1727 G1730 e1728 eG1731 sG1732 hn1733 r1734 => ?_) (fun e he H2 e2 => hE e he H2 (Same.trans S1725.b0 e2))⟩
                  have S1735 := S1725.step e1728 eG1731 sG1732 hn1733
                  obtain ⟨a1736, vs1737, rfl, h1738, d1739⟩ := rp_list r1734
                  obtain ⟨g1740, hw⟩ := cW_grd hw
                  refine ⟨_, rfl, _, rfl, _, _, _, _, rfl, rfl, (SqL.of (S1735.bM _ _ q_n)), (atI_map g1740), (by show 2 ≤ sizeLine; decide), fun p1741 n1742 => ?_⟩
                  generalize g1743 : upd H1727 p1741 _ = H1744
                  obtain ⟨e1745, h1746⟩ := gen_new n1742 g1743
                  have h1747 : H1744 p1741 = some (.lst (([(itD (n') (4)), 0] : (List Int)).map V.int)) := h1746
                  have fr1748 := S1735.free n1742
                  have S1749 := S1735.new n1742 e1745 h1747 fr1748
                  obtain ⟨G1750, eG1751, hg1752, S1753⟩ := Sep.freeze (O' := [p1431]) S1749 (.head _) h1747 fr1748 ((all_cons ⟨(.tail _ (.head _)), (ne_of_none (e1728 _ _ (e1717 _ _ (e1701 _ _ (e1690 _ _ (e1674 _ _ (e1663 _ _ h1637)))))) n1742)⟩ all_nil))
                  refine ⟨rfl, rfl, G1750, _, _, _, _, ((encL PyData.int) ([(itD (n') (4)), 0])), rfl, S1753.sG, (rp_mk_list (eG1751 _ _ (eG1731 _ _ (eG1723 _ _ (eG1704 _ _ (eG1696 _ _ (eG1677 _ _ (eG1669 _ _ (eG1640 _ _ (eG1501 _ _ (eG1425 _ _ (eG1323 _ _ (eG1194 _ _ (eG1078 _ _ (eG1074 _ _ (eG1052 _ _ (eG1022 _ _ (eG992 _ _ (eG974 _ _ (eG970 _ _ (eG948 _ _ (eG934 _ _ (eG926 _ _ (eG907 _ _ (eG877 _ _ (eG873 _ _ (eG868 _ _ (eG826 _ _ (eG822 _ _ (eG800 _ _ (eG786 _ _ (eG771 _ _ (eG763 _ _ (eG721 _ _ (eG717 _ _ (eG695 _ _ (eG687 _ _ (eG668 _ _ (eG660 _ _ (eG641 _ _ (eG633 _ _ (eG603 _ _ (eG589 _ _ (eG575 _ _ (eG561 _ _ h554)))))))))))))))))))))))))))))))))))))))))))) (RpAll.mono eG1751 (RpAll.mono eG1731 (RpAll.mono eG1723 (RpAll.mono eG1704 (RpAll.mono eG1696 (RpAll.mono eG1677 (RpAll.mono eG1669 (RpAll.mono eG1640 (RpAll.mono eG1501 (RpAll.mono eG1425 (RpAll.mono eG1323 (RpAll.mono eG1194 (RpAll.mono eG1078 (RpAll.mono eG1074 (RpAll.mono eG1052 (RpAll.mono eG1022 (RpAll.mono eG992 (RpAll.mono eG974 (RpAll.mono eG970 (RpAll.mono eG948 (RpAll.mono eG934 (RpAll.mono eG926 (RpAll.mono eG907 (RpAll.mono eG877 (RpAll.mono eG873 (RpAll.mono eG868 (RpAll.mono eG826 (RpAll.mono eG822 (RpAll.mono eG800 (RpAll.mono eG786 (RpAll.mono eG771 (RpAll.mono eG763 (RpAll.mono eG721 (RpAll.mono eG717 (RpAll.mono eG695 (RpAll.mono eG687 (RpAll.mono eG668 (RpAll.mono eG660 (RpAll.mono eG641 (RpAll.mono eG633 (RpAll.mono eG603 (RpAll.mono eG589 (RpAll.mono eG575 (RpAll.mono eG561 d555))))))))))))))))))))))))))))))))))))))))))))), (rp_mk_ints hg1752), cW_call hw (fun v1754 hw v1757 H1755 G1758 e1756 eG1759 sG1760 hn1761 r1762 => ?_) (fun e he H2 e2 => hE e he H2 (Same.trans S1753.b0 e2))⟩
                  have S1763 := S1753.step e1756 eG1759 sG1760 hn1761
                  obtain ⟨a1764, vs1765, rfl, h1766, d1767⟩ := rp_list r1762
                  refine ⟨(by show 4 ≤ sizeLine; decide), fun p1768 n1769 => ?_⟩
                  generalize g1770 : upd H1755 p1768 _ = H1771
                  obtain ⟨e1772, h1773⟩ := gen_new n1769 g1770
                  have h1774 : H1771 p1768 = some (.lst ([V.ref a1682, V.ref a1709, V.ref a1736, V.ref a1764])) := h1773
                  have fr1775 := S1763.free n1769
                  have S1776 := S1763.new n1769 e1772 h1774 fr1775
                  have d1777 : RpAll G1758 ([V.ref a1682, V.ref a1709, V.ref a1736, V.ref a1764]) (([v1672, v1699, v1726, v1754] : (List (List PyData))).map (encL encD)) := (RpAll.cons (rp_mk_list (eG1759 _ _ (eG1751 _ _ (eG1731 _ _ (eG1723 _ _ (eG1704 _ _ (eG1696 _ _ h1684)))))) (RpAll.mono eG1759 (RpAll.mono eG1751 (RpAll.mono eG1731 (RpAll.mono eG1723 (RpAll.mono eG1704 (RpAll.mono eG1696 d1685))))))) (RpAll.cons (rp_mk_list (eG1759 _ _ (eG1751 _ _ (eG1731 _ _ (eG1723 _ _ h1711)))) (RpAll.mono eG1759 (RpAll.mono eG1751 (RpAll.mono eG1731 (RpAll.mono eG1723 d1712))))) (RpAll.cons (rp_mk_list (eG1759 _ _ (eG1751 _ _ h1738)) (RpAll.mono eG1759 (RpAll.mono eG1751 d1739))) (RpAll.cons (rp_mk_list h1766 d1767) RpAll.nil))))
                  obtain ⟨g1778, hw⟩ := cW_grd hw
                  have h1779 := (e1772 _ _ (e1756 _ _ (e1745 _ _ (e1728 _ _ (e1717 _ _ (e1701 _ _ (e1690 _ _ (e1674 _ _ (e1663 _ _ h1637)))))))))
                  obtain ⟨G1780, eG1781, hg1782, S1783⟩ := Sep.freeze (O' := [p1768]) S1776 (.tail _ (.head _)) h1779 fr1498 ((all_cons ⟨(.head _), (ne_of_none (e1756 _ _ (e1745 _ _ (e1728 _ _ (e1717 _ _ (e1701 _ _ (e1690 _ _ (e1674 _ _ (e1663 _ _ h1637)))))))) n1769).symm⟩ all_nil))
                  obtain ⟨G1784, eG1785, hg1786, S1787⟩ := Sep.freeze (O' := []) S1783 (.head _) h1774 fr1775 (all_nil)
                  refine ⟨_, _, _, _, rfl, rfl, h1779, h1774, (cat_len (RpAll.mono eG1759 (RpAll.mono eG1751 (RpAll.mono eG1731 (RpAll.mono eG1723 (RpAll.mono eG1704 (RpAll.mono eG1696 (RpAll.mono eG1677 (RpAll.mono eG1669 d1638)))))))) d1777 g1778), fun p1788 n1789 => ?_⟩
                  generalize g1790 : upd H1771 p1788 _ = H1791
                  obtain ⟨e1792, h1793⟩ := gen_new n1789 g1790
                  have h1794 : H1791 p1788 = some (.lst (vs1509 ++ [V.ref a1682, V.ref a1709, V.ref a1736, V.ref a1764])) := h1793
                  have fr1795 := S1787.free n1789
                  have S1796 := S1787.new n1789 e1792 h1794 fr1795
                  have d1797 : RpAll G1784 (vs1509 ++ [V.ref a1682, V.ref a1709, V.ref a1736, V.ref a1764]) (((faults_1508) ++ ([v1672, v1699, v1726, v1754]) : (List (List PyData))).map (encL encD)) := app_map (RpAll.mono eG1785 (RpAll.mono eG1781 (RpAll.mono eG1759 (RpAll.mono eG1751 (RpAll.mono eG1731 (RpAll.mono eG1723 (RpAll.mono eG1704 (RpAll.mono eG1696 (RpAll.mono eG1677 (RpAll.mono eG1669 d1638)))))))))) (RpAll.mono eG1785 (RpAll.mono eG1781 d1777))
                  have hw := cW_ok hw
                  have hw := hK1650 _ hw
                  exact ⟨_, ((faults_1508) ++ ([v1672, v1699, v1726, v1754])), _, _, rfl, (Same.trans (Same.trans (Same.trans (Same.trans (Same.trans (Same.trans (Same.trans (Same.trans (Same.trans eG1669 eG1677) eG1696) eG1704) eG1723) eG1731) eG1751) eG1759) eG1781) eG1785), S1796, h1794, fr1795, d1797, hw⟩
                · have hw := cW_neg c1657 hw
                  have hw := cW_ok hw
                  have hw := hK1650 _ hw
                  exact ⟨_, (faults_1508), _, _, rfl, (Same.refl _), S1636, h1637, fr1498, d1638, hw⟩
              · intro σ H1798 hw
                obtain ⟨p1647, faults_1646, vs1648, G1803, rfl, eG1804, S1799, h1800, fr1801, d1802, hw⟩ := hw
                unfold F__law_faults_k6 at hw
                refine ⟨fun σ H' => ∃ (p1810 : Addr) (faults_1809 : (List (List PyData))) (vs1811 : List V) (G' : Hp), σ = [some (V.ref a552), some (V.ref a_n), some (V.int (far')), some (V.ref p1810), u1510] ∧ Same G1803 G' ∧ Sep [] H G G' H' [p1810] ∧ H' p1810 = some (.lst (vs1811)) ∧ H p1810 = none ∧ RpAll G' (vs1811) ((faults_1809 : (List (List PyData))).map (encL encD)) ∧ cW (F__law_faults_k7 (p') (n') (far') faults_1809) KK EE, ?_, ?_⟩
                · obtain ⟨K1812, hK1813, hw⟩ := cW_push hw
                  obtain ⟨g1814, hw⟩ := cW_grd hw
                  obtain ⟨v1815, a1816, r1817⟩ := RpAll.ixD (k := 1) (RpAll.mono eG1804 (RpAll.mono eG1640 (RpAll.mono eG1501 (RpAll.mono eG1425 (RpAll.mono eG1323 (RpAll.mono eG1194 (RpAll.mono eG1078 (RpAll.mono eG1074 (RpAll.mono eG1052 (RpAll.mono eG1022 (RpAll.mono eG992 (RpAll.mono eG974 (RpAll.mono eG970 (RpAll.mono eG948 (RpAll.mono eG934 (RpAll.mono eG926 (RpAll.mono eG907 (RpAll.mono eG877 (RpAll.mono eG873 (RpAll.mono eG868 (RpAll.mono eG826 (RpAll.mono eG822 (RpAll.mono eG800 (RpAll.mono eG786 (RpAll.mono eG771 (RpAll.mono eG763 (RpAll.mono eG721 (RpAll.mono eG717 (RpAll.mono eG695 (RpAll.mono eG687 (RpAll.mono eG668 (RpAll.mono eG660 (RpAll.mono eG641 (RpAll.mono eG633 (RpAll.mono eG603 (RpAll.mono eG589 (RpAll.mono eG575 (RpAll.mono eG561 d555)))))))))))))))))))))))))))))))))))))) g1814
                  obtain ⟨g1818, hw⟩ := cW_grd hw
                  have r1819 : Rp G1803 v1815 (PyData.int ((cI).dec ((itD (p') (1))))) := rp_dcast cI g1818 r1817
                  obtain rfl := rp_int r1819
                  refine ⟨_, rfl, _, _, _, _, rfl, rfl, (SqL.of (S1799.sG _ _ (eG1804 _ _ (eG1640 _ _ (eG1501 _ _ (eG1425 _ _ (eG1323 _ _ (eG1194 _ _ (eG1078 _ _ (eG1074 _ _ (eG1052 _ _ (eG1022 _ _ (eG992 _ _ (eG974 _ _ (eG970 _ _ (eG948 _ _ (eG934 _ _ (eG926 _ _ (eG907 _ _ (eG877 _ _ (eG873 _ _ (eG868 _ _ (eG826 _ _ (eG822 _ _ (eG800 _ _ (eG786 _ _ (eG771 _ _ (eG763 _ _ (eG721 _ _ (eG717 _ _ (eG695 _ _ (eG687 _ _ (eG668 _ _ (eG660 _ _ (eG641 _ _ (eG633 _ _ (eG603 _ _ (eG589 _ _ (eG575 _ _ (eG561 _ _ h554)))))))))))))))))))))))))))))))))))))))), a1816, _, _, rfl, rfl, _, rfl, ?_⟩
                  refine iteD (fun c1820 => ?_) (fun c1820 => ?_)
                  · have hw := cW_pos c1820 hw
                    refine ⟨_, rfl, _, rfl, _, rfl, _, rfl, (by show 2 ≤ sizeLine; decide), fun p1821 n1822 => ?_⟩
                    generalize g1823 : upd H1798 p1821 _ = H1824
                    obtain ⟨e1825, h1826⟩ := gen_new n1822 g1823
                    have h1827 : H1824 p1821 = some (.lst (([(-far'), 0] : (List Int)).map V.int)) := h1826
                    have fr1828 := S1799.free n1822
                    have S1829 := S1799.new n1822 e1825 h1827 fr1828
                    obtain ⟨G1830, eG1831, hg1832, S1833⟩ := Sep.freeze (O' := [p1647]) S1829 (.head _) h1827 fr1828 ((all_cons ⟨(.tail _ (.head _)), (ne_of_none h1800 n1822)⟩ all_nil))
                    refine ⟨rfl, rfl, G1830, _, _, _, _, ((encL PyData.int) ([(-far'), 0])), rfl, S1833.sG, (rp_mk_list (eG1831 _ _ (eG1804 _ _ (eG1640 _ _ (eG1501 _ _ (eG1425 _ _ (eG1323 _ _ (eG1194 _ _ (eG1078 _ _ (eG1074 _ _ (eG1052 _ _ (eG1022 _ _ (eG992 _ _ (eG974 _ _ (eG970 _ _ (eG948 _ _ (eG934 _ _ (eG926 _ _ (eG907 _ _ (eG877 _ _ (eG873 _ _ (eG868 _ _ (eG826 _ _ (eG822 _ _ (eG800 _ _ (eG786 _ _ (eG771 _ _ (eG763 _ _ (eG721 _ _ (eG717 _ _ (eG695 _ _ (eG687 _ _ (eG668 _ _ (eG660 _ _ (eG641 _ _ (eG633 _ _ (eG603 _ _ (eG589 _ _ (eG575 _ _ (eG561 _ _ h554))))))))))))))))))))))))))))))))))))))) (RpAll.mono eG1831 (RpAll.mono eG1804 (RpAll.mono eG1640 (RpAll.mono eG1501 (RpAll.mono eG1425 (RpAll.mono eG1323 (RpAll.mono eG1194 (RpAll.mono eG1078 (RpAll.mono eG1074 (RpAll.mono eG1052 (RpAll.mono eG1022 (RpAll.mono eG992 (RpAll.mono eG974 (RpAll.mono eG970 (RpAll.mono eG948 (RpAll.mono eG934 (RpAll.mono eG926 (RpAll.mono eG907 (RpAll.mono eG877 (RpAll.mono eG873 (RpAll.mono eG868 (RpAll.mono eG826 (RpAll.mono eG822 (RpAll.mono eG800 (RpAll.mono eG786 (RpAll.mono eG771 (RpAll.mono eG763 (RpAll.mono eG721 (RpAll.mono eG717 (RpAll.mono eG695 (RpAll.mono eG687 (RpAll.mono eG668 (RpAll.mono eG660 (RpAll.mono eG641 (RpAll.mono eG633 (RpAll.mono eG603 (RpAll.mono eG589 (RpAll.mono eG575 (RpAll.mono eG561 d555)))))))))))))))))))))))))))))))))))))))), (rp_mk_ints hg1832), cW_call hw (fun v1834 hw v1837 H1835 G1838 e1836 eG1839 sG1840 hn1841 r1842 => ?_) (fun e he H2 e2 => hE e he H2 (Same.trans S1833.b0 e2))⟩
                    have S1843 := S1833.step e1836 eG1839 sG1840 hn1841
                    obtain ⟨a1844, vs1845, rfl, h1846, d1847⟩ := rp_list r1842
                    refine ⟨_, rfl, _, rfl, _, rfl, (by show 2 ≤ sizeLine; decide), fun p1848 n1849 => ?_⟩
                    generalize g1850 : upd H1835 p1848 _ = H1851
                    obtain ⟨e1852, h1853⟩ := gen_new n1849 g1850
                    have h1854 : H1851 p1848 = some (.lst (([0, (-far')] : (List Int)).map V.int)) := h1853
                    have fr1855 := S1843.free n1849
                    have S1856 := S1843.new n1849 e1852 h1854 fr1855
                    obtain ⟨G1857, eG1858, hg1859, S1860⟩ := Sep.freeze (O' := [p1647]) S1856 (.head _) h1854 fr1855 ((all_cons ⟨(.tail _ (.head _)), (ne_of_none (e1836 _ _ (e1825 _ _ h1800)) n1849)⟩ all_nil))
                    refine ⟨rfl, rfl, G1857, _, _, _, _, ((encL PyData.int) ([0, (-far')])), rfl, S1860.sG, (rp_mk_list (eG1858 _ _ (eG1839 _ _ (eG1831 _ _ (eG1804 _ _ (eG1640 _ _ (eG1501 _ _ (eG1425 _ _ (eG1323 _ _ (eG1194 _ _ (eG1078 _ _ (eG1074 _ _ (eG1052 _ _ (eG1022 _ _ (eG992 _ _ (eG974 _ _ (eG970 _ _ (eG948 _ _ (eG934 _ _ (eG926 _ _ (eG907 _ _ (eG877 _ _ (eG873 _ _ (eG868 _ _ (eG826 _ _ (eG822 _ _ (eG800 _ _ (eG786 _ _ (eG771 _ _ (eG763 _ _ (eG721 _ _ (eG717 _ _ (eG695 _ _ (eG687 _ _ (eG668 _ _ (eG660 _ _ (eG641 _ _ (eG633 _ _ (eG603 _ _ (eG589 _ _ (eG575 _ _ (eG561 _ _ h554))))))))))))))))))))))))))))))))))))))))) (RpAll.mono eG1858 (RpAll.mono eG1839 (RpAll.mono eG1831 (RpAll.mono eG1804 (RpAll.mono eG1640 (RpAll.mono eG1501 (RpAll.mono eG1425 (RpAll.mono eG1323 (RpAll.mono eG1194 (RpAll.mono eG1078 (RpAll.mono eG1074 (RpAll.mono eG1052 (RpAll.mono eG1022 (RpAll.mono eG992 (RpAll.mono eG974 (RpAll.mono eG970 (RpAll.mono eG948 (RpAll.mono eG934 (RpAll.mono eG926 (RpAll.mono eG907 (RpAll.mono eG877 (RpAll.mono eG873 (RpAll.mono eG868 (RpAll.mono eG826 (RpAll.mono eG822 (RpAll.mono eG800 (RpAll.mono eG786 (RpAll.mono eG771 (RpAll.mono eG763 (RpAll.mono eG721 (RpAll.mono eG717 (RpAll.mono eG695 (RpAll.mono eG687 (RpAll.mono eG668 (RpAll.mono eG660 (RpAll.mono eG641 (RpAll.mono eG633 (RpAll.mono eG603 (RpAll.mono eG589 (RpAll.mono eG575 (RpAll.mono eG561 d555)))))))))))))))))))))))))))))))))))))))))), (rp_mk_ints hg1859), cW_call hw (fun v1861 hw v1864 H1862 G1865 e1863 eG1866 sG1867 hn1868 r1869 => ?_) (fun e he H2 e2 => hE e he H2 (Same.trans S1860.b0 e2))⟩
                    have S1870 := S1860.step e1863 eG1866 sG1867 hn1868
                    obtain ⟨a1871, vs1872, rfl, h1873, d1874⟩ := rp_list r1869
                    obtain ⟨g1875, hw⟩ := cW_grd hw
                    refine ⟨_, rfl, _, rfl, _, _, _, _, rfl, rfl, (SqL.of (S1870.bM _ _ q_n)), (atI_map g1875), (by show 2 ≤ sizeLine; decide), fun p1876 n1877 => ?_⟩
                    generalize g1878 : upd H1862 p1876 _ = H1879
                    obtain ⟨e1880, h1881⟩ := gen_new n1877 g1878
                    have h1882 : H1879 p1876 = some (.lst (([(itD (n') (4)), 0] : (List Int)).map V.int)) := h1881
                    have fr1883 := S1870.free n1877
                    have S1884 := S1870.new n1877 e1880 h1882 fr1883
                    obtain ⟨G1885, eG1886, hg1887, S1888⟩ := Sep.freeze (O' := [p1647]) S1884 (.head _) h1882 fr1883 ((all_cons ⟨(.tail _ (.head _)), (ne_of_none (e1863 _ _ (e1852 _ _ (e1836 _ _ (e1825 _ _ h1800)))) n1877)⟩ all_nil))
                    refine ⟨rfl, rfl, G1885, _, _, _, _, ((encL PyData.int) ([(itD (n') (4)), 0])), rfl, S1888.sG, (rp_mk_list (eG1886 _ _ (eG1866 _ _ (eG1858 _ _ (eG1839 _ _ (eG1831 _ _ (eG1804 _ _ (eG1640 _ _ (eG1501 _ _ (eG1425 _ _ (eG1323 _ _ (eG1194 _ _ (eG1078 _ _ (eG1074 _ _ (eG1052 _ _ (eG1022 _ _ (eG992 _ _ (eG974 _ _ (eG970 _ _ (eG948 _ _ (eG934 _ _ (eG926 _ _ (eG907 _ _ (eG877 _ _ (eG873 _ _ (eG868 _ _ (eG826 _ _ (eG822 _ _ (eG800 _ _ (eG786 _ _ (eG771 _ _ (eG763 _ _ (eG721 _ _ (eG717 _ _ (eG695 _ _ (eG687 _ _ (eG668 _ _ (eG660 _ _ (eG641 _ _ (eG633 _ _ (eG603 _ _ (eG589 _ _ (eG575 _ _ (eG561 _ _ h554))))))))))))))))))))))))))))))))))))))))))) (RpAll.mono eG1886 (RpAll.mono eG1866 (RpAll.mono eG1858 (RpAll.mono eG1839 (RpAll.mono eG1831 (RpAll.mono eG1804 (RpAll.mono eG1640 (RpAll.mono eG1501 (RpAll.mono eG1425 (RpAll.mono eG1323 (RpAll.mono eG1194 (RpAll.mono eG1078 (RpAll.mono eG1074 (RpAll.mono eG1052 (RpAll.mono eG1022 (RpAll.mono eG992 (RpAll.mono eG974 (RpAll.mono eG970 (RpAll.mono eG948 (RpAll.mono eG934 (RpAll.mono eG926 (RpAll.mono eG907 (RpAll.mono eG877 (RpAll.mono eG873 (RpAll.mono eG868 (RpAll.mono eG826 (RpAll.mono eG822 (RpAll.mono eG800 (RpAll.mono eG786 (RpAll.mono eG771 (RpAll.mono eG763 (RpAll.mono eG721 (RpAll.mono eG717 (RpAll.mono eG695 (RpAll.mono eG687 (RpAll.mono eG668 (RpAll.mono eG660 (RpAll.mono eG641 (RpAll.mono eG633 (RpAll.mono eG603 (RpAll.mono eG589 (RpAll.mono eG575 (RpAll.mono eG561 d555)))))))))))))))))))))))))))))))))))))))))))), (rp_mk_ints hg1887), cW_call hw (fun v1889 hw v1892 H1890 G1893 e1891 eG1894 sG1895 hn1896 r1897 => ?_) (fun e he H2 e2 => hE e he H2 (Same.trans S1888.b0 e2))⟩
                    have S1898 := S1888.step e1891 eG1894 sG1895 hn1896
                    obtain ⟨a1899, vs1900, rfl, h1901, d1902⟩ := rp_list r1897
                    refine ⟨(by show 3 ≤ sizeLine; decide), fun p1903 n1904 => ?_⟩
                    generalize g1905 : upd H1890 p1903 _ = H1906
                    obtain ⟨e1907, h1908⟩ := gen_new n1904 g1905
                    have h1909 : H1906 p1903 = some (.lst ([V.ref a1844, V.ref a1871, V.ref a1899])) := h1908
                    have fr1910 := S1898.free n1904
                    have S1911 := S1898.new n1904 e1907 h1909 fr1910
                    have d1912 : RpAll G1893 ([V.ref a1844, V.ref a1871, V.ref a1899]) (([v1834, v1861, v1889] : (List (List PyData))).map (encL encD)) := (RpAll.cons (rp_mk_list (eG1894 _ _ (eG1886 _ _ (eG1866 _ _ (eG1858 _ _ h1846)))) (RpAll.mono eG1894 (RpAll.mono eG1886 (RpAll.mono eG1866 (RpAll.mono eG1858 d1847))))) (RpAll.cons (rp_mk_list (eG1894 _ _ (eG1886 _ _ h1873)) (RpAll.mono eG1894 (RpAll.mono eG1886 d1874))) (RpAll.cons (rp_mk_list h1901 d1902) RpAll.nil)))
                    obtain ⟨g1913, hw⟩ := cW_grd hw
                    have h1914 := (e1907 _ _ (e1891 _ _ (e1880 _ _ (e1863 _ _ (e1852 _ _ (e1836 _ _ (e1825 _ _ h1800)))))))
                    obtain ⟨G1915, eG1916, hg1917, S1918⟩ := Sep.freeze (O' := [p1903]) S1911 (.tail _ (.head _)) h1914 fr1801 ((all_cons ⟨(.head _), (ne_of_none (e1891 _ _ (e1880 _ _ (e1863 _ _ (e1852 _ _ (e1836 _ _ (e1825 _ _ h1800)))))) n1904).symm⟩ all_nil))
                    obtain ⟨G1919, eG1920, hg1921, S1922⟩ := Sep.freeze (O' := []) S1918 (.head _) h1909 fr1910 (all_nil)
                    refine ⟨_, _, _, _, rfl, rfl, h1914, h1909, (cat_len (RpAll.mono eG1894 (RpAll.mono eG1886 (RpAll.mono eG1866 (RpAll.mono eG1858 (RpAll.mono eG1839 (RpAll.mono eG1831 d1802)))))) d1912 g1913), fun p1923 n1924 => ?_⟩
                    generalize g1925 : upd H1906 p1923 _ = H1926
                    obtain ⟨e1927, h1928⟩ := gen_new n1924 g1925
                    have h1929 : H1926 p1923 = some (.lst (vs1648 ++ [V.ref a1844, V.ref a1871, V.ref a1899])) := h1928
                    have fr1930 := S1922.free n1924
                    have S1931 := S1922.new n1924 e1927 h1929 fr1930
                    have d1932 : RpAll G1919 (vs1648 ++ [V.ref a1844, V.ref a1871, V.ref a1899]) (((faults_1646) ++ ([v1834, v1861, v1889]) : (List (List PyData))).map (encL encD)) := app_map (RpAll.mono eG1920 (RpAll.mono eG1916 (RpAll.mono eG1894 (RpAll.mono eG1886 (RpAll.mono eG1866 (RpAll.mono eG1858 (RpAll.mono eG1839 (RpAll.mono eG1831 d1802)))))))) (RpAll.mono eG1920 (RpAll.mono eG1916 d1912))
                    have hw := cW_ok hw
                    have hw := hK1813 _ hw
                    exact ⟨_, ((faults_1646) ++ ([v1834, v1861, v1889])), _, _, rfl, (Same.trans (Same.trans (Same.trans (Same.trans (Same.trans (Same.trans (Same.trans eG1831 eG1839) eG1858) eG1866) eG1886) eG1894) eG1916) eG1920), S1931, h1929, fr1930, d1932, hw⟩
                  · have hw := cW_neg c1820 hw
                    have hw := cW_ok hw
                    have hw := hK1813 _ hw
                    exact ⟨_, (faults_1646), _, _, rfl, (Same.refl _), S1799, h1800, fr1801, d1802, hw⟩
                · intro σ H1933 hw
                  obtain ⟨p1810, faults_1809, vs1811, G1938, rfl, eG1939, S1934, h1935, fr1936, d1937, hw⟩ := hw
                  unfold F__law_faults_k7 at hw
                  refine ⟨fun σ H' => ∃ (p1942 : Addr) (faults_1941 : (List (List PyData))) (vs1943 : List V) (G' : Hp), σ = [some (V.ref a552), some (V.ref a_n), some (V.int (far')), some (V.ref p1942), u1510] ∧ Same G1938 G' ∧ Sep [] H G G' H' [p1942] ∧ H' p1942 = some (.lst (vs1943)) ∧ H p1942 = none ∧ RpAll G' (vs1943) ((faults_1941 : (List (List PyData))).map (encL encD)) ∧ cW (F__law_faults_k8  faults_1941) KK EE, ?_, ?_⟩
                  · obtain ⟨K1944, hK1945, hw⟩ := cW_push hw
                    obtain ⟨g1946, hw⟩ := cW_grd hw
                    obtain ⟨v1947, a1948, r1949⟩ := RpAll.ixD (k := 1) (RpAll.mono eG1939 (RpAll.mono eG1804 (RpAll.mono eG1640 (RpAll.mono eG1501 (RpAll.mono eG1425 (RpAll.mono eG1323 (RpAll.mono eG1194 (RpAll.mono eG1078 (RpAll.mono eG1074 (RpAll.mono eG1052 (RpAll.mono eG1022 (RpAll.mono eG992 (RpAll.mono eG974 (RpAll.mono eG970 (RpAll.mono eG948 (RpAll.mono eG934 (RpAll.mono eG926 (RpAll.mono eG907 (RpAll.mono eG877 (RpAll.mono eG873 (RpAll.mono eG868 (RpAll.mono eG826 (RpAll.mono eG822 (RpAll.mono eG800 (RpAll.mono eG786 (RpAll.mono eG771 (RpAll.mono eG763 (RpAll.mono eG721 (RpAll.mono eG717 (RpAll.mono eG695 (RpAll.mono eG687 (RpAll.mono eG668 (RpAll.mono eG660 (RpAll.mono eG641 (RpAll.mono eG633 (RpAll.mono eG603 (RpAll.mono eG589 (RpAll.mono eG575 (RpAll.mono eG561 d555))))))))))))))))))))))))))))))))))))))) g1946
                    obtain ⟨g1950, hw⟩ := cW_grd hw
                    have r1951 : Rp G1938 v1947 (PyData.int ((cI).dec ((itD (p') (1))))) := rp_dcast cI g1950 r1949
                    obtain rfl := rp_int r1951
                    refine ⟨_, rfl, _, _, _, _, rfl, rfl, (SqL.of (S1934.sG _ _ (eG1939 _ _ (eG1804 _ _ (eG1640 _ _ (eG1501 _ _ (eG1425 _ _ (eG1323 _ _ (eG1194 _ _ (eG1078 _ _ (eG1074 _ _ (eG1052 _ _ (eG1022 _ _ (eG992 _ _ (eG974 _ _ (eG970 _ _ (eG948 _ _ (eG934 _ _ (eG926 _ _ (eG907 _ _ (eG877 _ _ (eG873 _ _ (eG868 _ _ (eG826 _ _ (eG822 _ _ (eG800 _ _ (eG786 _ _ (eG771 _ _ (eG763 _ _ (eG721 _ _ (eG717 _ _ (eG695 _ _ (eG687 _ _ (eG668 _ _ (eG660 _ _ (eG641 _ _ (eG633 _ _ (eG603 _ _ (eG589 _ _ (eG575 _ _ (eG561 _ _ h554))))))))))))))))))))))))))))))))))))))))), a1948, _, _, rfl, rfl, _, rfl, ?_⟩
                    refine iteD (fun c1952 => ?_) (fun c1952 => ?_)
                    · have hw := cW_pos c1952 hw
                      obtain ⟨g1953, hw⟩ := cW_grd hw
                      refine ⟨_, rfl, _, rfl, _, rfl, _, _, _, _, rfl, rfl, (SqL.of (S1934.bM _ _ q_n)), (atI_map g1953), _, _, rfl, rfl, _, rfl, _, _, rfl, rfl, (by show 2 ≤ sizeLine; decide), fun p1954 n1955 => ?_⟩
                      generalize g1956 : upd H1933 p1954 _ = H1957
                      obtain ⟨e1958, h1959⟩ := gen_new n1955 g1956
                      have h1960 : H1957 p1954 = some (.lst (([(((itD (n') (4)) - 1) + far'), 0] : (List Int)).map V.int)) := h1959
                      have fr1961 := S1934.free n1955
                      have S1962 := S1934.new n1955 e1958 h1960 fr1961
                      obtain ⟨G1963, eG1964, hg1965, S1966⟩ := Sep.freeze (O' := [p1810]) S1962 (.head _) h1960 fr1961 ((all_cons ⟨(.tail _ (.head _)), (ne_of_none h1935 n1955)⟩ all_nil))
                      refine ⟨rfl, rfl, G1963, _, _, _, _, ((encL PyData.int) ([(((itD (n') (4)) - 1) + far'), 0])), rfl, S1966.sG, (rp_mk_list (eG1964 _ _ (eG1939 _ _ (eG1804 _ _ (eG1640 _ _ (eG1501 _ _ (eG1425 _ _ (eG1323 _ _ (eG1194 _ _ (eG1078 _ _ (eG1074 _ _ (eG1052 _ _ (eG1022 _ _ (eG992 _ _ (eG974 _ _ (eG970 _ _ (eG948 _ _ (eG934 _ _ (eG926 _ _ (eG907 _ _ (eG877 _ _ (eG873 _ _ (eG868 _ _ (eG826 _ _ (eG822 _ _ (eG800 _ _ (eG786 _ _ (eG771 _ _ (eG763 _ _ (eG721 _ _ (eG717 _ _ (eG695 _ _ (eG687 _ _ (eG668 _ _ (eG660 _ _ (eG641 _ _ (eG633 _ _ (eG603 _ _ (eG589 _ _ (eG575 _ _ (eG561 _ _ h554)))))))))))))))))))))))))))))))))))))))) (RpAll.mono eG1964 (RpAll.mono eG1939 (RpAll.mono eG1804 (RpAll.mono eG1640 (RpAll.mono eG1501 (RpAll.mono eG1425 (RpAll.mono eG1323 (RpAll.mono eG1194 (RpAll.mono eG1078 (RpAll.mono eG1074 (RpAll.mono eG1052 (RpAll.mono eG1022 (RpAll.mono eG992 (RpAll.mono eG974 (RpAll.mono eG970 (RpAll.mono eG948 (RpAll.mono eG934 (RpAll.mono eG926 (RpAll.mono eG907 (RpAll.mono eG877 (RpAll.mono eG873 (RpAll.mono eG868 (RpAll.mono eG826 (RpAll.mono eG822 (RpAll.mono eG800 (RpAll.mono eG786 (RpAll.mono eG771 (RpAll.mono eG763 (RpAll.mono eG721 (RpAll.mono eG717 (RpAll.mono eG695 (RpAll.mono eG687 (RpAll.mono eG668 (RpAll.mono eG660 (RpAll.mono eG641 (RpAll.mono eG633 (RpAll.mono eG603 (RpAll.mono eG589 (RpAll.mono eG575 (RpAll.mono eG561 d555))))))))))))))))))))))))))))))))))))))))), (rp_mk_ints hg1965), cW_call hw (fun v1967 hw v1970 H1968 G1971 e1969 eG1972 sG1973 hn1974 r1975 => ?_) (fun e he H2 e2 => hE e he H2 (Same.trans S1966.b0 e2))⟩
                      have S1976 := S1966.step e1969 eG1972 sG1973 hn1974
                      obtain ⟨a1977, vs1978, rfl, h1979, d1980⟩ := rp_list r1975
                      obtain ⟨g1981, hw⟩ := cW_grd hw
                      refine ⟨_, rfl, _, rfl, _, _, _, _, rfl, rfl, (SqL.of (S1976.bM _ _ q_n)), (atI_map g1981), (by show 2 ≤ sizeLine; decide), fun p1982 n1983 => ?_⟩
                      generalize g1984 : upd H1968 p1982 _ = H1985
                      obtain ⟨e1986, h1987⟩ := gen_new n1983 g1984
                      have h1988 : H1985 p1982 = some (.lst (([0, (itD (n') (4))] : (List Int)).map V.int)) := h1987
                      have fr1989 := S1976.free n1983
                      have S1990 := S1976.new n1983 e1986 h1988 fr1989
                      obtain ⟨G1991, eG1992, hg1993, S1994⟩ := Sep.freeze (O' := [p1810]) S1990 (.head _) h1988 fr1989 ((all_cons ⟨(.tail _ (.head _)), (ne_of_none (e1969 _ _ (e1958 _ _ h1935)) n1983)⟩ all_nil))
                      refine ⟨rfl, rfl, G1991, _, _, _, _, ((encL PyData.int) ([0, (itD (n') (4))])), rfl, S1994.sG, (rp_mk_list (eG1992 _ _ (eG1972 _ _ (eG1964 _ _ (eG1939 _ _ (eG1804 _ _ (eG1640 _ _ (eG1501 _ _ (eG1425 _ _ (eG1323 _ _ (eG1194 _ _ (eG1078 _ _ (eG1074 _ _ (eG1052 _ _ (eG1022 _ _ (eG992 _ _ (eG974 _ _ (eG970 _ _ (eG948 _ _ (eG934 _ _ (eG926 _ _ (eG907 _ _ (eG877 _ _ (eG873 _ _ (eG868 _ _ (eG826 _ _ (eG822 _ _ (eG800 _ _ (eG786 _ _ (eG771 _ _ (eG763 _ _ (eG721 _ _ (eG717 _ _ (eG695 _ _ (eG687 _ _ (eG668 _ _ (eG660 _ _ (eG641 _ _ (eG633 _ _ (eG603 _ _ (eG589 _ _ (eG575 _ _ (eG561 _ _ h554)))))))))))))))))))))))))))))))))))))))))) (RpAll.mono eG1992 (RpAll.mono eG1972 (RpAll.mono eG1964 (RpAll.mono eG1939 (RpAll.mono eG1804 (RpAll.mono eG1640 (RpAll.mono eG1501 (RpAll.mono eG1425 (RpAll.mono eG1323 (RpAll.mono eG1194 (RpAll.mono eG1078 (RpAll.mono eG1074 (RpAll.mono eG1052 (RpAll.mono eG1022 (RpAll.mono eG992 (RpAll.mono eG974 (RpAll.mono eG970 (RpAll.mono eG948 (RpAll.mono eG934 (RpAll.mono eG926 (RpAll.mono eG907 (RpAll.mono eG877 (RpAll.mono eG873 (RpAll.mono eG868 (RpAll.mono eG826 (RpAll.mono eG822 (RpAll.mono eG800 (RpAll.mono eG786 (RpAll.mono eG771 (RpAll.mono eG763 (RpAll.mono eG721 (RpAll.mono eG717 (RpAll.mono eG695 (RpAll.mono eG687 (RpAll.mono eG668 (RpAll.mono eG660 (RpAll.mono eG641 (RpAll.mono eG633 (RpAll.mono eG603 (RpAll.mono eG589 (RpAll.mono eG575 (RpAll.mono eG561 d555))))))))))))))))))))))))))))))))))))))))))), (rp_mk_ints hg1993), cW_call hw (fun v1995 hw v1998 H1996 G1999 e1997 eG2000 sG2001 hn2002 r2003 => ?_) (fun e he H2 e2 => hE e he H2 (Same.trans S1994.b0 e2))⟩
                      have S2004 := S1994.step e1997 eG2000 sG2001 hn2002
                      obtain ⟨a2005, vs2006, rfl, h2007, d2008⟩ := rp_list r2003
                      refine ⟨_, rfl, _, rfl, _, rfl, (by show 2 ≤ sizeLine; decide), fun p2009 n2010 => ?_⟩
                      generalize g2011 : upd H1996 p2009 _ = H2012
                      obtain ⟨e2013, h2014⟩ := gen_new n2010 g2011
                      have h2015 : H2012 p2009 = some (.lst (([0, (-far')] : (List Int)).map V.int)) := h2014
                      have fr2016 := S2004.free n2010
                      have S2017 := S2004.new n2010 e2013 h2015 fr2016
                      obtain ⟨G2018, eG2019, hg2020, S2021⟩ := Sep.freeze (O' := [p1810]) S2017 (.head _) h2015 fr2016 ((all_cons ⟨(.tail _ (.head _)), (ne_of_none (e1997 _ _ (e1986 _ _ (e1969 _ _ (e1958 _ _ h1935)))) n2010)⟩ all_nil))
                      refine ⟨rfl, rfl, G2018, _, _, _, _, ((encL PyData.int) ([0, (-far')])), rfl, S2021.sG, (rp_mk_list (eG2019 _ _ (eG2000 _ _ (eG1992 _ _ (eG1972 _ _ (eG1964 _ _ (eG1939 _ _ (eG1804 _ _ (eG1640 _ _ (eG1501 _ _ (eG1425 _ _ (eG1323 _ _ (eG1194 _ _ (eG1078 _ _ (eG1074 _ _ (eG1052 _ _ (eG1022 _ _ (eG992 _ _ (eG974 _ _ (eG970 _ _ (eG948 _ _ (eG934 _ _ (eG926 _ _ (eG907 _ _ (eG877 _ _ (eG873 _ _ (eG868 _ _ (eG826 _ _ (eG822 _ _ (eG800 _ _ (eG786 _ _ (eG771 _ _ (eG763 _ _ (eG721 _ _ (eG717 _ _ (eG695 _ _ (eG687 _ _ (eG668 _ _ (eG660 _ _ (eG641 _ _ (eG633 _ _ (eG603 _ _ (eG589 _ _ (eG575 _ _ (eG561 _ _ h554)))))))))))))))))))))))))))))))))))))))))))) (RpAll.mono eG2019 (RpAll.mono eG2000 (RpAll.mono eG1992 (RpAll.mono eG1972 (RpAll.mono eG1964 (RpAll.mono eG1939 (RpAll.mono eG1804 (RpAll.mono eG1640 (RpAll.mono eG1501 (RpAll.mono eG1425 (RpAll.mono eG1323 (RpAll.mono eG1194 (RpAll.mono eG1078 (RpAll.mono eG1074 (RpAll.mono eG1052 (RpAll.mono eG1022 (RpAll.mono eG992 (RpAll.mono eG974 (RpAll.mono eG970 (RpAll.mono eG948 (RpAll.mono eG934 (RpAll.mono eG926 (RpAll.mono eG907 (RpAll.mono eG877 (RpAll.mono eG873 (RpAll.mono eG868 (RpAll.mono eG826 (RpAll.mono eG822 (RpAll.mono eG800 (RpAll.mono eG786 (RpAll.mono eG771 (RpAll.mono eG763 (RpAll.mono eG721 (RpAll.mono eG717 (RpAll.mono eG695 (RpAll.mono eG687 (RpAll.mono eG668 (RpAll.mono eG660 (RpAll.mono eG641 (RpAll.mono eG633 (RpAll.mono eG603 (RpAll.mono eG589 (RpAll.mono eG575 (RpAll.mono eG561 d555))))))))))))))))))))))))))))))))))))))))))))), (rp_mk_ints hg2020), cW_call hw (fun v2022 hw v2025 H2023 G2026 e2024 eG2027 sG2028 hn2029 r2030 => ?_) (fun e he H2 e2 => hE e he H2 (Same.trans S2021.b0 e2))⟩
                      have S2031 := S2021.step e2024 eG2027 sG2028 hn2029
                      obtain ⟨a2032, vs2033, rfl, h2034, d2035⟩ := rp_list r2030
                      refine ⟨(by show 3 ≤ sizeLine; decide), fun p2036 n2037 => ?_⟩
                      generalize g2038 : upd H2023 p2036 _ = H2039
                      obtain ⟨e2040, h2041⟩ := gen_new n2037 g2038
                      have h2042 : H2039 p2036 = some (.lst ([V.ref a1977, V.ref a2005, V.ref a2032])) := h2041
                      have fr2043 := S2031.free n2037
                      have S2044 := S2031.new n2037 e2040 h2042 fr2043
                      have d2045 : RpAll G2026 ([V.ref a1977, V.ref a2005, V.ref a2032]) (([v1967, v1995, v2022] : (List (List PyData))).map (encL encD)) := (RpAll.cons (rp_mk_list (eG2027 _ _ (eG2019 _ _ (eG2000 _ _ (eG1992 _ _ h1979)))) (RpAll.mono eG2027 (RpAll.mono eG2019 (RpAll.mono eG2000 (RpAll.mono eG1992 d1980))))) (RpAll.cons (rp_mk_list (eG2027 _ _ (eG2019 _ _ h2007)) (RpAll.mono eG2027 (RpAll.mono eG2019 d2008))) (RpAll.cons (rp_mk_list h2034 d2035) RpAll.nil)))
                      obtain ⟨g2046, hw⟩ := cW_grd hw
                      have h2047 := (e2040 _ _ (e2024 _ _ (e2013 _ _ (e1997 _ _ (e1986 _ _ (e1969 _ _ (e1958 _ _ h1935)))))))
                      obtain ⟨G2048, eG2049, hg2050, S2051⟩ := Sep.freeze (O' := [p2036]) S2044 (.tail _ (.head _)) h2047 fr1936 ((all_cons ⟨(.head _), (ne_of_none (e2024 _ _ (e2013 _ _ (e1997 _ _ (e1986 _ _ (e1969 _ _ (e1958 _ _ h1935)))))) n2037).symm⟩ all_nil))
                      obtain ⟨G2052, eG2053, hg2054, S2055⟩ := Sep.freeze (O' := []) S2051 (.head _) h2042 fr2043 (all_nil)
                      refine ⟨_, _, _, _, rfl, rfl, h2047, h2042, (cat_len (RpAll.mono eG2027 (RpAll.mono eG2019 (RpAll.mono eG2000 (RpAll.mono eG1992 (RpAll.mono eG1972 (RpAll.mono eG1964 d1937)))))) d2045 g2046), fun p2056 n2057 => ?_⟩
                      generalize g2058 : upd H2039 p2056 _ = H2059
                      obtain ⟨e2060, h2061⟩ := gen_new n2057 g2058
                      have h2062 : H2059 p2056 = some (.lst (vs1811 ++ [V.ref a1977, V.ref a2005, V.ref a2032])) := h2061
                      have fr2063 := S2055.free n2057
                      have S2064 := S2055.new n2057 e2060 h2062 fr2063
                      have d2065 : RpAll G2052 (vs1811 ++ [V.ref a1977, V.ref a2005, V.ref a2032]) (((faults_1809) ++ ([v1967, v1995, v2022]) : (List (List PyData))).map (encL encD)) := app_map (RpAll.mono eG2053 (RpAll.mono eG2049 (RpAll.mono eG2027 (RpAll.mono eG2019 (RpAll.mono eG2000 (RpAll.mono eG1992 (RpAll.mono eG1972 (RpAll.mono eG1964 d1937)))))))) (RpAll.mono eG2053 (RpAll.mono eG2049 d2045))
                      have hw := cW_ok hw
                      have hw := hK1945 _ hw
                      exact ⟨_, ((faults_1809) ++ ([v1967, v1995, v2022])), _, _, rfl, (Same.trans (Same.trans (Same.trans (Same.trans (Same.trans (Same.trans (Same.trans eG1964 eG1972) eG1992) eG2000) eG2019) eG2027) eG2049) eG2053), S2064, h2062, fr2063, d2065, hw⟩
                    · have hw := cW_neg c1952 hw
                      have hw := cW_ok hw
                      have hw := hK1945 _ hw
                      exact ⟨_, (faults_1809), _, _, rfl, (Same.refl _), S1934, h1935, fr1936, d1937, hw⟩
                  · intro σ H2066 hw
                    obtain ⟨p1942, faults_1941, vs1943, G2071, rfl, eG2072, S2067, h2068, fr2069, d2070, hw⟩ := hw
                    unfold F__law_faults_k8 at hw
                    refine ⟨_, rfl, ?_⟩
                    obtain ⟨G2073, eG2074, hg2075, S2076⟩ := Sep.freeze (O' := []) S2067 (.head _) h2068 fr2069 (all_nil)
                    have hw := cW_ok hw
                    exact hK0 _ hw _ _ _ S2076.b0 S2076.g0 S2076.sG S2076.gn (rp_mk_list hg2075 (RpAll.mono eG2074 d2070))

abbrev N__law_cell : List Str := ["script", "k"]
theorem sc__law_cell : FnScope N__law_cell ["script", "k"] (defScope s__law_cell) := ⟨rfl, rfl, rfl, by decide +kernel, rfl, by decide +kernel, by decide +kernel⟩
theorem ok__law_cell (D : DefX K mg "_law_cell" s__law_cell ["script", "k"] pats__law_cell) (T : Txt w K mg AD)  : CalX P w K mg base 1 "_law_cell" (sp__law_cell K AD) pats__law_cell := by
  refine D.ok sc__law_cell (fun vs H Q E h => ?_) (fun f cdv A_ outer s H vs Q E hr h => ?_)
  · obtain ⟨G, a_script, script', k', rfl, _⟩ := h
    rfl
  · obtain ⟨G, a_script, script', k', rfl, sG, q_script, hw⟩ := h
    refine ⟨_, (pss_cons (ps_if (pt_cmp (pc_lt (pv 1) (pe_callB (call_lenLiK (K := K)) (by rfl) T.b_len (by decide +kernel) (pa_cons (pv 0) pa_nil)))) (pss_one (ps_ret (pe_callTy call_int1 (by rfl) T.b_int (by decide +kernel) (pa_cons (pe_ix (ix_listK (K := K)) (pv 0) (pv 1) (fun _ _ => rfl)) pa_nil)))) pss_nil)
      (pss_one (ps_ret pe_int))), ?_⟩
    obtain ⟨KK, EE, hK0, hE, hw⟩ := cW_gen hw
    have S0 := Sep.startG sG
    unfold F__law_cell at hw
    refine ⟨_, rfl, _, rfl, _, _, rfl, (S0.b0.seq q_script), _, _, rfl, rfl, _, rfl, ?_⟩
    refine iteD (fun c2077 => ?_) (fun c2077 => ?_)
    · have hw := cW_pos c2077 hw
      obtain ⟨g2078, hw⟩ := cW_grd hw
      refine ⟨_, rfl, _, rfl, _, _, _, _, rfl, rfl, (S0.b0.seq q_script), (atI_map g2078), .inl ⟨_, rfl, ?_⟩⟩
      have hw := cW_ok hw
      exact hK0 _ hw
    · have hw := cW_neg c2077 hw
      have hw := cW_ok hw
      exact hK0 _ hw

abbrev N_Format_blocks : List Str := ["self"]
theorem sc_Format_blocks : FnScope N_Format_blocks ["self"] (defScope s_Format_blocks) := ⟨rfl, rfl, rfl, by decide +kernel, rfl, by decide +kernel, by decide +kernel⟩
theorem ok_Format_blocks (D : MethX K AD.c_Format "Format.blocks" "blocks" s_Format_blocks ["self"] pats_Format_blocks) (T : Txt w K mg AD)  : MetX P w K mg base 1 AD.c_Format "blocks" (sp_Format_blocks K AD) pats_Format_blocks := by
  refine D.ok T.cl_Format sc_Format_blocks (fun vs H Q E h => ?_) (fun f cdv A_ outer s H vs Q E hr h => ?_)
  · obtain ⟨G, p_self, dx_self, self', rfl, _⟩ := h
    rfl
  · obtain ⟨G, p_self, dx_self, self', rfl, sG, h_p_self, hw⟩ := h
    refine ⟨_, (pss_one (ps_ret (pe_tup (pa_cons (pe_op op_fdivW (pe_op op_sub (pe_op op_add (fldK (K := K) (pv 0)) (C8.pe_gc rfl T.g_BLOCK)) pe_int) (C8.pe_gc rfl T.g_BLOCK)) (pa_cons (pe_op op_fdivW (pe_op op_sub (pe_op op_add (fldK (K := K) (pv 0)) (C8.pe_gc rfl T.g_BLOCK)) pe_int) (C8.pe_gc rfl T.g_BLOCK)) pa_nil))))), ?_⟩
    obtain ⟨KK, EE, hK0, hE, hw⟩ := cW_gen hw
    have S0 := Sep.startG sG
    unfold F_Format_blocks at hw
    refine ⟨_, rfl, _, _, _, _, _, rfl, (S0.bM _ _ h_p_self), T.cl_Format, T.n_Format_width, rfl, _, _, rfl, rfl, _, _, rfl, rfl, _, _, rfl, rfl, (divW_lit (by decide) (by decide)), _, rfl, _, _, _, _, _, rfl, (S0.bM _ _ h_p_self), T.cl_Format, T.n_Format_height, rfl, _, _, rfl, rfl, _, _, rfl, rfl, _, _, rfl, rfl, (divW_lit (by decide) (by decide)), (by show 2 ≤ sizeLine; decide), fun p2079 n2080 => ?_⟩
    generalize g2081 : upd H p2079 _ = H2082
    obtain ⟨e2083, h2084⟩ := gen_new n2080 g2081
    have h2085 : H2082 p2079 = some (.tup [V.int ((((self'.width + 8) - 1) / 8)), V.int ((((self'.height + 8) - 1) / 8))]) := h2084
    have fr2086 := S0.free n2080
    obtain ⟨G2088, eG2089, hg2090, S2087⟩ := S0.grow n2080 e2083 h2085 fr2086
    have hw := cW_ok hw
    exact hK0 _ hw _ _ _ S2087.b0 S2087.g0 S2087.sG S2087.gn (rp_mk2 hg2090 (.int _) (.int _))

abbrev N_Settings_slices : List Str := ["self", "_", "rows"]
theorem sc_Settings_slices : FnScope N_Settings_slices ["self"] (defScope s_Settings_slices) := ⟨rfl, rfl, rfl, by decide +kernel, rfl, by decide +kernel, by decide +kernel⟩
theorem ok_Settings_slices (D : MethX K AD.c_Settings "Settings.slices" "slices" s_Settings_slices ["self"] pats_Settings_slices) (T : Txt w K mg AD) (c_Format_blocks : MetX P w K mg base 1 AD.c_Format "blocks" (sp_Format_blocks K AD) pats_Format_blocks) : MetX P w K mg base 2 AD.c_Settings "slices" (sp_Settings_slices K AD) pats_Settings_slices := by
  refine D.ok T.cl_Settings sc_Settings_slices (fun vs H Q E h => ?_) (fun f cdv A_ outer s H vs Q E hr h => ?_)
  · obtain ⟨G, p_self, p_self_fmt, dx_self, dx_self_fmt, self', rfl, _⟩ := h
    rfl
  · obtain ⟨G, p_self, p_self_fmt, dx_self, dx_self_fmt, self', rfl, sG, h_p_self, h_p_self_fmt, hw⟩ := h
    refine ⟨_, (pss_cons (ps_asg (vx_methX0 c_Format_blocks pat_Format_blocks_0 (.head _) hr (by decide) (takes_of rfl rfl rfl rfl) (fldK (K := K) (pv 0))) (pg_tupK (K := K) (n := 2) (pgs_cons (pg_name (i := 1) sc_Settings_slices.nd rfl (Or.inl rfl)) (pgs_cons (pg_name (i := 2) sc_Settings_slices.nd rfl (Or.inl rfl)) pgs_nil))))
      (pss_one (ps_ret (pe_op op_fdivW (pe_op op_sub (pe_op op_add (pv 2) (fldK (K := K) (pv 0))) pe_int) (fldK (K := K) (pv 0)))))), ?_⟩
    obtain ⟨KK, EE, hK0, hE, hw⟩ := cW_gen hw
    have S0 := Sep.startG sG
    unfold F_Settings_slices at hw
    refine ⟨_, rfl, _, _, _, _, _, rfl, (S0.bM _ _ h_p_self), T.cl_Settings, T.n_Settings_fmt, rfl, _, _, _, rfl, (S0.bM _ _ h_p_self_fmt), rfl, rfl, rfl, G, _, _, self'.fmt, rfl, S0.sG, (hide_nil (S0.bM _ _ h_p_self_fmt)), cW_call hw (fun v2091 hw v2094 H2092 G2095 e2093 eG2096 sG2097 hn2098 r2099 => ?_) (fun e he H2 e2 => hE e he H2 (Same.trans S0.b0 e2))⟩
    have S2100 := S0.step e2093 eG2096 sG2097 hn2098
    obtain ⟨a2101, v2103, v2104, rfl, h2102, r2105, r2106⟩ := rp_tup2 r2099
    obtain rfl := rp_int r2105
    obtain rfl := rp_int r2106
    obtain ⟨g2107, hw⟩ := cW_grd hw
    refine ⟨_, _, rfl, (SqT.of (S2100.sG _ _ h2102)), rfl, _, _, rfl, _, _, rfl, rfl, _, rfl, _, rfl, _, _, _, _, _, rfl, (S2100.bM _ _ h_p_self), T.cl_Settings, T.n_Settings_rows, rfl, _, _, rfl, rfl, _, _, rfl, rfl, _, rfl, _, _, _, _, _, rfl, (S2100.bM _ _ h_p_self), T.cl_Settings, T.n_Settings_rows, rfl, _, _, rfl, rfl, (divW_small g2107.1 g2107.2), ?_⟩
    have hw := cW_ok hw
    exact hK0 _ hw _ S2100.b0

abbrev N__law_settings_refused : List Str := ["n", "slots", "rows", "layers", "fmt", "e"]
theorem sc__law_settings_refused : FnScope N__law_settings_refused ["n", "slots", "rows", "layers"] (defScope s__law_settings_refused) := ⟨rfl, rfl, rfl, by decide +kernel, rfl, by decide +kernel, by decide +kernel⟩
theorem ok__law_settings_refused (D : DefX K mg "_law_settings_refused" s__law_settings_refused ["n", "slots", "rows", "layers"] pats__law_settings_refused) (T : Txt w K mg AD) (c_Format___init__ : MakX P w K mg base 1 "Format" AD.c_Format (sp_Format___init__ K AD) pats_Format___init__) (c_Settings___init__ : MakX P w K mg base 2 "Settings" AD.c_Settings (sp_Settings___init__ K AD) pats_Settings___init__) : CalX P w K mg base 4 "_law_settings_refused" (sp__law_settings_refused K AD) pats__law_settings_refused := by
  refine D.ok sc__law_settings_refused (fun vs H Q E h => ?_) (fun f cdv A_ outer s H vs Q E hr h => ?_)
  · obtain ⟨G, a_n, n', slots', rows', layers', rfl, _⟩ := h
    rfl
  · obtain ⟨G, a_n, n', slots', rows', layers', rfl, sG, q_n, hw⟩ := h
    refine ⟨_, (pss_cons (ps_set (i := 4) sc__law_settings_refused.nd rfl (Or.inl rfl) (vx_makeX c_Format___init__ pat_Format___init___0 (.head _) hr (by decide) (takes_of rfl rfl rfl rfl) rfl (pa_cons (pe_ix (ix_listK (K := K)) (pv 0) pe_int (fun _ _ => rfl)) (pa_cons (pe_ix (ix_listK (K := K)) (pv 0) pe_int (fun _ _ => rfl)) pa_nil)) (pk_cons (pe_ix (ix_listK (K := K)) (pv 0) pe_int (fun _ _ => rfl)) (pk_cons (pe_ix (ix_listK (K := K)) (pv 0) pe_int (fun _ _ => rfl)) pk_nil))))
      (pss_cons (ps_try_as (i := 5) rfl rfl sc__law_settings_refused.nd rfl rfl ⟨rfl, by decide, .inl T.xg_BadHeader⟩ (takes_of rfl rfl rfl rfl) (fun W pn xe tk pse => (pss_one (ps_expr (vx_makeX c_Settings___init__ pat_Settings___init___1 (.tail _ (.head _)) hr (by decide) tk rfl (pa_cons (pv 4) pa_nil) (pk_cons (pv 1) (pk_cons (pv 2) (pk_cons (pv 3) pk_nil))))))) (fun a oe cls d pn hz hf => (pss_one (ps_ret (pe_and (pe_callB (call_isX (K := K) hz hf) (by rfl) T.b_isinstance (by decide +kernel) (pa_cons (pv 5) (pa_cons (C8.pe_gc (v := V.ref AD.x_CodecError) rfl ⟨_, T.xg_CodecError, rfl⟩) pa_nil))) (pe_one (pe_not (pe_callB (call_isX (K := K) hz hf) (by rfl) T.b_isinstance (by decide +kernel) (pa_cons (pv 5) (pa_cons (C8.pe_gc (v := V.ref AD.x_BadFormat) rfl ⟨_, T.xg_BadFormat, rfl⟩) pa_nil))))))))))
      (pss_one (ps_ret pe_bl)))), ?_⟩
    obtain ⟨KK, EE, hK0, hE, hw⟩ := cW_gen hw
    have S0 := Sep.startG sG
    unfold F__law_settings_refused at hw
    obtain ⟨g2108, hw⟩ := cW_grd hw
    obtain ⟨g2109, hw⟩ := cW_grd hw
    obtain ⟨g2110, hw⟩ := cW_grd hw
    obtain ⟨g2111, hw⟩ := cW_grd hw
    refine ⟨_, rfl, _, _, _, _, rfl, rfl, (SqL.of (S0.bM _ _ q_n)), (atI_map g2108), _, rfl, _, _, _, _, rfl, rfl, (SqL.of (S0.bM _ _ q_n)), (atI_map g2109), _, rfl, _, _, _, _, rfl, rfl, (SqL.of (S0.bM _ _ q_n)), (atI_map g2110), _, rfl, _, _, _, _, rfl, rfl, (SqL.of (S0.bM _ _ q_n)), (atI_map g2111), rfl, rfl, fun x2112 dx2113 n2114 n2115 n2116 => ?_⟩
    generalize g2117 : upd (upd H dx2113 _) x2112 _ = H2118
    obtain ⟨e2119, h2120⟩ := gen_obj n2114 n2115 n2116 g2117
    have fr2121 := S0.free n2114
    have S2122 := S0.new n2114 e2119 h2120 fr2121
    refine ⟨G, _, _, _, _, _, _, rfl, S2122.sG, (S2122.gno (all_cons (.head _) all_nil)), h2120, cW_call hw (fun v2123 hw H2124 x2125 h2126 => ⟨rfl, ?_⟩) (fun e he H2 e2 => hE e he H2 (Same.trans S0.b0 (same_mut e2119 e2 n2114)))⟩
    have S2127 : Sep _ _ _ _ H2124 [x2112] := Sep.init S2122 x2125 (.head _) h2126 [] all_nil
    refine ⟨_, rfl, _, rfl, _, rfl, _, rfl, rfl, rfl, fun x2128 dx2129 n2130 n2131 n2132 => ?_⟩
    generalize g2133 : upd (upd H2124 dx2129 _) x2128 _ = H2134
    obtain ⟨e2135, h2136⟩ := gen_obj n2130 n2131 n2132 g2133
    have fr2137 := S2127.free n2130
    have S2138 := S2127.new n2130 e2135 h2136 fr2137
    have h2139 := (e2135 _ _ h2126)
    refine ⟨G, _, _, _, _, v2123, _, _, _, _, _, rfl, S2138.sG, (S2138.gno (all_cons (.head _) all_nil)), h2136, ((hideL_out (ni1 (ne_of_none h2126 n2130))).trans h2139), cW_try hw (fun v2140 hw H2141 x2142 h2143 => ⟨rfl, ?_⟩) ?_⟩
    · have S2144 : Sep _ _ _ _ H2141 [x2128, x2112] := Sep.init S2138 x2142 (.head _) h2143 [] all_nil
      have hw := cW_ok hw
      exact hK0 _ hw _ S2144.b0
    · intro e hm hw H2145 e2146
      have e2148 := (same_mut e2135 e2146 n2130)
      have S2147 := S2127.same e2148
      obtain rfl := mem_one hm
      refine ⟨true, T.xm_BadHeader_BadHeader, fun _ a2149 na2150 => ?_, fun q => nomatch q⟩
      refine ⟨_, rfl, _, _, _, rfl, rfl, T.xc_BadHeader, rfl, T.xo_BadHeader_CodecError, _, rfl, ?_⟩
      refine iteT ?_
      refine ⟨_, rfl, _, _, _, rfl, rfl, T.xc_BadHeader, rfl, T.xn_BadHeader_BadFormat, _, rfl, ?_⟩
      have hw := cW_ok hw
      exact hK0 _ hw _ S2147.b0

abbrev N__check_numbers : List Str := ["settings", "header"]
theorem sc__check_numbers : FnScope N__check_numbers ["settings", "header"] (defScope s__check_numbers) := ⟨rfl, rfl, rfl, by decide +kernel, rfl, by decide +kernel, by decide +kernel⟩
theorem ok__check_numbers (D : DefX K mg "_check_numbers" s__check_numbers ["settings", "header"] pats__check_numbers) (T : Txt w K mg AD) (c__require : CalX P w K mg base 1 "_require" (sp__require K AD) pats__require) : CalX P w K mg base 2 "_check_numbers" (sp__check_numbers K AD) pats__check_numbers := by
  refine D.ok sc__check_numbers (fun vs H Q E h => ?_) (fun f cdv A_ outer s H vs Q E hr h => ?_)
  · obtain ⟨G, p_settings, p_settings_fmt, dx_settings, dx_settings_fmt, settings', p_header, l_header_store, l_header_refs, dx_header, header', rfl, _⟩ := h
    rfl
  · obtain ⟨G, p_settings, p_settings_fmt, dx_settings, dx_settings_fmt, settings', p_header, l_header_store, l_header_refs, dx_header, header', rfl, sG, h_p_settings, h_p_settings_fmt, h_p_header, h_l_header_store, h_l_header_refs, hw⟩ := h
    refine ⟨_, (C8.pss_cut (ps_expr (vx_callX c__require pat__require_0 (.head _) hr (by decide) (takes_of rfl rfl rfl rfl) rfl (pa_cons (pe_chain op_le op_le pe_int (fldK (K := K) (pv 1)) (C8.pe_gc rfl T.g_GREATEST_NUMBER)) (pa_cons pe_str pa_nil)) pk_nil))
      (C8.pss_cut (ps_expr (vx_callX c__require pat__require_0 (.head _) hr (by decide) (takes_of rfl rfl rfl rfl) rfl (pa_cons (pe_cmpR (op_inS (K := K)) (fldK (K := K) (pv 1)) (C8.pe_gc (v := V.ref AD.t_KINDS) rfl T.g_KINDS) (by with_unfolding_all rfl)) (pa_cons pe_str pa_nil)) pk_nil))
      (C8.pss_cut (ps_expr (vx_callX c__require pat__require_0 (.head _) hr (by decide) (takes_of rfl rfl rfl rfl) rfl (pa_cons (pe_chain op_le op_le pe_int (fldK (K := K) (pv 1)) (C8.pe_gc rfl T.g_GREATEST_LEVEL)) (pa_cons pe_str pa_nil)) pk_nil))
      (C8.pss_cut (ps_expr (vx_callX c__require pat__require_0 (.head _) hr (by decide) (takes_of rfl rfl rfl rfl) rfl (pa_cons (pe_chain op_le op_le pe_int (fldK (K := K) (pv 1)) pe_int) (pa_cons pe_str pa_nil)) pk_nil))
      (C8.pss_cut (ps_expr (vx_callX c__require pat__require_0 (.head _) hr (by decide) (takes_of rfl rfl rfl rfl) rfl (pa_cons (pe_or (pe_cmp (pc_eqI (fldK (K := K) (pv 1)) (C8.pe_gc rfl T.g_EVEN_WEIGHT))) (pe_one (pe_cmpR op_eq (fldK (K := K) (pv 1)) pe_str (nomark _)))) (pa_cons pe_str pa_nil)) pk_nil))
      (C8.pss_cut (ps_expr (vx_callX c__require pat__require_0 (.head _) hr (by decide) (takes_of rfl rfl rfl rfl) rfl (pa_cons (pe_chain op_le op_lt pe_int (fldK (K := K) (pv 1)) (fldK (K := K) (pv 0))) (pa_cons pe_str pa_nil)) pk_nil))
      (C8.pss_cut (ps_expr (vx_callX c__require pat__require_0 (.head _) hr (by decide) (takes_of rfl rfl rfl rfl) rfl (pa_cons (pe_chain op_le op_le (pe_un un_neg pe_int) (fldK (K := K) (pv 1)) pe_int) (pa_cons pe_str pa_nil)) pk_nil))
      (pss_one (ps_expr (vx_callX c__require pat__require_0 (.head _) hr (by decide) (takes_of rfl rfl rfl rfl) rfl (pa_cons (pe_or (pe_cmp (pc_eqI (fldK (K := K) (pv 1)) pe_int)) (pe_one (fldK (K := K) (pv 0)))) (pa_cons pe_str pa_nil)) pk_nil)))))))))), ?_⟩
    obtain ⟨KK, EE, hK0, hE, hw⟩ := cW_gen hw
    have S0 := Sep.startG sG
    unfold F__check_numbers at hw
    refine ⟨fun σ H' => ∃ (G' : Hp), σ = [some (V.ref p_settings), some (V.ref p_header)] ∧ Same G G' ∧ Sep [] H G G' H' [] ∧ cW (F__check_numbers_k1 (settings') (header') ) KK EE, ?_, ?_⟩
    · obtain ⟨K2153, hK2154, hw⟩ := cW_push hw
      refine ⟨_, rfl, _, _, _, _, _, rfl, (S0.bM _ _ h_p_header), T.cl_PictureHeader, T.n_PictureHeader_number, rfl, _, _, rfl, rfl, _, rfl, ?_⟩
      refine iteD (fun c2155 => ?_) (fun c2155 => ?_)
      · have hw := cW_pos c2155 hw
        refine ⟨_, _, rfl, rfl, rfl, rfl, G, _, _, rfl, S0.sG, cW_call hw (fun v2156 hw => ?_) (fun e he => hE e he _ S0.b0)⟩
        have hw := cW_ok hw
        have hw := hK2154 _ hw
        exact ⟨_, rfl, (Same.refl _), S0, hw⟩
      · have hw := cW_neg c2155 hw
        refine ⟨rfl, rfl, G, _, _, rfl, S0.sG, cW_call hw (fun v2157 hw => ?_) (fun e he => hE e he _ S0.b0)⟩
        have hw := cW_ok hw
        have hw := hK2154 _ hw
        exact ⟨_, rfl, (Same.refl _), S0, hw⟩
    · intro σ H2158 hw
      obtain ⟨G2160, rfl, eG2161, S2159, hw⟩ := hw
      unfold F__check_numbers_k1 at hw
      refine ⟨fun σ H' => ∃ (G' : Hp), σ = [some (V.ref p_settings), some (V.ref p_header)] ∧ Same G2160 G' ∧ Sep [] H G G' H' [] ∧ cW (F__check_numbers_k2 (settings') (header') ) KK EE, ?_, ?_⟩
      · obtain ⟨K2164, hK2165, hw⟩ := cW_push hw
        refine ⟨_, rfl, _, _, _, _, _, rfl, (S2159.bM _ _ h_p_header), T.cl_PictureHeader, T.n_PictureHeader_kind, rfl, _, _, ([("I" : Str), ("P" : Str), ("B" : Str)] : List Str), rfl, rfl, (.inr (T.ts_KINDS _)), rfl, rfl, G2160, _, _, rfl, S2159.sG, cW_call hw (fun v2166 hw => ?_) (fun e he => hE e he _ S2159.b0)⟩
        have hw := cW_ok hw
        have hw := hK2165 _ hw
        exact ⟨_, rfl, (Same.refl _), S2159, hw⟩
      · intro σ H2167 hw
        obtain ⟨G2169, rfl, eG2170, S2168, hw⟩ := hw
        unfold F__check_numbers_k2 at hw
        refine ⟨fun σ H' => ∃ (G' : Hp), σ = [some (V.ref p_settings), some (V.ref p_header)] ∧ Same G2169 G' ∧ Sep [] H G G' H' [] ∧ cW (F__check_numbers_k3 (settings') (header') ) KK EE, ?_, ?_⟩
        · obtain ⟨K2173, hK2174, hw⟩ := cW_push hw
          refine ⟨_, rfl, _, _, _, _, _, rfl, (S2168.bM _ _ h_p_header), T.cl_PictureHeader, T.n_PictureHeader_level, rfl, _, _, rfl, rfl, _, rfl, ?_⟩
          refine iteD (fun c2175 => ?_) (fun c2175 => ?_)
          · have hw := cW_pos c2175 hw
            refine ⟨_, _, rfl, rfl, rfl, rfl, G2169, _, _, rfl, S2168.sG, cW_call hw (fun v2176 hw => ?_) (fun e he => hE e he _ S2168.b0)⟩
            have hw := cW_ok hw
            have hw := hK2174 _ hw
            exact ⟨_, rfl, (Same.refl _), S2168, hw⟩
          · have hw := cW_neg c2175 hw
            refine ⟨rfl, rfl, G2169, _, _, rfl, S2168.sG, cW_call hw (fun v2177 hw => ?_) (fun e he => hE e he _ S2168.b0)⟩
            have hw := cW_ok hw
            have hw := hK2174 _ hw
            exact ⟨_, rfl, (Same.refl _), S2168, hw⟩
        · intro σ H2178 hw
          obtain ⟨G2180, rfl, eG2181, S2179, hw⟩ := hw
          unfold F__check_numbers_k3 at hw
          refine ⟨fun σ H' => ∃ (G' : Hp), σ = [some (V.ref p_settings), some (V.ref p_header)] ∧ Same G2180 G' ∧ Sep [] H G G' H' [] ∧ cW (F__check_numbers_k4 (settings') (header') ) KK EE, ?_, ?_⟩
          · obtain ⟨K2184, hK2185, hw⟩ := cW_push hw
            refine ⟨_, rfl, _, _, _, _, _, rfl, (S2179.bM _ _ h_p_header), T.cl_PictureHeader, T.n_PictureHeader_weight, rfl, _, _, rfl, rfl, _, rfl, ?_⟩
            refine iteD (fun c2186 => ?_) (fun c2186 => ?_)
            · have hw := cW_pos c2186 hw
              refine ⟨_, _, rfl, rfl, rfl, rfl, G2180, _, _, rfl, S2179.sG, cW_call hw (fun v2187 hw => ?_) (fun e he => hE e he _ S2179.b0)⟩
              have hw := cW_ok hw
              have hw := hK2185 _ hw
              exact ⟨_, rfl, (Same.refl _), S2179, hw⟩
            · have hw := cW_neg c2186 hw
              refine ⟨rfl, rfl, G2180, _, _, rfl, S2179.sG, cW_call hw (fun v2188 hw => ?_) (fun e he => hE e he _ S2179.b0)⟩
              have hw := cW_ok hw
              have hw := hK2185 _ hw
              exact ⟨_, rfl, (Same.refl _), S2179, hw⟩
          · intro σ H2189 hw
            obtain ⟨G2191, rfl, eG2192, S2190, hw⟩ := hw
            unfold F__check_numbers_k4 at hw
            refine ⟨fun σ H' => ∃ (G' : Hp), σ = [some (V.ref p_settings), some (V.ref p_header)] ∧ Same G2191 G' ∧ Sep [] H G G' H' [] ∧ cW (F__check_numbers_k5 (settings') (header') ) KK EE, ?_, ?_⟩
            · obtain ⟨K2195, hK2196, hw⟩ := cW_push hw
              refine ⟨_, rfl, _, _, _, _, _, rfl, (S2190.bM _ _ h_p_header), T.cl_PictureHeader, T.n_PictureHeader_weight, rfl, _, _, rfl, rfl, _, rfl, ?_⟩
              refine iteB (fun c2197 => ?_) (fun c2197 => ?_)
              · have hw := cW_pos c2197 hw
                refine ⟨rfl, rfl, G2191, _, _, rfl, S2190.sG, cW_call hw (fun v2198 hw => ?_) (fun e he => hE e he _ S2190.b0)⟩
                have hw := cW_ok hw
                have hw := hK2196 _ hw
                exact ⟨_, rfl, (Same.refl _), S2190, hw⟩
              · have hw := cW_negB c2197 hw
                refine ⟨_, rfl, _, _, _, _, _, rfl, (S2190.bM _ _ h_p_header), T.cl_PictureHeader, T.n_PictureHeader_kind, rfl, rfl, rfl, rfl, G2191, _, _, rfl, S2190.sG, cW_call hw (fun v2199 hw => ?_) (fun e he => hE e he _ S2190.b0)⟩
                have hw := cW_ok hw
                have hw := hK2196 _ hw
                exact ⟨_, rfl, (Same.refl _), S2190, hw⟩
            · intro σ H2200 hw
              obtain ⟨G2202, rfl, eG2203, S2201, hw⟩ := hw
              unfold F__check_numbers_k5 at hw
              refine ⟨fun σ H' => ∃ (G' : Hp), σ = [some (V.ref p_settings), some (V.ref p_header)] ∧ Same G2202 G' ∧ Sep [] H G G' H' [] ∧ cW (F__check_numbers_k6 (settings') (header') ) KK EE, ?_, ?_⟩
              · obtain ⟨K2206, hK2207, hw⟩ := cW_push hw
                refine ⟨_, rfl, _, _, _, _, _, rfl, (S2201.bM _ _ h_p_header), T.cl_PictureHeader, T.n_PictureHeader_layer, rfl, _, _, rfl, rfl, _, rfl, ?_⟩
                refine iteD (fun c2208 => ?_) (fun c2208 => ?_)
                · have hw := cW_pos c2208 hw
                  refine ⟨_, rfl, _, _, _, _, _, rfl, (S2201.bM _ _ h_p_settings), T.cl_Settings, T.n_Settings_layers, rfl, _, _, rfl, rfl, rfl, rfl, G2202, _, _, rfl, S2201.sG, cW_call hw (fun v2209 hw => ?_) (fun e he => hE e he _ S2201.b0)⟩
                  have hw := cW_ok hw
                  have hw := hK2207 _ hw
                  exact ⟨_, rfl, (Same.refl _), S2201, hw⟩
                · have hw := cW_neg c2208 hw
                  refine ⟨rfl, rfl, G2202, _, _, rfl, S2201.sG, cW_call hw (fun v2210 hw => ?_) (fun e he => hE e he _ S2201.b0)⟩
                  have hw := cW_ok hw
                  have hw := hK2207 _ hw
                  exact ⟨_, rfl, (Same.refl _), S2201, hw⟩
              · intro σ H2211 hw
                obtain ⟨G2213, rfl, eG2214, S2212, hw⟩ := hw
                unfold F__check_numbers_k6 at hw
                refine ⟨fun σ H' => ∃ (G' : Hp), σ = [some (V.ref p_settings), some (V.ref p_header)] ∧ Same G2213 G' ∧ Sep [] H G G' H' [] ∧ cW (F__check_numbers_k7 (settings') (header') ) KK EE, ?_, ?_⟩
                · obtain ⟨K2217, hK2218, hw⟩ := cW_push hw
                  refine ⟨_, rfl, _, rfl, _, _, _, _, _, rfl, (S2212.bM _ _ h_p_header), T.cl_PictureHeader, T.n_PictureHeader_edge, rfl, _, _, rfl, rfl, _, rfl, ?_⟩
                  refine iteD (fun c2219 => ?_) (fun c2219 => ?_)
                  · have hw := cW_pos c2219 hw
                    refine ⟨_, _, rfl, rfl, rfl, rfl, G2213, _, _, rfl, S2212.sG, cW_call hw (fun v2220 hw => ?_) (fun e he => hE e he _ S2212.b0)⟩
                    have hw := cW_ok hw
                    have hw := hK2218 _ hw
                    exact ⟨_, rfl, (Same.refl _), S2212, hw⟩
                  · have hw := cW_neg c2219 hw
                    refine ⟨rfl, rfl, G2213, _, _, rfl, S2212.sG, cW_call hw (fun v2221 hw => ?_) (fun e he => hE e he _ S2212.b0)⟩
                    have hw := cW_ok hw
                    have hw := hK2218 _ hw
                    exact ⟨_, rfl, (Same.refl _), S2212, hw⟩
                · intro σ H2222 hw
                  obtain ⟨G2224, rfl, eG2225, S2223, hw⟩ := hw
                  unfold F__check_numbers_k7 at hw
                  refine ⟨_, rfl, _, _, _, _, _, rfl, (S2223.bM _ _ h_p_header), T.cl_PictureHeader, T.n_PictureHeader_edge, rfl, _, _, rfl, rfl, _, rfl, ?_⟩
                  refine iteB (fun c2226 => ?_) (fun c2226 => ?_)
                  · have hw := cW_pos c2226 hw
                    refine ⟨rfl, rfl, G2224, _, _, rfl, S2223.sG, cW_call hw (fun v2227 hw => ?_) (fun e he => hE e he _ S2223.b0)⟩
                    have hw := cW_ok hw
                    exact hK0 _ hw _ S2223.b0
                  · have hw := cW_negB c2226 hw
                    refine ⟨_, rfl, _, _, _, _, _, rfl, (S2223.bM _ _ h_p_settings), T.cl_Settings, T.n_Settings_deblock, rfl, rfl, rfl, G2224, _, _, rfl, S2223.sG, cW_call hw (fun v2228 hw => ?_) (fun e he => hE e he _ S2223.b0)⟩
                    have hw := cW_ok hw
                    exact hK0 _ hw _ S2223.b0

abbrev N__check_slots : List Str := ["settings", "header", "slot", "ascending", "counts"]
theorem sc__check_slots : FnScope N__check_slots ["settings", "header"] (defScope s__check_slots) := ⟨rfl, rfl, rfl, by decide +kernel, rfl, by decide +kernel, by decide +kernel⟩
theorem ok__check_slots (D : DefX K mg "_check_slots" s__check_slots ["settings", "header"] pats__check_slots) (T : Txt w K mg AD) (c__require : CalX P w K mg base 1 "_require" (sp__require K AD) pats__require) : CalX P w K mg base 2 "_check_slots" (sp__check_slots K AD) pats__check_slots := by
  refine D.ok sc__check_slots (fun vs H Q E h => ?_) (fun f cdv A_ outer s H vs Q E hr h => ?_)
  · obtain ⟨G, p_settings, p_settings_fmt, dx_settings, dx_settings_fmt, settings', p_header, l_header_store, l_header_refs, dx_header, header', rfl, _⟩ := h
    rfl
  · obtain ⟨G, p_settings, p_settings_fmt, dx_settings, dx_settings_fmt, settings', p_header, l_header_store, l_header_refs, dx_header, header', rfl, sG, h_p_settings, h_p_settings_fmt, h_p_header, h_l_header_store, h_l_header_refs, hw⟩ := h
    refine ⟨_, (pss_cons (ps_for (passes_of rfl) rfl (pi_listK (K := K) (pe_op op_cat (fldK (K := K) (pv 1)) (fldK (K := K) (pv 1)))) (pg_name (i := 2) sc__check_slots.nd rfl (Or.inl rfl)) (pss_one (ps_expr (vx_callX c__require pat__require_0 (.head _) hr (by decide) (takes_of rfl rfl rfl rfl) rfl (pa_cons (pe_chain op_le op_lt pe_int (pv 2) (fldK (K := K) (pv 0))) (pa_cons pe_str pa_nil)) pk_nil))))
      (pss_cons (ps_set (i := 3) sc__check_slots.nd rfl (Or.inl rfl) (pe_callB (cr_sortSet (w := w) rfl) (by rfl) T.b_sorted (by decide +kernel) (pa_cons (pe_callTy (cr_setI (K := K) (w := w) rfl) (by rfl) T.b_set (by decide +kernel) (pa_cons (fldK (K := K) (pv 1)) pa_nil)) pa_nil)))
      (pss_cons (ps_expr (vx_callX c__require pat__require_0 (.head _) hr (by decide) (takes_of rfl rfl rfl rfl) rfl (pa_cons (pe_cmpR (op_eqT (encOk_L encOk_int) hr.units) (fldK (K := K) (pv 1)) (pv 3) (nomark _)) (pa_cons pe_str pa_nil)) pk_nil))
      (pss_cons (ps_set (i := 4) sc__check_slots.nd rfl (Or.inl rfl) (pe_ix (ix_DA (w := w) (K := K)) (C8.pe_gc (v := V.ref AD.t_REF_COUNTS) rfl T.g_REF_COUNTS) (fldK (K := K) (pv 1)) (fun _ _ => rfl)))
      (pss_one (ps_expr (vx_callX c__require pat__require_0 (.head _) hr (by decide) (takes_of rfl rfl rfl rfl) rfl (pa_cons (pe_cmpR (op_inI (K := K)) (pe_callB (call_lenLiK (K := K)) (by rfl) T.b_len (by decide +kernel) (pa_cons (fldK (K := K) (pv 1)) pa_nil)) (pv 4) (by with_unfolding_all rfl)) (pa_cons pe_str pa_nil)) pk_nil))))))), ?_⟩
    obtain ⟨KK, EE, hK0, hE, hw⟩ := cW_gen hw
    have S0 := Sep.startG sG
    unfold F__check_slots at hw
    obtain ⟨g2229, hw⟩ := cW_grd hw
    refine ⟨_, rfl, _, _, _, _, _, rfl, (S0.bM _ _ h_p_header), T.cl_PictureHeader, T.n_PictureHeader_store, rfl, _, rfl, _, _, _, _, _, rfl, (S0.bM _ _ h_p_header), T.cl_PictureHeader, T.n_PictureHeader_refs, rfl, _, _, _, _, rfl, rfl, (S0.bM _ _ h_l_header_store), (S0.bM _ _ h_l_header_refs), (cat_lenM g2229), fun p2230 n2231 => ?_⟩
    generalize g2232 : upd H p2230 _ = H2233
    obtain ⟨e2234, h2235⟩ := gen_new n2231 g2232
    have h2236 : H2233 p2230 = some (.lst (((header'.store) ++ (header'.refs) : (List Int)).map V.int)) := cat_map h2235
    have fr2237 := S0.free n2231
    have S2238 := S0.new n2231 e2234 h2236 fr2237
    obtain ⟨K2241, hK2242, hw⟩ := cW_push hw
    refine ⟨_, rfl, ⟨_, (SqL.of h2236)⟩, for_list (K := K) (a := p2230) (xs := ((header'.store) ++ (header'.refs) : (List Int)).map V.int) (fun i σ H' => ∃ (u2243 : Option V) (G' : Hp), σ = [some (V.ref p_settings), some (V.ref p_header), u2243, none, none] ∧ Same G G' ∧ Sep [] H G G' H' [p2230] ∧ H' p2230 = some (.lst (((header'.store) ++ (header'.refs) : (List Int)).map V.int)) ∧ cW (forS (List.drop i ((header'.store) ++ (header'.refs))) () (fun s x => F__check_slots_b1 (settings')  x)) K2241 EE) ?_ ?_ ?_ ?_⟩
    · exact ⟨_, _, rfl, (Same.refl _), S2238, h2236, hw⟩
    · intro i σ H2244 _ hw
      obtain ⟨u2243, G2247, rfl, eG2248, S2245, h2246, hw⟩ := hw
      exact (SqL.of h2246)
    · intro i x σ H2249 hj hw
      obtain ⟨u2243, G2252, rfl, eG2253, S2250, h2251, hw⟩ := hw
      obtain ⟨x2254, hx, rfl⟩ := map_get hj
      have hw := cW_forS hx hw
      have hw : cW (F__check_slots_b1 (settings')  (x2254)) _ EE := hw
      unfold F__check_slots_b1 at hw
      obtain ⟨K2255, hK2256, hw⟩ := cW_name hw
      refine vv_chain (ta := (tC (V.int 0))) (tb := (tVar 2)) (tc := (tFld K (tVar 0) "slots")) (r := (rI0 fun i j => V.bl (decide (i ≤ j)))) (r' := (rI0 fun i j => V.bl (decide (i < j)))) (x := V.int (0)) (y := V.int (x2254)) (z := V.int (settings'.slots)) (a := decide (0 ≤ x2254)) (b := decide (x2254 < settings'.slots)) ?hx2258 ?hy2259 ?hz2260 (fun Q q => ⟨_, _, rfl, rfl, q⟩) (fun Q q => ⟨_, _, rfl, rfl, q⟩) _ ?_
      case hx2258 => exact val_c
      case hy2259 => exact (val_var rfl)
      case hz2260 => exact (val_fld (val_var rfl) (S2250.bM _ _ h_p_settings) T.cl_Settings T.n_Settings_slots rfl)
      refine ⟨rfl, rfl, G2252, _, _, rfl, S2250.sG, cW_call hw (fun v2261 hw => ?_) (fun e he => hE e he _ S2250.b0)⟩
      have hw := cW_ok hw
      have hw := hK2256 _ hw
      exact ⟨_, _, rfl, eG2253, S2250, h2251, hw⟩
    · intro σ H2262 hw
      obtain ⟨u2243, G2265, rfl, eG2266, S2263, h2264, hw⟩ := hw
      have hw := hK2242 _ (cW_forS0 (by rw [List.length_map]) hw)
      have hw : cW (F__check_slots_r1 (header') ) _ EE := hw
      unfold F__check_slots_r1 at hw
      obtain ⟨g2267, hw⟩ := cW_grd hw
      refine ⟨_, rfl, _, _, _, _, _, rfl, (S2263.bM _ _ h_p_header), T.cl_PictureHeader, T.n_PictureHeader_store, rfl, _, _, rfl, (SqL.of (S2263.bM _ _ h_l_header_store)), g2267, fun p2268 n2269 n2270 n2271 => ⟨_, _, n2269, rfl, upd_same, Nat.le_trans n2270 g2267, ?_⟩⟩
      refine fun ns2272 p2273 pw2274 mm2275 n2276 => ?_
      generalize g2277 : upd (upd H2262 p2268 _) p2273 _ = H2278
      obtain ⟨e2279, h2280, n2281⟩ := gen_new2 n2271 n2276 g2277
      obtain rfl := sortSet_of pw2274 mm2275
      have h2282 : H2278 p2273 = some (.lst (((sortSet (header'.store)) : (List Int)).map V.int)) := h2280
      have fr2283 := S2263.free n2281
      have S2284 := S2263.new n2281 e2279 h2282 fr2283
      refine ⟨_, rfl, _, _, _, _, _, rfl, (S2284.bM _ _ h_p_header), T.cl_PictureHeader, T.n_PictureHeader_store, rfl, _, rfl, _, _, (rp_mk_ints (S2284.bM _ _ h_l_header_store)), (rp_mk_ints h2282), rfl, rfl, G2265, _, _, rfl, S2284.sG, cW_call hw (fun v2285 hw => ?_) (fun e he => hE e he _ S2284.b0)⟩
      obtain ⟨g2286, hw⟩ := cW_grd hw
      refine ⟨_, rfl, _, _, _, _, _, rfl, (S2284.bM _ _ h_p_header), T.cl_PictureHeader, T.n_PictureHeader_kind, rfl, _, _, ([("I", AD.t_REF_COUNTS_0), ("P", AD.t_REF_COUNTS_1), ("B", AD.t_REF_COUNTS_2)] : List (Str × Addr)), _, rfl, rfl, T.kd_REF_COUNTS, (lookG_at (T.th_REF_COUNTS _ g2286)), _, rfl, _, _, _, _, _, rfl, (S2284.bM _ _ h_p_header), T.cl_PictureHeader, T.n_PictureHeader_refs, rfl, _, _, rfl, (SqL.of (S2284.bM _ _ h_l_header_refs)), _, rfl, _, _, ((dictG ([("I", [0]), ("P", [1, 2]), ("B", [2])] : List (Str × List Int)) (header'.kind)) : List Int), rfl, rfl, (.inr ((T.tt_REF_COUNTS _ g2286) _)), rfl, rfl, G2265, _, _, rfl, S2284.sG, cW_call hw (fun v2287 hw => ?_) (fun e he => hE e he _ S2284.b0)⟩
      have hw := cW_ok hw
      exact hK0 _ hw _ S2284.b0

abbrev N_PictureHeader___init__ : List Str := ["self", "settings", "number", "kind", "level", "store", "refs", "weight", "layer", "shown", "edge"]
theorem sc_PictureHeader___init__ : FnScope N_PictureHeader___init__ ["self", "settings", "number", "kind", "level", "store", "refs", "weight", "layer", "shown", "edge"] (defScope s_PictureHeader___init__) := ⟨rfl, rfl, rfl, by decide +kernel, rfl, by decide +kernel, by decide +kernel⟩
theorem ok_PictureHeader___init__ (D : InitX K mg AD.c_PictureHeader "PictureHeader" "PictureHeader.__init__" s_PictureHeader___init__ ["self", "settings", "number", "kind", "level", "store", "refs", "weight", "layer", "shown", "edge"] (pats_PictureHeader___init__ AD)) (T : Txt w K mg AD) (c__check_numbers : CalX P w K mg base 2 "_check_numbers" (sp__check_numbers K AD) pats__check_numbers) (c__check_slots : CalX P w K mg base 2 "_check_slots" (sp__check_slots K AD) pats__check_slots) : MakX P w K mg base 3 "PictureHeader" AD.c_PictureHeader (sp_PictureHeader___init__ K AD) (pats_PictureHeader___init__ AD) := by
  refine D.ok sc_PictureHeader___init__ (fun vs H Q E h => ?_) (fun f cdv A_ outer s H vs Q E hr h => ?_)
  · obtain ⟨G, p_self, dx_self, p_settings, p_settings_fmt, dx_settings, dx_settings_fmt, settings', number', kind', level', v_store, store', v_refs, refs', weight', layer', shown', edge', rfl, _⟩ := h
    rfl
  · obtain ⟨G, p_self, dx_self, p_settings, p_settings_fmt, dx_settings, dx_settings_fmt, settings', number', kind', level', v_store, store', v_refs, refs', weight', layer', shown', edge', rfl, sG, gM, h_self, h_p_settings, h_p_settings_fmt, r_store, r_refs, hw⟩ := h
    refine ⟨_, (pss_cons (ps_fld (pv 0) (pv 2) rfl)
      (pss_cons (ps_fld (pv 0) (pv 3) rfl)
      (pss_cons (ps_fld (pv 0) (pv 4) rfl)
      (pss_cons (ps_fld (pv 0) (pe_callTy (call_listSI (K := K)) (by rfl) T.b_list (by decide +kernel) (pa_cons (pv 5) pa_nil)) rfl)
      (pss_cons (ps_fld (pv 0) (pe_callTy (call_listSI (K := K)) (by rfl) T.b_list (by decide +kernel) (pa_cons (pv 6) pa_nil)) rfl)
      (pss_cons (ps_fld (pv 0) (pv 7) rfl)
      (pss_cons (ps_fld (pv 0) (pv 8) rfl)
      (pss_cons (ps_fld (pv 0) (pv 9) rfl)
      (pss_cons (ps_fld (pv 0) (pv 10) rfl)
      (pss_cons (ps_expr (vx_callX c__check_numbers pat__check_numbers_0 (.head _) hr (by decide) (takes_of rfl rfl rfl rfl) rfl (pa_cons (pv 1) (pa_cons (pv 0) pa_nil)) pk_nil))
      (pss_one (ps_expr (vx_callX c__check_slots pat__check_slots_0 (.head _) hr (by decide) (takes_of rfl rfl rfl rfl) rfl (pa_cons (pv 1) (pa_cons (pv 0) pa_nil)) pk_nil))))))))))))), ?_⟩
    obtain ⟨KK, EE, hK0, hE, hw⟩ := cW_gen hw
    have S0 := Sep.startM (M := [p_self]) sG (all_cons (some_ne h_self) all_nil) gM
    unfold F_PictureHeader___init__ at hw
    refine ⟨_, rfl, _, rfl, _, _, _, _, rfl, h_self, T.cl_PictureHeader, T.n_PictureHeader_number, (by show 0 < 1000; decide), ?_⟩
    generalize g2288 : upd H p_self _ = H2289
    obtain ⟨x2290, h2291⟩ := gen_mut g2288
    have h2292 : H2289 p_self = some (.ins AD.c_PictureHeader dx_self [("number", V.int (number'))]) := h2291
    have S2293 := S0.mut1 x2290 (.head _) h2292
    refine ⟨_, rfl, _, rfl, _, _, _, _, rfl, h2292, T.cl_PictureHeader, T.n_PictureHeader_kind, (by show 1 < 1000; decide), ?_⟩
    generalize g2294 : upd H2289 p_self _ = H2295
    obtain ⟨x2296, h2297⟩ := gen_mut g2294
    have h2298 : H2295 p_self = some (.ins AD.c_PictureHeader dx_self [("number", V.int (number')), ("kind", V.str (kind'))]) := h2297
    have S2299 := S2293.mut1 x2296 (.head _) h2298
    refine ⟨_, rfl, _, rfl, _, _, _, _, rfl, h2298, T.cl_PictureHeader, T.n_PictureHeader_level, (by show 2 < 1000; decide), ?_⟩
    generalize g2300 : upd H2295 p_self _ = H2301
    obtain ⟨x2302, h2303⟩ := gen_mut g2300
    have h2304 : H2301 p_self = some (.ins AD.c_PictureHeader dx_self [("number", V.int (number')), ("kind", V.str (kind')), ("level", V.int (level'))]) := h2303
    have S2305 := S2299.mut1 x2302 (.head _) h2304
    refine ⟨_, rfl, _, _, rfl, (SeqI.mono S2305.bM r_store), fun p2306 n2307 => ?_⟩
    generalize g2308 : upd H2301 p2306 _ = H2309
    obtain ⟨e2310, h2311⟩ := gen_new n2307 g2308
    have h2312 : H2309 p2306 = some (.lst ((store' : (List Int)).map V.int)) := h2311
    have fr2313 := S2305.free n2307
    have S2314 := S2305.new n2307 e2310 h2312 fr2313
    have h2315 := (e2310 _ _ h2304)
    refine ⟨_, rfl, _, _, _, _, rfl, h2315, T.cl_PictureHeader, T.n_PictureHeader_store, (by show 3 < 1000; decide), ?_⟩
    generalize g2316 : upd H2309 p_self _ = H2317
    obtain ⟨x2318, h2319⟩ := gen_mut g2316
    have h2320 : H2317 p_self = some (.ins AD.c_PictureHeader dx_self [("number", V.int (number')), ("kind", V.str (kind')), ("level", V.int (level')), ("store", V.ref p2306)]) := h2319
    have S2321 := S2314.mut1 x2318 (.tail _ (.head _)) h2320
    refine ⟨_, rfl, _, _, rfl, (SeqI.mono S2321.bM r_refs), fun p2322 n2323 => ?_⟩
    generalize g2324 : upd H2317 p2322 _ = H2325
    obtain ⟨e2326, h2327⟩ := gen_new n2323 g2324
    have h2328 : H2325 p2322 = some (.lst ((refs' : (List Int)).map V.int)) := h2327
    have fr2329 := S2321.free n2323
    have S2330 := S2321.new n2323 e2326 h2328 fr2329
    have h2331 := (e2326 _ _ h2320)
    refine ⟨_, rfl, _, _, _, _, rfl, h2331, T.cl_PictureHeader, T.n_PictureHeader_refs, (by show 4 < 1000; decide), ?_⟩
    generalize g2332 : upd H2325 p_self _ = H2333
    obtain ⟨x2334, h2335⟩ := gen_mut g2332
    have h2336 : H2333 p_self = some (.ins AD.c_PictureHeader dx_self [("number", V.int (number')), ("kind", V.str (kind')), ("level", V.int (level')), ("store", V.ref p2306), ("refs", V.ref p2322)]) := h2335
    have S2337 := S2330.mut1 x2334 (.tail _ (.tail _ (.head _))) h2336
    refine ⟨_, rfl, _, rfl, _, _, _, _, rfl, h2336, T.cl_PictureHeader, T.n_PictureHeader_weight, (by show 5 < 1000; decide), ?_⟩
    generalize g2338 : upd H2333 p_self _ = H2339
    obtain ⟨x2340, h2341⟩ := gen_mut g2338
    have h2342 : H2339 p_self = some (.ins AD.c_PictureHeader dx_self [("number", V.int (number')), ("kind", V.str (kind')), ("level", V.int (level')), ("store", V.ref p2306), ("refs", V.ref p2322), ("weight", V.int (weight'))]) := h2341
    have S2343 := S2337.mut1 x2340 (.tail _ (.tail _ (.head _))) h2342
    refine ⟨_, rfl, _, rfl, _, _, _, _, rfl, h2342, T.cl_PictureHeader, T.n_PictureHeader_layer, (by show 6 < 1000; decide), ?_⟩
    generalize g2344 : upd H2339 p_self _ = H2345
    obtain ⟨x2346, h2347⟩ := gen_mut g2344
    have h2348 : H2345 p_self = some (.ins AD.c_PictureHeader dx_self [("number", V.int (number')), ("kind", V.str (kind')), ("level", V.int (level')), ("store", V.ref p2306), ("refs", V.ref p2322), ("weight", V.int (weight')), ("layer", V.int (layer'))]) := h2347
    have S2349 := S2343.mut1 x2346 (.tail _ (.tail _ (.head _))) h2348
    refine ⟨_, rfl, _, rfl, _, _, _, _, rfl, h2348, T.cl_PictureHeader, T.n_PictureHeader_shown, (by show 7 < 1000; decide), ?_⟩
    generalize g2350 : upd H2345 p_self _ = H2351
    obtain ⟨x2352, h2353⟩ := gen_mut g2350
    have h2354 : H2351 p_self = some (.ins AD.c_PictureHeader dx_self [("number", V.int (number')), ("kind", V.str (kind')), ("level", V.int (level')), ("store", V.ref p2306), ("refs", V.ref p2322), ("weight", V.int (weight')), ("layer", V.int (layer')), ("shown", V.bl (shown'))]) := h2353
    have S2355 := S2349.mut1 x2352 (.tail _ (.tail _ (.head _))) h2354
    refine ⟨_, rfl, _, rfl, _, _, _, _, rfl, h2354, T.cl_PictureHeader, T.n_PictureHeader_edge, (by show 8 < 1000; decide), ?_⟩
    generalize g2356 : upd H2351 p_self _ = H2357
    obtain ⟨x2358, h2359⟩ := gen_mut g2356
    have h2360 : H2357 p_self = some (.ins AD.c_PictureHeader dx_self [("number", V.int (number')), ("kind", V.str (kind')), ("level", V.int (level')), ("store", V.ref p2306), ("refs", V.ref p2322), ("weight", V.int (weight')), ("layer", V.int (layer')), ("shown", V.bl (shown')), ("edge", V.int (edge'))]) := h2359
    have S2361 := S2355.mut1 x2358 (.tail _ (.tail _ (.head _))) h2360
    have h2362 := (x2358 _ _ (x2352 _ _ (x2346 _ _ (x2340 _ _ (x2334 _ _ (e2326 _ _ (x2318 _ _ h2312 (ne_of_none h2304 n2307).symm)) (ne_of_none h2304 n2307).symm) (ne_of_none h2304 n2307).symm) (ne_of_none h2304 n2307).symm) (ne_of_none h2304 n2307).symm) (ne_of_none h2304 n2307).symm)
    have h2363 := (x2358 _ _ (x2352 _ _ (x2346 _ _ (x2340 _ _ (x2334 _ _ h2328 (ne_of_none h2320 n2323).symm) (ne_of_none h2320 n2323).symm) (ne_of_none h2320 n2323).symm) (ne_of_none h2320 n2323).symm) (ne_of_none h2320 n2323).symm)
    refine ⟨_, rfl, _, rfl, rfl, rfl, G, _, _, _, _, settings', _, _, _, _, (⟨number', kind', level', store', refs', weight', layer', shown', edge'⟩ : St_PictureHeader), rfl, S2361.sG, (hide_nil (S2361.bM _ _ h_p_settings)), (hide_nil (S2361.bM _ _ h_p_settings_fmt)), (hide_nil h2360), (hide_nil h2362), (hide_nil h2363), cW_call hw (fun v2364 hw H2365 e2366 => ?_) (fun e he H2 e2 => hE e he H2 (fun b o h n => e2 _ _ ((sameX_of S2361.base) b o h n)))⟩
    have S2367 := S2361.same e2366
    have h2368 := (e2366 _ _ h2360)
    have h2369 := (e2366 _ _ h2362)
    have h2370 := (e2366 _ _ h2363)
    refine ⟨_, rfl, _, rfl, rfl, rfl, G, _, _, _, _, settings', _, _, _, _, (⟨number', kind', level', store', refs', weight', layer', shown', edge'⟩ : St_PictureHeader), rfl, S2367.sG, (hide_nil (S2367.bM _ _ h_p_settings)), (hide_nil (S2367.bM _ _ h_p_settings_fmt)), (hide_nil h2368), (hide_nil h2369), (hide_nil h2370), cW_call hw (fun v2371 hw H2372 e2373 => ?_) (fun e he H2 e2 => hE e he H2 (fun b o h n => e2 _ _ ((sameX_of S2367.base) b o h n)))⟩
    have S2374 := S2367.same e2373
    have h2375 := (e2373 _ _ h2368)
    have h2376 := (e2373 _ _ h2369)
    have h2377 := (e2373 _ _ h2370)
    have hw := cW_ok hw
    exact hK0 _ hw _ _ _ (sameX_of S2374.base) fr2313 fr2329 (ne_of_none (x2318 _ _ h2312 (ne_of_none h2304 n2307).symm) n2323) h2375 h2376 h2377

abbrev N__law_header : List Str := ["settings", "p", "kind"]
theorem sc__law_header : FnScope N__law_header ["settings", "p"] (defScope s__law_header) := ⟨rfl, rfl, rfl, by decide +kernel, rfl, by decide +kernel, by decide +kernel⟩
theorem ok__law_header (D : DefX K mg "_law_header" s__law_header ["settings", "p"] pats__law_header) (T : Txt w K mg AD) (c_PictureHeader___init__ : MakX P w K mg base 3 "PictureHeader" AD.c_PictureHeader (sp_PictureHeader___init__ K AD) (pats_PictureHeader___init__ AD)) : CalX P w K mg base 5 "_law_header" (sp__law_header K AD) pats__law_header := by
  refine D.ok sc__law_header (fun vs H Q E h => ?_) (fun f cdv A_ outer s H vs Q E hr h => ?_)
  · obtain ⟨G, p_settings, p_settings_fmt, dx_settings, dx_settings_fmt, settings', v_p, p', rfl, _⟩ := h
    rfl
  · obtain ⟨G, p_settings, p_settings_fmt, dx_settings, dx_settings_fmt, settings', v_p, p', rfl, sG, h_p_settings, h_p_settings_fmt, r_p, hw⟩ := h
    refine ⟨_, (pss_cons (ps_set (i := 2) sc__law_header.nd rfl (Or.inl rfl) (pe_ix (ix_listK (K := K)) (pe_lst (pa_cons pe_str (pa_cons pe_str (pa_cons pe_str pa_nil)))) (pe_ix (ix_listK (K := K)) (pv 1) pe_int (fun _ _ => rfl)) (fun _ _ => rfl)))
      (pss_one (ps_ret (vx_makeX c_PictureHeader___init__ (pat_PictureHeader___init___0 AD) (.head _) hr (by decide) (takes_of rfl rfl rfl rfl) rfl (pa_cons (pv 0) pa_nil) (pk_cons (pe_ix (ix_listK (K := K)) (pv 1) pe_int (fun _ _ => rfl)) (pk_cons (pv 2) (pk_cons (pe_ix (ix_listK (K := K)) (pv 1) pe_int (fun _ _ => rfl)) (pk_cons (pe_callTy (call_listLK (K := K)) (by rfl) T.b_list (by decide +kernel) (pa_cons (pe_ix (ix_listK (K := K)) (pv 1) pe_int (fun _ _ => rfl)) pa_nil)) (pk_cons (pe_callTy (call_tupLK (K := K)) (by rfl) T.b_tuple (by decide +kernel) (pa_cons (pe_ix (ix_listK (K := K)) (pv 1) pe_int (fun _ _ => rfl)) pa_nil)) (pk_cons (pe_ix (ix_listK (K := K)) (pv 1) pe_int (fun _ _ => rfl)) (pk_cons (pe_ix (ix_listK (K := K)) (pv 1) pe_int (fun _ _ => rfl)) (pk_cons (pe_cmp (pc_eqI (pe_ix (ix_listK (K := K)) (pv 1) pe_int (fun _ _ => rfl)) pe_int)) (pk_cons (pe_ix (ix_listK (K := K)) (pv 1) pe_int (fun _ _ => rfl)) pk_nil))))))))))))), ?_⟩
    obtain ⟨KK, EE, hK0, hE, hw⟩ := cW_gen hw
    have S0 := Sep.startG sG
    unfold F__law_header at hw
    obtain ⟨a2378, vs2379, rfl, h2380, d2381⟩ := rp_list r_p
    refine ⟨(by show 3 ≤ sizeLine; decide), fun p2382 n2383 => ?_⟩
    generalize g2384 : upd H p2382 _ = H2385
    obtain ⟨e2386, h2387⟩ := gen_new n2383 g2384
    have h2388 : H2385 p2382 = some (.lst (([("I" : Str), ("P" : Str), ("B" : Str)] : (List Str)).map V.str)) := h2387
    have fr2389 := S0.free n2383
    have S2390 := S0.new n2383 e2386 h2388 fr2389
    obtain ⟨g2391, hw⟩ := cW_grd hw
    obtain ⟨v2392, a2393, r2394⟩ := RpAll.ixD (k := 1) d2381 g2391
    obtain ⟨g2395, hw⟩ := cW_grd hw
    have r2396 : Rp (hideL [] H) v2392 (PyData.int ((cI).dec ((itD (p') (1))))) := rp_dcast cI g2395 r2394
    obtain rfl := rp_int r2396
    obtain ⟨g2397, hw⟩ := cW_grd hw
    obtain ⟨g2398, hw⟩ := cW_grd hw
    obtain ⟨v2399, a2400, r2401⟩ := RpAll.ixD (k := 0) d2381 g2398
    obtain ⟨g2402, hw⟩ := cW_grd hw
    have r2403 : Rp (hideL [] H) v2399 (PyData.int ((cI).dec ((itD (p') (0))))) := rp_dcast cI g2402 r2401
    obtain rfl := rp_int r2403
    obtain ⟨g2404, hw⟩ := cW_grd hw
    obtain ⟨v2405, a2406, r2407⟩ := RpAll.ixD (k := 2) d2381 g2404
    obtain ⟨g2408, hw⟩ := cW_grd hw
    have r2409 : Rp (hideL [] H) v2405 (PyData.int ((cI).dec ((itD (p') (2))))) := rp_dcast cI g2408 r2407
    obtain rfl := rp_int r2409
    obtain ⟨g2410, hw⟩ := cW_grd hw
    obtain ⟨v2411, a2412, r2413⟩ := RpAll.ixD (k := 3) d2381 g2410
    obtain ⟨g2414, hw⟩ := cW_grd hw
    have r2415 : Rp (hideL [] H) v2411 ((encL PyData.int) (((cL cI)).dec ((itD (p') (3))))) := rp_dcast (cL cI) g2414 r2413
    obtain ⟨a2416, rfl, h2417⟩ := rp_ints r2415
    refine ⟨_, rfl, _, _, _, _, rfl, rfl, (SqL.of (S2390.bM _ _ h2380)), a2393, _, _, _, _, rfl, rfl, (SqL.of h2388), (atI_map g2397), _, rfl, _, rfl, _, _, _, _, rfl, rfl, (SqL.of (S2390.bM _ _ h2380)), a2400, _, rfl, _, rfl, _, _, _, _, rfl, rfl, (SqL.of (S2390.bM _ _ h2380)), a2406, _, rfl, _, _, _, _, rfl, rfl, (SqL.of (S2390.bM _ _ h2380)), a2412, _, _, rfl, (SqL.of (S2390.bM _ _ h2417)), fun p2418 n2419 => ?_⟩
    generalize g2420 : upd H2385 p2418 _ = H2421
    obtain ⟨e2422, h2423⟩ := gen_new n2419 g2420
    have h2424 : H2421 p2418 = some (.lst (((((cL cI)).dec ((itD (p') (3)))) : (List Int)).map V.int)) := h2423
    have fr2425 := S2390.free n2419
    have S2426 := S2390.new n2419 e2422 h2424 fr2425
    obtain ⟨g2427, hw⟩ := cW_grd hw
    obtain ⟨v2428, a2429, r2430⟩ := RpAll.ixD (k := 4) d2381 g2427
    obtain ⟨g2431, hw⟩ := cW_grd hw
    have r2432 : Rp (hideL [] H) v2428 ((encL PyData.int) (((cL cI)).dec ((itD (p') (4))))) := rp_dcast (cL cI) g2431 r2430
    obtain ⟨a2433, rfl, h2434⟩ := rp_ints r2432
    refine ⟨_, rfl, _, _, _, _, rfl, rfl, (SqL.of (S2426.bM _ _ h2380)), a2429, _, _, rfl, (SqL.of (S2426.bM _ _ h2434)), fun p2435 n2436 => ?_⟩
    generalize g2437 : upd H2421 p2435 _ = H2438
    obtain ⟨e2439, h2440⟩ := gen_new n2436 g2437
    have fr2441 := S2426.free n2436
    obtain ⟨G2443, eG2444, hg2445, S2442⟩ := S2426.grow n2436 e2439 h2440 fr2441
    obtain ⟨g2446, hw⟩ := cW_grd hw
    obtain ⟨v2447, a2448, r2449⟩ := RpAll.ixD (k := 5) d2381 g2446
    obtain ⟨g2450, hw⟩ := cW_grd hw
    have r2451 : Rp (hideL [] H) v2447 (PyData.int ((cI).dec ((itD (p') (5))))) := rp_dcast cI g2450 r2449
    obtain rfl := rp_int r2451
    obtain ⟨g2452, hw⟩ := cW_grd hw
    obtain ⟨v2453, a2454, r2455⟩ := RpAll.ixD (k := 6) d2381 g2452
    obtain ⟨g2456, hw⟩ := cW_grd hw
    have r2457 : Rp (hideL [] H) v2453 (PyData.int ((cI).dec ((itD (p') (6))))) := rp_dcast cI g2456 r2455
    obtain rfl := rp_int r2457
    obtain ⟨g2458, hw⟩ := cW_grd hw
    obtain ⟨v2459, a2460, r2461⟩ := RpAll.ixD (k := 7) d2381 g2458
    obtain ⟨g2462, hw⟩ := cW_grd hw
    have r2463 : Rp (hideL [] H) v2459 (PyData.int ((cI).dec ((itD (p') (7))))) := rp_dcast cI g2462 r2461
    obtain rfl := rp_int r2463
    obtain ⟨g2464, hw⟩ := cW_grd hw
    obtain ⟨v2465, a2466, r2467⟩ := RpAll.ixD (k := 8) d2381 g2464
    obtain ⟨g2468, hw⟩ := cW_grd hw
    have r2469 : Rp (hideL [] H) v2465 (PyData.int ((cI).dec ((itD (p') (8))))) := rp_dcast cI g2468 r2467
    obtain rfl := rp_int r2469
    refine ⟨_, rfl, _, _, _, _, rfl, rfl, (SqL.of (S2442.bM _ _ h2380)), a2448, _, rfl, _, _, _, _, rfl, rfl, (SqL.of (S2442.bM _ _ h2380)), a2454, _, rfl, _, _, _, _, rfl, rfl, (SqL.of (S2442.bM _ _ h2380)), a2460, _, _, rfl, rfl, _, rfl, _, _, _, _, rfl, rfl, (SqL.of (S2442.bM _ _ h2380)), a2466, rfl, rfl, fun x2470 dx2471 n2472 n2473 n2474 => ?_⟩
    generalize g2475 : upd (upd H2438 dx2471 _) x2470 _ = H2476
    obtain ⟨e2477, h2478⟩ := gen_obj n2472 n2473 n2474 g2475
    have fr2479 := S2442.free n2472
    have S2480 := S2442.new n2472 e2477 h2478 fr2479
    have h2481 := (e2477 _ _ (e2439 _ _ h2424))
    refine ⟨G2443, _, _, _, _, _, _, settings', _, _, _, _, _, _, _, _, _, _, _, rfl, S2480.sG, (S2480.gno (all_cons (.head _) all_nil)), h2478, ((hideL_out (ni1 (b_ne h_p_settings S2480 (.head _)))).trans (S2480.bM _ _ h_p_settings)), ((hideL_out (ni1 (b_ne h_p_settings_fmt S2480 (.head _)))).trans (S2480.bM _ _ h_p_settings_fmt)), ⟨_, rfl, .inl ((hideL_out (ni1 (ne_of_none (e2439 _ _ h2424) n2472))).trans h2481)⟩, ⟨_, rfl, .inr (.inl ((hideL_out (ni1 (g_ne hg2445 S2480 (.head _)))).trans (S2480.sG _ _ hg2445)))⟩, cW_call hw (fun v2482 hw H2485 l2483 l2484 x2486 n2491 n2492 ne2493 h2487 h2489 h2490 => ⟨rfl, ?_⟩) (fun e he H2 e2 => hE e he H2 (Same.trans S2442.b0 (same_mut e2477 e2 n2472)))⟩
    have fr2494 := S2480.free n2491
    have fr2495 := S2480.free n2492
    have S2488 : Sep _ _ _ _ H2485 [l2483, l2484, x2470, p2418, p2382] := Sep.init S2480 x2486 (.head _) h2487 [l2483, l2484] (all_cons ⟨n2491, some_ne h2489, fr2494⟩ (all_cons ⟨n2492, some_ne h2490, fr2495⟩ all_nil))
    have hw := cW_ok hw
    exact hK0 _ hw _ _ _ _ _ S2488.b0 fr2479 fr2494 fr2495 ne2493 h2487 h2489 h2490

abbrev N__law_picture_refused : List Str := ["settings", "p", "name", "e"]
theorem sc__law_picture_refused : FnScope N__law_picture_refused ["settings", "p", "name"] (defScope s__law_picture_refused) := ⟨rfl, rfl, rfl, by decide +kernel, rfl, by decide +kernel, by decide +kernel⟩
theorem ok__law_picture_refused (D : DefX K mg "_law_picture_refused" s__law_picture_refused ["settings", "p", "name"] pats__law_picture_refused) (T : Txt w K mg AD) (c_PictureHeader___init__ : MakX P w K mg base 3 "PictureHeader" AD.c_PictureHeader (sp_PictureHeader___init__ K AD) (pats_PictureHeader___init__ AD)) : CalX P w K mg base 5 "_law_picture_refused" (sp__law_picture_refused K AD) pats__law_picture_refused := by
  refine D.ok sc__law_picture_refused (fun vs H Q E h => ?_) (fun f cdv A_ outer s H vs Q E hr h => ?_)
  · obtain ⟨G, p_settings, p_settings_fmt, dx_settings, dx_settings_fmt, settings', v_p, p', name', rfl, _⟩ := h
    rfl
  · obtain ⟨G, p_settings, p_settings_fmt, dx_settings, dx_settings_fmt, settings', v_p, p', name', rfl, sG, h_p_settings, h_p_settings_fmt, r_p, hw⟩ := h
    refine ⟨_, (pss_cons (ps_try_as (i := 3) rfl rfl sc__law_picture_refused.nd rfl rfl ⟨rfl, by decide, .inl T.xg_BadHeader⟩ (takes_of rfl rfl rfl rfl) (fun W pn xe tk pse => (pss_one (ps_expr (vx_makeX c_PictureHeader___init__ (pat_PictureHeader___init___0 AD) (.head _) hr (by decide) tk rfl (pa_cons (pv 0) pa_nil) (pk_cons (pe_ix (ix_listK (K := K)) (pv 1) pe_int (fun _ _ => rfl)) (pk_cons (pv 2) (pk_cons (pe_ix (ix_listK (K := K)) (pv 1) pe_int (fun _ _ => rfl)) (pk_cons (pe_ix (ix_listK (K := K)) (pv 1) pe_int (fun _ _ => rfl)) (pk_cons (pe_ix (ix_listK (K := K)) (pv 1) pe_int (fun _ _ => rfl)) (pk_cons (pe_ix (ix_listK (K := K)) (pv 1) pe_int (fun _ _ => rfl)) (pk_cons (pe_ix (ix_listK (K := K)) (pv 1) pe_int (fun _ _ => rfl)) (pk_cons (pe_cmp (pc_eqI (pe_ix (ix_listK (K := K)) (pv 1) pe_int (fun _ _ => rfl)) pe_int)) (pk_cons (pe_ix (ix_listK (K := K)) (pv 1) pe_int (fun _ _ => rfl)) pk_nil))))))))))))) (fun a oe cls d pn hz hf => (pss_one (ps_ret (pe_and (pe_callB (call_isX (K := K) hz hf) (by rfl) T.b_isinstance (by decide +kernel) (pa_cons (pv 3) (pa_cons (C8.pe_gc (v := V.ref AD.x_CodecError) rfl ⟨_, T.xg_CodecError, rfl⟩) pa_nil))) (pe_one (pe_not (pe_callB (call_isX (K := K) hz hf) (by rfl) T.b_isinstance (by decide +kernel) (pa_cons (pv 3) (pa_cons (C8.pe_gc (v := V.ref AD.x_BadFormat) rfl ⟨_, T.xg_BadFormat, rfl⟩) pa_nil))))))))))
      (pss_one (ps_ret pe_bl))), ?_⟩
    obtain ⟨KK, EE, hK0, hE, hw⟩ := cW_gen hw
    have S0 := Sep.startG sG
    unfold F__law_picture_refused at hw
    obtain ⟨a2496, vs2497, rfl, h2498, d2499⟩ := rp_list r_p
    obtain ⟨g2500, hw⟩ := cW_grd hw
    obtain ⟨v2501, a2502, r2503⟩ := RpAll.ixD (k := 0) d2499 g2500
    obtain ⟨g2504, hw⟩ := cW_grd hw
    have r2505 : Rp (hideL [] H) v2501 (PyData.int ((cI).dec ((itD (p') (0))))) := rp_dcast cI g2504 r2503
    obtain rfl := rp_int r2505
    obtain ⟨g2506, hw⟩ := cW_grd hw
    obtain ⟨v2507, a2508, r2509⟩ := RpAll.ixD (k := 2) d2499 g2506
    obtain ⟨g2510, hw⟩ := cW_grd hw
    have r2511 : Rp (hideL [] H) v2507 (PyData.int ((cI).dec ((itD (p') (2))))) := rp_dcast cI g2510 r2509
    obtain rfl := rp_int r2511
    obtain ⟨g2512, hw⟩ := cW_grd hw
    obtain ⟨v2513, a2514, r2515⟩ := RpAll.ixD (k := 3) d2499 g2512
    obtain ⟨g2516, hw⟩ := cW_grd hw
    have r2517 : Rp (hideL [] H) v2513 ((encL PyData.int) (((cL cI)).dec ((itD (p') (3))))) := rp_dcast (cL cI) g2516 r2515
    obtain ⟨a2518, rfl, h2519⟩ := rp_ints r2517
    obtain ⟨g2520, hw⟩ := cW_grd hw
    obtain ⟨v2521, a2522, r2523⟩ := RpAll.ixD (k := 4) d2499 g2520
    obtain ⟨g2524, hw⟩ := cW_grd hw
    have r2525 : Rp (hideL [] H) v2521 ((encL PyData.int) (((cL cI)).dec ((itD (p') (4))))) := rp_dcast (cL cI) g2524 r2523
    obtain ⟨a2526, rfl, h2527⟩ := rp_ints r2525
    obtain ⟨g2528, hw⟩ := cW_grd hw
    obtain ⟨v2529, a2530, r2531⟩ := RpAll.ixD (k := 5) d2499 g2528
    obtain ⟨g2532, hw⟩ := cW_grd hw
    have r2533 : Rp (hideL [] H) v2529 (PyData.int ((cI).dec ((itD (p') (5))))) := rp_dcast cI g2532 r2531
    obtain rfl := rp_int r2533
    obtain ⟨g2534, hw⟩ := cW_grd hw
    obtain ⟨v2535, a2536, r2537⟩ := RpAll.ixD (k := 6) d2499 g2534
    obtain ⟨g2538, hw⟩ := cW_grd hw
    have r2539 : Rp (hideL [] H) v2535 (PyData.int ((cI).dec ((itD (p') (6))))) := rp_dcast cI g2538 r2537
    obtain rfl := rp_int r2539
    obtain ⟨g2540, hw⟩ := cW_grd hw
    obtain ⟨v2541, a2542, r2543⟩ := RpAll.ixD (k := 7) d2499 g2540
    obtain ⟨g2544, hw⟩ := cW_grd hw
    have r2545 : Rp (hideL [] H) v2541 (PyData.int ((cI).dec ((itD (p') (7))))) := rp_dcast cI g2544 r2543
    obtain rfl := rp_int r2545
    obtain ⟨g2546, hw⟩ := cW_grd hw
    obtain ⟨v2547, a2548, r2549⟩ := RpAll.ixD (k := 8) d2499 g2546
    obtain ⟨g2550, hw⟩ := cW_grd hw
    have r2551 : Rp (hideL [] H) v2547 (PyData.int ((cI).dec ((itD (p') (8))))) := rp_dcast cI g2550 r2549
    obtain rfl := rp_int r2551
    refine ⟨_, rfl, _, rfl, _, _, _, _, rfl, rfl, (SqL.of (S0.bM _ _ h2498)), a2502, _, rfl, _, rfl, _, _, _, _, rfl, rfl, (SqL.of (S0.bM _ _ h2498)), a2508, _, rfl, _, _, _, _, rfl, rfl, (SqL.of (S0.bM _ _ h2498)), a2514, _, rfl, _, _, _, _, rfl, rfl, (SqL.of (S0.bM _ _ h2498)), a2522, _, rfl, _, _, _, _, rfl, rfl, (SqL.of (S0.bM _ _ h2498)), a2530, _, rfl, _, _, _, _, rfl, rfl, (SqL.of (S0.bM _ _ h2498)), a2536, _, rfl, _, _, _, _, rfl, rfl, (SqL.of (S0.bM _ _ h2498)), a2542, _, _, rfl, rfl, _, rfl, _, _, _, _, rfl, rfl, (SqL.of (S0.bM _ _ h2498)), a2548, rfl, rfl, fun x2552 dx2553 n2554 n2555 n2556 => ?_⟩
    generalize g2557 : upd (upd H dx2553 _) x2552 _ = H2558
    obtain ⟨e2559, h2560⟩ := gen_obj n2554 n2555 n2556 g2557
    have fr2561 := S0.free n2554
    have S2562 := S0.new n2554 e2559 h2560 fr2561
    refine ⟨G, _, _, _, _, _, _, settings', _, _, _, _, _, _, _, _, _, _, _, rfl, S2562.sG, (S2562.gno (all_cons (.head _) all_nil)), h2560, ((hideL_out (ni1 (b_ne h_p_settings S2562 (.head _)))).trans (S2562.bM _ _ h_p_settings)), ((hideL_out (ni1 (b_ne h_p_settings_fmt S2562 (.head _)))).trans (S2562.bM _ _ h_p_settings_fmt)), ⟨_, rfl, .inl ((hideL_out (ni1 (b_ne h2519 S2562 (.head _)))).trans (S2562.bM _ _ h2519))⟩, ⟨_, rfl, .inl ((hideL_out (ni1 (b_ne h2527 S2562 (.head _)))).trans (S2562.bM _ _ h2527))⟩, cW_try hw (fun v2563 hw H2566 l2564 l2565 x2567 n2572 n2573 ne2574 h2568 h2570 h2571 => ⟨rfl, ?_⟩) ?_⟩
    · have fr2575 := S2562.free n2572
      have fr2576 := S2562.free n2573
      have S2569 : Sep _ _ _ _ H2566 [l2564, l2565, x2552] := Sep.init S2562 x2567 (.head _) h2568 [l2564, l2565] (all_cons ⟨n2572, some_ne h2570, fr2575⟩ (all_cons ⟨n2573, some_ne h2571, fr2576⟩ all_nil))
      have hw := cW_ok hw
      exact hK0 _ hw _ S2569.b0
    · intro e hm hw H2577 e2578
      have e2580 := (same_mut e2559 e2578 n2554)
      have S2579 := S0.same e2580
      obtain rfl := mem_one hm
      refine ⟨true, T.xm_BadHeader_BadHeader, fun _ a2581 na2582 => ?_, fun q => nomatch q⟩
      refine ⟨_, rfl, _, _, _, rfl, rfl, T.xc_BadHeader, rfl, T.xo_BadHeader_CodecError, _, rfl, ?_⟩
      refine iteT ?_
      refine ⟨_, rfl, _, _, _, rfl, rfl, T.xc_BadHeader, rfl, T.xn_BadHeader_BadFormat, _, rfl, ?_⟩
      have hw := cW_ok hw
      exact hK0 _ hw _ S2579.b0

abbrev N_SliceHeader___init__ : List Str := ["self", "settings", "number", "index", "delta"]
theorem sc_SliceHeader___init__ : FnScope N_SliceHeader___init__ ["self", "settings", "number", "index", "delta"] (defScope s_SliceHeader___init__) := ⟨rfl, rfl, rfl, by decide +kernel, rfl, by decide +kernel, by decide +kernel⟩
theorem ok_SliceHeader___init__ (D : InitX K mg AD.c_SliceHeader "SliceHeader" "SliceHeader.__init__" s_SliceHeader___init__ ["self", "settings", "number", "index", "delta"] pats_SliceHeader___init__) (T : Txt w K mg AD) (c__require : CalX P w K mg base 1 "_require" (sp__require K AD) pats__require) (c_Settings_slices : MetX P w K mg base 2 AD.c_Settings "slices" (sp_Settings_slices K AD) pats_Settings_slices) : MakX P w K mg base 3 "SliceHeader" AD.c_SliceHeader (sp_SliceHeader___init__ K AD) pats_SliceHeader___init__ := by
  refine D.ok sc_SliceHeader___init__ (fun vs H Q E h => ?_) (fun f cdv A_ outer s H vs Q E hr h => ?_)
  · obtain ⟨G, p_self, dx_self, p_settings, p_settings_fmt, dx_settings, dx_settings_fmt, settings', number', index', delta', rfl, _⟩ := h
    rfl
  · obtain ⟨G, p_self, dx_self, p_settings, p_settings_fmt, dx_settings, dx_settings_fmt, settings', number', index', delta', rfl, sG, gM, h_self, h_p_settings, h_p_settings_fmt, hw⟩ := h
    refine ⟨_, (pss_cons (ps_expr (vx_callX c__require pat__require_0 (.head _) hr (by decide) (takes_of rfl rfl rfl rfl) rfl (pa_cons (pe_chain op_le op_le pe_int (pv 2) (C8.pe_gc rfl T.g_GREATEST_NUMBER)) (pa_cons pe_str pa_nil)) pk_nil))
      (C8.pss_cut (ps_expr (vx_callX c__require pat__require_0 (.head _) hr (by decide) (takes_of rfl rfl rfl rfl) rfl (pa_cons (pe_chain op_le op_lt pe_int (pv 3) (vx_methX0 c_Settings_slices pat_Settings_slices_0 (.head _) hr (by decide) (takes_of rfl rfl rfl rfl) (pv 1))) (pa_cons pe_str pa_nil)) pk_nil))
      (pss_cons (ps_expr (vx_callX c__require pat__require_0 (.head _) hr (by decide) (takes_of rfl rfl rfl rfl) rfl (pa_cons (pe_chain op_le op_le (pe_un un_neg (C8.pe_gc rfl T.g_GREATEST_LEVEL)) (pv 4) (C8.pe_gc rfl T.g_GREATEST_LEVEL)) (pa_cons pe_str pa_nil)) pk_nil))
      (pss_cons (ps_fld (pv 0) (pv 2) rfl)
      (pss_cons (ps_fld (pv 0) (pv 3) rfl)
      (pss_one (ps_fld (pv 0) (pv 4) rfl))))))), ?_⟩
    obtain ⟨KK, EE, hK0, hE, hw⟩ := cW_gen hw
    have S0 := Sep.startM (M := [p_self]) sG (all_cons (some_ne h_self) all_nil) gM
    unfold F_SliceHeader___init__ at hw
    refine vv_chain (ta := (tC (V.int 0))) (tb := (tVar 2)) (tc := (tC (V.int 999))) (r := (rI0 fun i j => V.bl (decide (i ≤ j)))) (r' := (rI0 fun i j => V.bl (decide (i ≤ j)))) (x := V.int (0)) (y := V.int (number')) (z := V.int (999)) (a := decide (0 ≤ number')) (b := decide (number' ≤ 999)) ?hx2583 ?hy2584 ?hz2585 (fun Q q => ⟨_, _, rfl, rfl, q⟩) (fun Q q => ⟨_, _, rfl, rfl, q⟩) _ ?_
    case hx2583 => exact val_c
    case hy2584 => exact (val_var rfl)
    case hz2585 => exact val_c
    refine ⟨rfl, rfl, G, _, _, rfl, S0.sG, cW_call hw (fun v2586 hw => ?_) (fun e he => hE e he _ (sameX_of S0.base))⟩
    refine ⟨fun σ H' => ∃ (G' : Hp), σ = [some (V.ref p_self), some (V.ref p_settings), some (V.int (number')), some (V.int (index')), some (V.int (delta'))] ∧ Same G G' ∧ Sep [p_self] H G G' H' [p_self] ∧ H' p_self = some (.ins AD.c_SliceHeader dx_self []) ∧ cW (F_SliceHeader___init___k1 (number') (index') (delta') ) KK EE, ?_, ?_⟩
    · obtain ⟨K2590, hK2591, hw⟩ := cW_push hw
      refine ⟨_, rfl, _, _, rfl, rfl, _, rfl, ?_⟩
      refine iteD (fun c2592 => ?_) (fun c2592 => ?_)
      · have hw := cW_pos c2592 hw
        refine ⟨_, rfl, _, _, _, rfl, (S0.bM _ _ h_p_settings), rfl, rfl, rfl, G, _, _, _, _, settings', rfl, S0.sG, (hide_nil (S0.bM _ _ h_p_settings)), (hide_nil (S0.bM _ _ h_p_settings_fmt)), cW_call hw (fun v2593 hw H2594 e2595 => ?_) (fun e he H2 e2 => hE e he H2 (fun b o h n => e2 _ _ ((sameX_of S0.base) b o h n)))⟩
        have S2596 := S0.same e2595
        refine ⟨_, _, rfl, rfl, rfl, rfl, G, _, _, rfl, S2596.sG, cW_call hw (fun v2597 hw => ?_) (fun e he => hE e he _ (sameX_of S2596.base))⟩
        have hw := cW_ok hw
        have hw := hK2591 _ hw
        have h2598 := (e2595 _ _ h_self)
        exact ⟨_, rfl, (Same.refl _), S2596, h2598, hw⟩
      · have hw := cW_neg c2592 hw
        refine ⟨rfl, rfl, G, _, _, rfl, S0.sG, cW_call hw (fun v2599 hw => ?_) (fun e he => hE e he _ (sameX_of S0.base))⟩
        have hw := cW_ok hw
        have hw := hK2591 _ hw
        exact ⟨_, rfl, (Same.refl _), S0, h_self, hw⟩
    · intro σ H2600 hw
      obtain ⟨G2603, rfl, eG2604, S2601, h2602, hw⟩ := hw
      unfold F_SliceHeader___init___k1 at hw
      refine vv_chain (ta := (tUn (rU fun i => V.int (-i)) (tC (V.int 31)))) (tb := (tVar 4)) (tc := (tC (V.int 31))) (r := (rI0 fun i j => V.bl (decide (i ≤ j)))) (r' := (rI0 fun i j => V.bl (decide (i ≤ j)))) (x := V.int ((-31))) (y := V.int (delta')) (z := V.int (31)) (a := decide ((-31) ≤ delta')) (b := decide (delta' ≤ 31)) ?hx2605 ?hy2606 ?hz2607 (fun Q q => ⟨_, _, rfl, rfl, q⟩) (fun Q q => ⟨_, _, rfl, rfl, q⟩) _ ?_
      case hx2605 => exact (vv_un val_c (fun Q q => ⟨_, rfl, q⟩))
      case hy2606 => exact (val_var rfl)
      case hz2607 => exact val_c
      refine ⟨rfl, rfl, G2603, _, _, rfl, S2601.sG, cW_call hw (fun v2608 hw => ?_) (fun e he => hE e he _ (sameX_of S2601.base))⟩
      refine ⟨_, rfl, _, rfl, _, _, _, _, rfl, h2602, T.cl_SliceHeader, T.n_SliceHeader_number, (by show 0 < 1000; decide), ?_⟩
      generalize g2609 : upd H2600 p_self _ = H2610
      obtain ⟨x2611, h2612⟩ := gen_mut g2609
      have h2613 : H2610 p_self = some (.ins AD.c_SliceHeader dx_self [("number", V.int (number'))]) := h2612
      have S2614 := S2601.mut1 x2611 (.head _) h2613
      refine ⟨_, rfl, _, rfl, _, _, _, _, rfl, h2613, T.cl_SliceHeader, T.n_SliceHeader_index, (by show 1 < 1000; decide), ?_⟩
      generalize g2615 : upd H2610 p_self _ = H2616
      obtain ⟨x2617, h2618⟩ := gen_mut g2615
      have h2619 : H2616 p_self = some (.ins AD.c_SliceHeader dx_self [("number", V.int (number')), ("index", V.int (index'))]) := h2618
      have S2620 := S2614.mut1 x2617 (.head _) h2619
      refine ⟨_, rfl, _, rfl, _, _, _, _, rfl, h2619, T.cl_SliceHeader, T.n_SliceHeader_delta, (by show 2 < 1000; decide), ?_⟩
      generalize g2621 : upd H2616 p_self _ = H2622
      obtain ⟨x2623, h2624⟩ := gen_mut g2621
      have h2625 : H2622 p_self = some (.ins AD.c_SliceHeader dx_self [("number", V.int (number')), ("index", V.int (index')), ("delta", V.int (delta'))]) := h2624
      have S2626 := S2620.mut1 x2623 (.head _) h2625
      have hw := cW_ok hw
      exact hK0 _ hw _ (sameX_of S2626.base) h2625

abbrev N__law_slice_refused : List Str := ["settings", "number", "index", "delta", "e"]
theorem sc__law_slice_refused : FnScope N__law_slice_refused ["settings", "number", "index", "delta"] (defScope s__law_slice_refused) := ⟨rfl, rfl, rfl, by decide +kernel, rfl, by decide +kernel, by decide +kernel⟩
theorem ok__law_slice_refused (D : DefX K mg "_law_slice_refused" s__law_slice_refused ["settings", "number", "index", "delta"] pats__law_slice_refused) (T : Txt w K mg AD) (c_SliceHeader___init__ : MakX P w K mg base 3 "SliceHeader" AD.c_SliceHeader (sp_SliceHeader___init__ K AD) pats_SliceHeader___init__) : CalX P w K mg base 5 "_law_slice_refused" (sp__law_slice_refused K AD) pats__law_slice_refused := by
  refine D.ok sc__law_slice_refused (fun vs H Q E h => ?_) (fun f cdv A_ outer s H vs Q E hr h => ?_)
  · obtain ⟨G, p_settings, p_settings_fmt, dx_settings, dx_settings_fmt, settings', number', index', delta', rfl, _⟩ := h
    rfl
  · obtain ⟨G, p_settings, p_settings_fmt, dx_settings, dx_settings_fmt, settings', number', index', delta', rfl, sG, h_p_settings, h_p_settings_fmt, hw⟩ := h
    refine ⟨_, (pss_cons (ps_try_as (i := 4) rfl rfl sc__law_slice_refused.nd rfl rfl ⟨rfl, by decide, .inl T.xg_BadHeader⟩ (takes_of rfl rfl rfl rfl) (fun W pn xe tk pse => (pss_one (ps_expr (vx_makeX c_SliceHeader___init__ pat_SliceHeader___init___0 (.head _) hr (by decide) tk rfl (pa_cons (pv 0) pa_nil) (pk_cons (pv 1) (pk_cons (pv 2) (pk_cons (pv 3) pk_nil))))))) (fun a oe cls d pn hz hf => (pss_one (ps_ret (pe_and (pe_callB (call_isX (K := K) hz hf) (by rfl) T.b_isinstance (by decide +kernel) (pa_cons (pv 4) (pa_cons (C8.pe_gc (v := V.ref AD.x_CodecError) rfl ⟨_, T.xg_CodecError, rfl⟩) pa_nil))) (pe_one (pe_not (pe_callB (call_isX (K := K) hz hf) (by rfl) T.b_isinstance (by decide +kernel) (pa_cons (pv 4) (pa_cons (C8.pe_gc (v := V.ref AD.x_BadFormat) rfl ⟨_, T.xg_BadFormat, rfl⟩) pa_nil))))))))))
      (pss_one (ps_ret pe_bl))), ?_⟩
    obtain ⟨KK, EE, hK0, hE, hw⟩ := cW_gen hw
    have S0 := Sep.startG sG
    unfold F__law_slice_refused at hw
    refine ⟨_, rfl, _, rfl, _, rfl, _, rfl, rfl, rfl, fun x2627 dx2628 n2629 n2630 n2631 => ?_⟩
    generalize g2632 : upd (upd H dx2628 _) x2627 _ = H2633
    obtain ⟨e2634, h2635⟩ := gen_obj n2629 n2630 n2631 g2632
    have fr2636 := S0.free n2629
    have S2637 := S0.new n2629 e2634 h2635 fr2636
    refine ⟨G, _, _, _, _, _, _, settings', _, _, _, rfl, S2637.sG, (S2637.gno (all_cons (.head _) all_nil)), h2635, ((hideL_out (ni1 (b_ne h_p_settings S2637 (.head _)))).trans (S2637.bM _ _ h_p_settings)), ((hideL_out (ni1 (b_ne h_p_settings_fmt S2637 (.head _)))).trans (S2637.bM _ _ h_p_settings_fmt)), cW_try hw (fun v2638 hw H2639 x2640 h2641 => ⟨rfl, ?_⟩) ?_⟩
    · have S2642 : Sep _ _ _ _ H2639 [x2627] := Sep.init S2637 x2640 (.head _) h2641 [] all_nil
      have hw := cW_ok hw
      exact hK0 _ hw _ S2642.b0
    · intro e hm hw H2643 e2644
      have e2646 := (same_mut e2634 e2644 n2629)
      have S2645 := S0.same e2646
      obtain rfl := mem_one hm
      refine ⟨true, T.xm_BadHeader_BadHeader, fun _ a2647 na2648 => ?_, fun q => nomatch q⟩
      refine ⟨_, rfl, _, _, _, rfl, rfl, T.xc_BadHeader, rfl, T.xo_BadHeader_CodecError, _, rfl, ?_⟩
      refine iteT ?_
      refine ⟨_, rfl, _, _, _, rfl, rfl, T.xc_BadHeader, rfl, T.xn_BadHeader_BadFormat, _, rfl, ?_⟩
      have hw := cW_ok hw
      exact hK0 _ hw _ S2645.b0

abbrev N_law : List Str := ["script", "n", "far", "bad", "settings", "p", "name", "fault", "count"]
theorem sc_law : FnScope N_law ["script"] (defScope s_law) := ⟨rfl, rfl, rfl, by decide +kernel, rfl, by decide +kernel, by decide +kernel⟩
theorem ok_law {f : Addr} {fd : FuncData} (F : FunD K "law" "law" (defArgs s_law) (defBody s_law) (defScope s_law) [] [] f fd) (T : Txt w K mg AD) (c__law_numbers : CalX P w K mg base 2 "_law_numbers" (sp__law_numbers K AD) pats__law_numbers) (c__law_cell : CalX P w K mg base 1 "_law_cell" (sp__law_cell K AD) pats__law_cell) (c__law_draws : CalX P w K mg base 1 "_law_draws" (sp__law_draws K AD) pats__law_draws) (c__law_settings_refused : CalX P w K mg base 4 "_law_settings_refused" (sp__law_settings_refused K AD) pats__law_settings_refused) (c__law_settings : CalX P w K mg base 4 "_law_settings" (sp__law_settings K AD) pats__law_settings) (c__law_picture : CalX P w K mg base 2 "_law_picture" (sp__law_picture K AD) pats__law_picture) (c__law_header : CalX P w K mg base 5 "_law_header" (sp__law_header K AD) pats__law_header) (c__law_picture_refused : CalX P w K mg base 5 "_law_picture_refused" (sp__law_picture_refused K AD) pats__law_picture_refused) (c__law_faults : CalX P w K mg base 2 "_law_faults" (sp__law_faults K AD) pats__law_faults) (c_Settings_slices : MetX P w K mg base 2 AD.c_Settings "slices" (sp_Settings_slices K AD) pats_Settings_slices) (c__law_slice_refused : CalX P w K mg base 5 "_law_slice_refused" (sp__law_slice_refused K AD) pats__law_slice_refused) (c_SliceHeader___init__ : MakX P w K mg base 3 "SliceHeader" AD.c_SliceHeader (sp_SliceHeader___init__ K AD) pats_SliceHeader___init__) : FnG P w K mg base CX0 6 f fd ["script"] (sp_law K AD) := by
  refine FnG.bodyN F sc_law (fun vs H Q E h => ?_) (fun cdv A_ outer s H vs Q E hr h => ?_)
  · obtain ⟨a_script, script, rfl, _⟩ := h
    rfl
  · obtain ⟨a_script, script', rfl, q_script, hw, k⟩ := h
    refine ⟨_, (pss_cons (ps_set (i := 1) sc_law.nd rfl (Or.inl rfl) (vx_callX c__law_numbers pat__law_numbers_0 (.head _) hr (by decide) takes0 rfl (pa_cons (vx_callX c__law_cell pat__law_cell_0 (.head _) hr (by decide) takes0 rfl (pa_cons (pv 0) (pa_cons pe_int pa_nil)) pk_nil) pa_nil) pk_nil))
      (pss_cons (ps_set (i := 2) sc_law.nd rfl (Or.inl rfl) (pe_op op_add pe_int (pe_ix (ix_listK (K := K)) (vx_callX c__law_draws pat__law_draws_0 (.head _) hr (by decide) takes0 rfl (pa_cons (vx_callX c__law_cell pat__law_cell_0 (.head _) hr (by decide) takes0 rfl (pa_cons (pv 0) (pa_cons pe_int pa_nil)) pk_nil) (pa_cons (pe_lst (pa_cons pe_int pa_nil)) pa_nil)) pk_nil) pe_int (fun _ _ => rfl))))
      (pss_cons (ps_for PassesOwn.never rfl (pi_listK (K := K) (pe_lst (pa_cons (pe_tup (pa_cons pe_int (pa_cons pe_int (pa_cons pe_int pa_nil)))) (pa_cons (pe_tup (pa_cons pe_int (pa_cons pe_int (pa_cons pe_int pa_nil)))) (pa_cons (pe_tup (pa_cons pe_int (pa_cons pe_int (pa_cons pe_int pa_nil)))) (pa_cons (pe_tup (pa_cons (pe_op op_add pe_int (pv 2)) (pa_cons pe_int (pa_cons pe_int pa_nil)))) (pa_cons (pe_tup (pa_cons pe_int (pa_cons (pe_op op_add pe_int (pv 2)) (pa_cons pe_int pa_nil)))) (pa_cons (pe_tup (pa_cons pe_int (pa_cons pe_int (pa_cons (pe_op op_add pe_int (pv 2)) pa_nil)))) (pa_cons (pe_tup (pa_cons (pe_un un_neg (pv 2)) (pa_cons pe_int (pa_cons pe_int pa_nil)))) (pa_cons (pe_tup (pa_cons pe_int (pa_cons (pe_un un_neg (pv 2)) (pa_cons pe_int pa_nil)))) pa_nil)))))))))) (pg_name (i := 3) sc_law.nd rfl (Or.inl rfl)) (pss_one (ps_if (pt_not (pt_val (vx_callX c__law_settings_refused pat__law_settings_refused_0 (.head _) hr (by decide) takes0 rfl (pa_cons (pv 1) (pa_cons (pe_ix (ix_tupK (K := K)) (pv 3) pe_int (fun _ _ => rfl)) (pa_cons (pe_ix (ix_tupK (K := K)) (pv 3) pe_int (fun _ _ => rfl)) (pa_cons (pe_ix (ix_tupK (K := K)) (pv 3) pe_int (fun _ _ => rfl)) pa_nil)))) pk_nil))) (pss_one (ps_ret pe_bl)) pss_nil)))
      (pss_cons (ps_set (i := 4) sc_law.nd rfl (Or.inl rfl) (vx_callX c__law_settings pat__law_settings_0 (.head _) hr (by decide) takes0 rfl (pa_cons (pv 1) pa_nil) pk_nil))
      (pss_cons (ps_set (i := 5) sc_law.nd rfl (Or.inl rfl) (vx_callX c__law_picture pat__law_picture_0 (.head _) hr (by decide) takes0 rfl (pa_cons (vx_callX c__law_cell pat__law_cell_0 (.head _) hr (by decide) takes0 rfl (pa_cons (pv 0) (pa_cons pe_int pa_nil)) pk_nil) (pa_cons (pv 1) pa_nil)) pk_nil))
      (pss_cons (ps_set (i := 6) sc_law.nd rfl (Or.inl rfl) (pe_ix (ix_listK (K := K)) (pe_lst (pa_cons pe_str (pa_cons pe_str (pa_cons pe_str pa_nil)))) (pe_ix (ix_listK (K := K)) (pv 5) pe_int (fun _ _ => rfl)) (fun _ _ => rfl)))
      (pss_cons (ps_if (pt_cmpR op_ne (fldK (K := K) (vx_callX c__law_header pat__law_header_0 (.head _) hr (by decide) takes0 rfl (pa_cons (pv 4) (pa_cons (pv 5) pa_nil)) pk_nil)) (pv 6) (nomark _)) (pss_one (ps_ret pe_bl)) pss_nil)
      (pss_cons (ps_for PassesOwn.never rfl (pi_listK (K := K) (vx_callX c__law_faults pat__law_faults_0 (.head _) hr (by decide) takes0 rfl (pa_cons (pv 5) (pa_cons (pv 1) (pa_cons (pv 2) pa_nil))) pk_nil)) (pg_name (i := 7) sc_law.nd rfl (Or.inl rfl)) (pss_one (ps_if (pt_not (pt_val (vx_callX c__law_picture_refused pat__law_picture_refused_0 (.head _) hr (by decide) takes0 rfl (pa_cons (pv 4) (pa_cons (pv 7) (pa_cons (pv 6) pa_nil))) pk_nil))) (pss_one (ps_ret pe_bl)) pss_nil)))
      (pss_cons (ps_for PassesOwn.never rfl (pi_listK (K := K) (pe_lst (pa_cons pe_str (pa_cons pe_str (pa_cons pe_str (pa_cons pe_str (pa_cons pe_str (pa_cons pe_str (pa_cons pe_str pa_nil))))))))) (pg_name (i := 3) sc_law.nd rfl (Or.inl rfl)) (pss_one (ps_if (pt_not (pt_val (vx_callX c__law_picture_refused pat__law_picture_refused_0 (.head _) hr (by decide) takes0 rfl (pa_cons (pv 4) (pa_cons (pv 5) (pa_cons (pv 3) pa_nil))) pk_nil))) (pss_one (ps_ret pe_bl)) pss_nil)))
      (pss_cons (ps_set (i := 8) sc_law.nd rfl (Or.inl rfl) (vx_methX0 c_Settings_slices pat_Settings_slices_0 (.head _) hr (by decide) takes0 (pv 4)))
      (pss_cons (ps_for PassesOwn.never rfl (pi_listK (K := K) (pe_lst (pa_cons (pe_tup (pa_cons (pe_op op_add pe_int (pv 2)) (pa_cons pe_int (pa_cons pe_int pa_nil)))) (pa_cons (pe_tup (pa_cons (pe_un un_neg (pv 2)) (pa_cons pe_int (pa_cons pe_int pa_nil)))) (pa_cons (pe_tup (pa_cons pe_int (pa_cons (pe_op op_add (pe_op op_sub (pv 8) pe_int) (pv 2)) (pa_cons pe_int pa_nil)))) (pa_cons (pe_tup (pa_cons pe_int (pa_cons (pe_un un_neg (pv 2)) (pa_cons pe_int pa_nil)))) (pa_cons (pe_tup (pa_cons pe_int (pa_cons pe_int (pa_cons (pe_op op_add pe_int (pv 2)) pa_nil)))) (pa_cons (pe_tup (pa_cons pe_int (pa_cons pe_int (pa_cons (pe_op op_sub (pe_un un_neg pe_int) (pv 2)) pa_nil)))) pa_nil)))))))) (pg_name (i := 3) sc_law.nd rfl (Or.inl rfl)) (pss_one (ps_if (pt_not (pt_val (vx_callX c__law_slice_refused pat__law_slice_refused_0 (.head _) hr (by decide) takes0 rfl (pa_cons (pv 4) (pa_cons (pe_ix (ix_tupK (K := K)) (pv 3) pe_int (fun _ _ => rfl)) (pa_cons (pe_ix (ix_tupK (K := K)) (pv 3) pe_int (fun _ _ => rfl)) (pa_cons (pe_ix (ix_tupK (K := K)) (pv 3) pe_int (fun _ _ => rfl)) pa_nil)))) pk_nil))) (pss_one (ps_ret pe_bl)) pss_nil)))
      (pss_one (ps_ret (pe_cmp (pc_eqI (fldK (K := K) (vx_makeX c_SliceHeader___init__ pat_SliceHeader___init___0 (.head _) hr (by decide) takes0 rfl (pa_cons (pv 4) pa_nil) (pk_cons (pe_ix (ix_listK (K := K)) (pv 5) pe_int (fun _ _ => rfl)) (pk_cons (pe_op op_sub (pv 8) pe_int) (pk_cons (pe_un un_neg pe_int) pk_nil))))) (pe_un un_neg pe_int)))))))))))))))), ?_⟩
    obtain ⟨KK, EE, hK0, hE, hw⟩ := cW_gen hw
    have S0 := Sep.start0 H
    unfold F_law at hw
    refine ⟨_, rfl, rfl, rfl, H, _, _, _, rfl, S0.sG, (S0.b0.seq q_script), cW_call hw (fun v2649 hw => ?_) (fun e he => (hE e he).elim)⟩
    refine ⟨rfl, rfl, H, _, rfl, S0.sG, cW_call hw (fun v2650 hw p2653 H2651 n2654 e2652 h2655 => ?_) (fun e he => (hE e he).elim)⟩
    have h2656 : H2651 p2653 = some (.lst ((v2650 : (List Int)).map V.int)) := h2655
    have fr2657 := S0.free n2654
    have S2658 := S0.new n2654 e2652 h2656 fr2657
    refine ⟨_, rfl, rfl, rfl, H, _, _, _, rfl, S2658.sG, (S2658.b0.seq q_script), cW_call hw (fun v2659 hw => ?_) (fun e he => (hE e he).elim)⟩
    refine ⟨(by show 1 ≤ sizeLine; decide), fun p2660 n2661 => ?_⟩
    generalize g2662 : upd H2651 p2660 _ = H2663
    obtain ⟨e2664, h2665⟩ := gen_new n2661 g2662
    have h2666 : H2663 p2660 = some (.lst (([1000] : (List Int)).map V.int)) := h2665
    have fr2667 := S2658.free n2661
    have S2668 := S2658.new n2661 e2664 h2666 fr2667
    refine ⟨rfl, rfl, H, _, _, _, rfl, S2668.sG, (hide_nil h2666), cW_call hw (fun v2669 hw p2672 H2670 n2673 e2671 h2674 => ?_) (fun e he => (hE e he).elim)⟩
    have h2675 : H2670 p2672 = some (.lst ((v2669 : (List Int)).map V.int)) := h2674
    have fr2676 := S2668.free n2673
    have S2677 := S2668.new n2673 e2671 h2675 fr2676
    obtain ⟨g2678, hw⟩ := cW_grd hw
    refine ⟨_, _, _, _, rfl, rfl, (SqL.of h2675), (atI_map g2678), _, _, rfl, rfl, ?_⟩
    have hw := cW_bnd hw
    refine ⟨(by show 3 ≤ sizeLine; decide), fun p2680 n2681 => ?_⟩
    generalize g2682 : upd H2670 p2680 _ = H2683
    obtain ⟨e2684, h2685⟩ := gen_new n2681 g2682
    have h2686 : H2683 p2680 = some (.tup [V.int (0), V.int (1), V.int (1)]) := h2685
    have fr2687 := S2677.free n2681
    obtain ⟨G2689, eG2690, hg2691, S2688⟩ := S2677.grow n2681 e2684 h2686 fr2687
    refine ⟨(by show 3 ≤ sizeLine; decide), fun p2692 n2693 => ?_⟩
    generalize g2694 : upd H2683 p2692 _ = H2695
    obtain ⟨e2696, h2697⟩ := gen_new n2693 g2694
    have h2698 : H2695 p2692 = some (.tup [V.int (1), V.int (0), V.int (1)]) := h2697
    have fr2699 := S2688.free n2693
    obtain ⟨G2701, eG2702, hg2703, S2700⟩ := S2688.grow n2693 e2696 h2698 fr2699
    refine ⟨(by show 3 ≤ sizeLine; decide), fun p2704 n2705 => ?_⟩
    generalize g2706 : upd H2695 p2704 _ = H2707
    obtain ⟨e2708, h2709⟩ := gen_new n2705 g2706
    have h2710 : H2707 p2704 = some (.tup [V.int (1), V.int (1), V.int (0)]) := h2709
    have fr2711 := S2700.free n2705
    obtain ⟨G2713, eG2714, hg2715, S2712⟩ := S2700.grow n2705 e2708 h2710 fr2711
    refine ⟨_, rfl, _, _, rfl, rfl, (by show 3 ≤ sizeLine; decide), fun p2716 n2717 => ?_⟩
    generalize g2718 : upd H2707 p2716 _ = H2719
    obtain ⟨e2720, h2721⟩ := gen_new n2717 g2718
    have h2722 : H2719 p2716 = some (.tup [V.int ((4 + (1 + (itD (v2669) (0))))), V.int (1), V.int (1)]) := h2721
    have fr2723 := S2712.free n2717
    obtain ⟨G2725, eG2726, hg2727, S2724⟩ := S2712.grow n2717 e2720 h2722 fr2723
    refine ⟨_, rfl, _, _, rfl, rfl, (by show 3 ≤ sizeLine; decide), fun p2728 n2729 => ?_⟩
    generalize g2730 : upd H2719 p2728 _ = H2731
    obtain ⟨e2732, h2733⟩ := gen_new n2729 g2730
    have h2734 : H2731 p2728 = some (.tup [V.int (1), V.int ((32 + (1 + (itD (v2669) (0))))), V.int (1)]) := h2733
    have fr2735 := S2724.free n2729
    obtain ⟨G2737, eG2738, hg2739, S2736⟩ := S2724.grow n2729 e2732 h2734 fr2735
    refine ⟨_, rfl, _, _, rfl, rfl, (by show 3 ≤ sizeLine; decide), fun p2740 n2741 => ?_⟩
    generalize g2742 : upd H2731 p2740 _ = H2743
    obtain ⟨e2744, h2745⟩ := gen_new n2741 g2742
    have h2746 : H2743 p2740 = some (.tup [V.int (1), V.int (1), V.int ((4 + (1 + (itD (v2669) (0)))))]) := h2745
    have fr2747 := S2736.free n2741
    obtain ⟨G2749, eG2750, hg2751, S2748⟩ := S2736.grow n2741 e2744 h2746 fr2747
    refine ⟨_, rfl, _, rfl, (by show 3 ≤ sizeLine; decide), fun p2752 n2753 => ?_⟩
    generalize g2754 : upd H2743 p2752 _ = H2755
    obtain ⟨e2756, h2757⟩ := gen_new n2753 g2754
    have h2758 : H2755 p2752 = some (.tup [V.int ((-(1 + (itD (v2669) (0))))), V.int (2), V.int (2)]) := h2757
    have fr2759 := S2748.free n2753
    obtain ⟨G2761, eG2762, hg2763, S2760⟩ := S2748.grow n2753 e2756 h2758 fr2759
    refine ⟨_, rfl, _, rfl, (by show 3 ≤ sizeLine; decide), fun p2764 n2765 => ?_⟩
    generalize g2766 : upd H2755 p2764 _ = H2767
    obtain ⟨e2768, h2769⟩ := gen_new n2765 g2766
    have h2770 : H2767 p2764 = some (.tup [V.int (2), V.int ((-(1 + (itD (v2669) (0))))), V.int (2)]) := h2769
    have fr2771 := S2760.free n2765
    obtain ⟨G2773, eG2774, hg2775, S2772⟩ := S2760.grow n2765 e2768 h2770 fr2771
    refine ⟨(by show 8 ≤ sizeLine; decide), fun p2776 n2777 => ?_⟩
    generalize g2778 : upd H2767 p2776 _ = H2779
    obtain ⟨e2780, h2781⟩ := gen_new n2777 g2778
    have h2782 : H2779 p2776 = some (.lst ([V.ref p2680, V.ref p2692, V.ref p2704, V.ref p2716, V.ref p2728, V.ref p2740, V.ref p2752, V.ref p2764])) := h2781
    have fr2783 := S2772.free n2777
    have S2784 := S2772.new n2777 e2780 h2782 fr2783
    have d2785 : RpAll G2773 ([V.ref p2680, V.ref p2692, V.ref p2704, V.ref p2716, V.ref p2728, V.ref p2740, V.ref p2752, V.ref p2764]) (([(0, 1, 1), (1, 0, 1), (1, 1, 0), ((4 + (1 + (itD (v2669) (0)))), 1, 1), (1, (32 + (1 + (itD (v2669) (0)))), 1), (1, 1, (4 + (1 + (itD (v2669) (0))))), ((-(1 + (itD (v2669) (0)))), 2, 2), (2, (-(1 + (itD (v2669) (0)))), 2)] : (List (Int × Int × Int))).map (encT3 PyData.int PyData.int PyData.int)) := (RpAll.cons (rp_mk3 (eG2774 _ _ (eG2762 _ _ (eG2750 _ _ (eG2738 _ _ (eG2726 _ _ (eG2714 _ _ (eG2702 _ _ hg2691))))))) (.int _) (.int _) (.int _)) (RpAll.cons (rp_mk3 (eG2774 _ _ (eG2762 _ _ (eG2750 _ _ (eG2738 _ _ (eG2726 _ _ (eG2714 _ _ hg2703)))))) (.int _) (.int _) (.int _)) (RpAll.cons (rp_mk3 (eG2774 _ _ (eG2762 _ _ (eG2750 _ _ (eG2738 _ _ (eG2726 _ _ hg2715))))) (.int _) (.int _) (.int _)) (RpAll.cons (rp_mk3 (eG2774 _ _ (eG2762 _ _ (eG2750 _ _ (eG2738 _ _ hg2727)))) (.int _) (.int _) (.int _)) (RpAll.cons (rp_mk3 (eG2774 _ _ (eG2762 _ _ (eG2750 _ _ hg2739))) (.int _) (.int _) (.int _)) (RpAll.cons (rp_mk3 (eG2774 _ _ (eG2762 _ _ hg2751)) (.int _) (.int _) (.int _)) (RpAll.cons (rp_mk3 (eG2774 _ _ hg2763) (.int _) (.int _) (.int _)) (RpAll.cons (rp_mk3 hg2775 (.int _) (.int _) (.int _)) RpAll.nil))))))))
    obtain ⟨K2790, hK2791, hw⟩ := cW_push hw
    refine ⟨_, rfl, ⟨_, (SqL.of h2782)⟩, for_list (K := K) (a := p2776) (xs := [V.ref p2680, V.ref p2692, V.ref p2704, V.ref p2716, V.ref p2728, V.ref p2740, V.ref p2752, V.ref p2764]) (fun i σ H' => ∃ (u2792 : Option V) (G' : Hp), σ = [some (V.ref a_script), some (V.ref p2653), some (V.int ((1 + (itD (v2669) (0))))), u2792, none, none, none, none, none] ∧ Same G2773 G' ∧ Sep [] H H G' H' [p2653, p2776] ∧ H' p2653 = some (.lst ((v2650 : (List Int)).map V.int)) ∧ H' p2776 = some (.lst ([V.ref p2680, V.ref p2692, V.ref p2704, V.ref p2716, V.ref p2728, V.ref p2740, V.ref p2752, V.ref p2764])) ∧ cW (forR (List.drop i ([(0, 1, 1), (1, 0, 1), (1, 1, 0), ((4 + (1 + (itD (v2669) (0)))), 1, 1), (1, (32 + (1 + (itD (v2669) (0)))), 1), (1, 1, (4 + (1 + (itD (v2669) (0))))), ((-(1 + (itD (v2669) (0)))), 2, 2), (2, (-(1 + (itD (v2669) (0)))), 2)])) () (fun s x => F_law_b1 (v2650)  x)) K2790 EE) ?_ ?_ ?_ ?_⟩
    · have h2793 := (e2780 _ _ (e2768 _ _ (e2756 _ _ (e2744 _ _ (e2732 _ _ (e2720 _ _ (e2708 _ _ (e2696 _ _ (e2684 _ _ (e2671 _ _ (e2664 _ _ h2656)))))))))))
      exact ⟨_, _, rfl, (Same.refl _), (S2784.sub (all_cons (.tail _ (.tail _ (.tail _ (.head _)))) (all_cons (.head _) all_nil))), h2793, h2782, hw⟩
    · intro i σ H2794 _ hw
      obtain ⟨u2792, G2798, rfl, eG2799, S2795, h2796, h2797, hw⟩ := hw
      exact (SqL.of h2797)
    · intro i x σ H2800 hj hw
      obtain ⟨u2792, G2804, rfl, eG2805, S2801, h2802, h2803, hw⟩ := hw
      obtain ⟨x2806, hx, r2807⟩ := RpAll.get (RpAll.mono eG2805 d2785) hj
      obtain ⟨a2808, v2810, v2811, v2812, rfl, h2809, r2813, r2814, r2815⟩ := rp_tup3 r2807
      obtain rfl := rp_int r2813
      obtain rfl := rp_int r2814
      obtain rfl := rp_int r2815
      have hw := cW_forR hx hw
      have hw : cW (F_law_b1 (v2650)  (x2806)) _ EE := hw
      unfold F_law_b1 at hw
      obtain ⟨K2816, hK2817, hw⟩ := cW_name hw
      refine ⟨_, rfl, _, rfl, _, _, _, _, rfl, rfl, (SqT.of (S2801.sG _ _ h2809)), rfl, _, rfl, _, _, _, _, rfl, rfl, (SqT.of (S2801.sG _ _ h2809)), rfl, _, rfl, _, _, _, _, rfl, rfl, (SqT.of (S2801.sG _ _ h2809)), rfl, rfl, rfl, G2804, _, _, _, _, _, rfl, S2801.sG, (hide_nil h2802), cW_call hw (fun v2819 hw H2820 e2821 => ?_) (fun e he => (hE e he).elim)⟩
      have S2822 := S2801.same e2821
      refine ⟨_, rfl, ?_⟩
      refine iteBN (fun c2823 => ?_) (fun c2823 => ?_)
      · have hw := cW_negB c2823 hw
        have hw := cW_ok hw
        have hw := hK2817 (.rt _) hw
        have hw := hK2791 (.rt _) hw
        have hw := cW_ok hw
        exact eq_bl (k _) (hK0 _ hw).symm
      · have hw := cW_pos c2823 hw
        have hw := cW_ok hw
        have hw := hK2817 _ hw
        have h2824 := (e2821 _ _ h2802)
        have h2825 := (e2821 _ _ h2803)
        exact ⟨_, _, rfl, eG2805, S2822, h2824, h2825, hw⟩
    · intro σ H2826 hw
      obtain ⟨u2792, G2830, rfl, eG2831, S2827, h2828, h2829, hw⟩ := hw
      have hw := cW_aftgo (hK2791 _ (cW_forR0 (by rw [(RpAll.mono eG2831 d2785).len, List.length_map]) hw))
      have hw : cW (F_law_r1 (script') (v2650) ((1 + (itD (v2669) (0)))) ) _ EE := hw
      unfold F_law_r1 at hw
      refine ⟨_, rfl, rfl, rfl, G2830, _, _, rfl, S2827.sG, (hide_nil h2828), cW_call hw (fun v2832 hw H2833 p2835 p2836 dx2837 dx2838 e2834 n2839 n2840 ne2843 h2841 h2842 => ?_) (fun e he => (hE e he).elim)⟩
      have fr2844 := S2827.free n2839
      have fr2845 := S2827.free n2840
      have S2846 : Sep _ _ _ _ H2833 [p2835, p2836, p2653, p2776] := Sep.news S2827 e2834 [p2835, p2836] (all_cons ⟨n2839, some_ne h2841, fr2844⟩ (all_cons ⟨n2840, some_ne h2842, fr2845⟩ all_nil))
      refine ⟨_, rfl, rfl, rfl, G2830, _, _, _, rfl, S2846.sG, (S2846.b0.seq q_script), cW_call hw (fun v2847 hw => ?_) (fun e he => (hE e he).elim)⟩
      have h2848 := (e2834 _ _ h2828)
      refine ⟨_, rfl, rfl, rfl, G2830, _, _, _, rfl, S2846.sG, (hide_nil h2848), cW_call hw (fun v2849 hw v2852 H2850 G2853 e2851 eG2854 sG2855 hn2856 r2857 => ?_) (fun e he => (hE e he).elim)⟩
      have S2858 := S2846.step e2851 eG2854 sG2855 hn2856
      obtain ⟨a2859, vs2860, rfl, h2861, d2862⟩ := rp_list r2857
      refine ⟨(by show 3 ≤ sizeLine; decide), fun p2863 n2864 => ?_⟩
      generalize g2865 : upd H2850 p2863 _ = H2866
      obtain ⟨e2867, h2868⟩ := gen_new n2864 g2865
      have h2869 : H2866 p2863 = some (.lst (([("I" : Str), ("P" : Str), ("B" : Str)] : (List Str)).map V.str)) := h2868
      have fr2870 := S2858.free n2864
      have S2871 := S2858.new n2864 e2867 h2869 fr2870
      obtain ⟨g2872, hw⟩ := cW_grd hw
      obtain ⟨v2873, a2874, r2875⟩ := RpAll.ixD (k := 1) d2862 g2872
      obtain ⟨g2876, hw⟩ := cW_grd hw
      have r2877 : Rp G2853 v2873 (PyData.int ((cI).dec ((itD (v2849) (1))))) := rp_dcast cI g2876 r2875
      obtain rfl := rp_int r2877
      obtain ⟨g2878, hw⟩ := cW_grd hw
      have h2879 := (e2867 _ _ (e2851 _ _ h2841))
      have h2880 := (e2867 _ _ (e2851 _ _ h2842))
      refine ⟨_, rfl, _, _, _, _, rfl, rfl, (SqL.of (S2871.sG _ _ h2861)), a2874, _, _, _, _, rfl, rfl, (SqL.of h2869), (atI_map g2878), _, rfl, _, rfl, rfl, rfl, G2853, _, _, _, _, v2832, _, _, rfl, S2871.sG, (hide_nil h2879), (hide_nil h2880), (Rp.hide_nil (rp_mk_list (S2871.sG _ _ h2861) (RpAll.mono S2871.sG d2862))), cW_call hw (fun v2881 hw H2882 p2884 l2885 l2886 dx2887 e2883 n2888 n2889 n2890 ne2894 h2891 h2892 h2893 => ?_) (fun e he => (hE e he).elim)⟩
      have fr2895 := S2871.free n2888
      have fr2896 := S2871.free n2889
      have fr2897 := S2871.free n2890
      have S2898 : Sep _ _ _ _ H2882 [p2884, l2885, l2886, p2863, p2835, p2836, p2653, p2776] := Sep.news S2871 e2883 [p2884, l2885, l2886] (all_cons ⟨n2888, some_ne h2891, fr2895⟩ (all_cons ⟨n2889, some_ne h2892, fr2896⟩ (all_cons ⟨n2890, some_ne h2893, fr2897⟩ all_nil)))
      refine ⟨_, _, _, _, _, rfl, h2891, T.cl_PictureHeader, T.n_PictureHeader_kind, rfl, _, rfl, rfl, _, rfl, ?_⟩
      refine iteN (fun c2899 => ?_) (fun c2899 => ?_)
      · have hw := cW_neg c2899 hw
        have hw := cW_ok hw
        exact eq_bl (k _) (hK0 _ hw).symm
      · have hw := cW_pos c2899 hw
        have h2900 := (e2883 _ _ (e2867 _ _ (e2851 _ _ h2848)))
        refine ⟨_, rfl, _, rfl, _, rfl, rfl, rfl, G2853, _, _, _, _, _, rfl, S2898.sG, (rp_mk_list h2861 d2862), (hide_nil h2900), cW_call hw (fun v2901 hw v2904 H2902 G2905 e2903 eG2906 sG2907 hn2908 r2909 => ?_) (fun e he => (hE e he).elim)⟩
        have S2910 := S2898.step e2903 eG2906 sG2907 hn2908
        obtain ⟨a2911, vs2912, rfl, h2913, d2914⟩ := rp_list r2909
        obtain ⟨K2920, hK2921, hw⟩ := cW_push hw
        refine ⟨_, rfl, ⟨_, (SqL.of (S2910.sG _ _ h2913))⟩, for_list (K := K) (a := a2911) (xs := vs2912) (fun i σ H' => ∃ (u2922 : Option V) (G' : Hp), σ = [some (V.ref a_script), some (V.ref p2653), some (V.int ((1 + (itD (v2669) (0))))), u2792, some (V.ref p2835), some (V.ref a2859), some (V.str ((itD ([("I" : Str), ("P" : Str), ("B" : Str)]) (((cI).dec ((itD (v2849) (1)))))))), u2922, none] ∧ Same G2905 G' ∧ Sep [] H H G' H' [p2653, p2835, p2836] ∧ H' p2653 = some (.lst ((v2650 : (List Int)).map V.int)) ∧ H' p2835 = some (.ins AD.c_Settings dx2837 [("fmt", V.ref p2836), ("slots", V.int (v2832.slots)), ("rows", V.int (v2832.rows)), ("deblock", V.bl (v2832.deblock)), ("offset", V.bl (v2832.offset)), ("layers", V.int (v2832.layers))]) ∧ H' p2836 = some (.ins AD.c_Format dx2838 [("width", V.int (v2832.fmt.width)), ("height", V.int (v2832.fmt.height)), ("depth", V.int (v2832.fmt.depth)), ("chroma", V.int (v2832.fmt.chroma))]) ∧ cW (forR (List.drop i (v2901)) () (fun s x => F_law_b2 (v2832) ((itD ([("I" : Str), ("P" : Str), ("B" : Str)]) (((cI).dec ((itD (v2849) (1)))))))  x)) K2920 EE) ?_ ?_ ?_ ?_⟩
        · have h2923 := (e2903 _ _ h2900)
          have h2924 := (e2903 _ _ (e2883 _ _ h2879))
          have h2925 := (e2903 _ _ (e2883 _ _ h2880))
          exact ⟨_, _, rfl, (Same.refl _), (S2910.sub (all_cons (.tail _ (.tail _ (.tail _ (.tail _ (.tail _ (.tail _ (.head _))))))) (all_cons (.tail _ (.tail _ (.tail _ (.tail _ (.head _))))) (all_cons (.tail _ (.tail _ (.tail _ (.tail _ (.tail _ (.head _)))))) all_nil)))), h2923, h2924, h2925, hw⟩
        · intro i σ H2926 _ hw
          obtain ⟨u2922, G2931, rfl, eG2932, S2927, h2928, h2929, h2930, hw⟩ := hw
          exact (SqL.of (S2927.sG _ _ (eG2932 _ _ h2913)))
        · intro i x σ H2933 hj hw
          obtain ⟨u2922, G2938, rfl, eG2939, S2934, h2935, h2936, h2937, hw⟩ := hw
          obtain ⟨x2940, hx, r2941⟩ := RpAll.get (RpAll.mono eG2939 d2914) hj
          obtain ⟨a2942, vs2943, rfl, h2944, d2945⟩ := rp_list r2941
          have hw := cW_forR hx hw
          have hw : cW (F_law_b2 (v2832) ((itD ([("I" : Str), ("P" : Str), ("B" : Str)]) (((cI).dec ((itD (v2849) (1)))))))  (x2940)) _ EE := hw
          unfold F_law_b2 at hw
          obtain ⟨K2946, hK2947, hw⟩ := cW_name hw
          refine ⟨_, rfl, _, rfl, _, rfl, rfl, rfl, G2938, _, _, _, _, v2832, _, _, _, rfl, S2934.sG, (hide_nil h2936), (hide_nil h2937), (Rp.hide_nil (rp_mk_list (S2934.sG _ _ h2944) (RpAll.mono S2934.sG d2945))), cW_call hw (fun v2949 hw H2950 e2951 => ?_) (fun e he => (hE e he).elim)⟩
          have S2952 := S2934.same e2951
          refine ⟨_, rfl, ?_⟩
          refine iteBN (fun c2953 => ?_) (fun c2953 => ?_)
          · have hw := cW_negB c2953 hw
            have hw := cW_ok hw
            have hw := hK2947 (.rt _) hw
            have hw := hK2921 (.rt _) hw
            have hw := cW_ok hw
            exact eq_bl (k _) (hK0 _ hw).symm
          · have hw := cW_pos c2953 hw
            have hw := cW_ok hw
            have hw := hK2947 _ hw
            have h2954 := (e2951 _ _ h2935)
            have h2955 := (e2951 _ _ h2936)
            have h2956 := (e2951 _ _ h2937)
            exact ⟨_, _, rfl, eG2939, S2952, h2954, h2955, h2956, hw⟩
        · intro σ H2957 hw
          obtain ⟨u2922, G2962, rfl, eG2963, S2958, h2959, h2960, h2961, hw⟩ := hw
          have hw := cW_aftgo (hK2921 _ (cW_forR0 (by rw [(RpAll.mono eG2963 d2914).len, List.length_map]) hw))
          have hw : cW (F_law_r2 ((1 + (itD (v2669) (0)))) (v2832) (v2849) ) _ EE := hw
          unfold F_law_r2 at hw
          refine ⟨(by show 7 ≤ sizeLine; decide), fun p2964 n2965 => ?_⟩
          generalize g2966 : upd H2957 p2964 _ = H2967
          obtain ⟨e2968, h2969⟩ := gen_new n2965 g2966
          have h2970 : H2967 p2964 = some (.lst (([("" : Str), ("i" : Str), ("IP" : Str), ("X" : Str), ("p" : Str), ("b" : Str), ("0" : Str)] : (List Str)).map V.str)) := h2969
          have fr2971 := S2958.free n2965
          have S2972 := S2958.new n2965 e2968 h2970 fr2971
          obtain ⟨K2978, hK2979, hw⟩ := cW_push hw
          refine ⟨_, rfl, ⟨_, (SqL.of h2970)⟩, for_list (K := K) (a := p2964) (xs := ([("" : Str), ("i" : Str), ("IP" : Str), ("X" : Str), ("p" : Str), ("b" : Str), ("0" : Str)] : (List Str)).map V.str) (fun i σ H' => ∃ (u2980 : Option V) (G' : Hp), σ = [some (V.ref a_script), some (V.ref p2653), some (V.int ((1 + (itD (v2669) (0))))), u2980, some (V.ref p2835), some (V.ref a2859), some (V.str ((itD ([("I" : Str), ("P" : Str), ("B" : Str)]) (((cI).dec ((itD (v2849) (1)))))))), u2922, none] ∧ Same G2962 G' ∧ Sep [] H H G' H' [p2653, p2835, p2836, p2964] ∧ H' p2653 = some (.lst ((v2650 : (List Int)).map V.int)) ∧ H' p2835 = some (.ins AD.c_Settings dx2837 [("fmt", V.ref p2836), ("slots", V.int (v2832.slots)), ("rows", V.int (v2832.rows)), ("deblock", V.bl (v2832.deblock)), ("offset", V.bl (v2832.offset)), ("layers", V.int (v2832.layers))]) ∧ H' p2836 = some (.ins AD.c_Format dx2838 [("width", V.int (v2832.fmt.width)), ("height", V.int (v2832.fmt.height)), ("depth", V.int (v2832.fmt.depth)), ("chroma", V.int (v2832.fmt.chroma))]) ∧ H' p2964 = some (.lst (([("" : Str), ("i" : Str), ("IP" : Str), ("X" : Str), ("p" : Str), ("b" : Str), ("0" : Str)] : (List Str)).map V.str)) ∧ cW (forR (List.drop i ([("" : Str), ("i" : Str), ("IP" : Str), ("X" : Str), ("p" : Str), ("b" : Str), ("0" : Str)])) () (fun s x => F_law_b3 (v2832) (v2849)  x)) K2978 EE) ?_ ?_ ?_ ?_⟩
          · have h2981 := (e2968 _ _ h2959)
            have h2982 := (e2968 _ _ h2960)
            have h2983 := (e2968 _ _ h2961)
            exact ⟨_, _, rfl, (Same.refl _), (S2972.sub (all_cons (.tail _ (.head _)) (all_cons (.tail _ (.tail _ (.head _))) (all_cons (.tail _ (.tail _ (.tail _ (.head _)))) (all_cons (.head _) all_nil))))), h2981, h2982, h2983, h2970, hw⟩
          · intro i σ H2984 _ hw
            obtain ⟨u2980, G2990, rfl, eG2991, S2985, h2986, h2987, h2988, h2989, hw⟩ := hw
            exact (SqL.of h2989)
          · intro i x σ H2992 hj hw
            obtain ⟨u2980, G2998, rfl, eG2999, S2993, h2994, h2995, h2996, h2997, hw⟩ := hw
            obtain ⟨x3000, hx, rfl⟩ := map_getF hj
            have hw := cW_forR hx hw
            have hw : cW (F_law_b3 (v2832) (v2849)  (x3000)) _ EE := hw
            unfold F_law_b3 at hw
            obtain ⟨K3001, hK3002, hw⟩ := cW_name hw
            refine ⟨_, rfl, _, rfl, _, rfl, rfl, rfl, G2998, _, _, _, _, v2832, _, _, _, rfl, S2993.sG, (hide_nil h2995), (hide_nil h2996), (Rp.hide_nil (rp_mk_list (S2993.sG _ _ (eG2999 _ _ (eG2963 _ _ (eG2906 _ _ h2861)))) (RpAll.mono S2993.sG (RpAll.mono eG2999 (RpAll.mono eG2963 (RpAll.mono eG2906 d2862)))))), cW_call hw (fun v3004 hw H3005 e3006 => ?_) (fun e he => (hE e he).elim)⟩
            have S3007 := S2993.same e3006
            refine ⟨_, rfl, ?_⟩
            refine iteBN (fun c3008 => ?_) (fun c3008 => ?_)
            · have hw := cW_negB c3008 hw
              have hw := cW_ok hw
              have hw := hK3002 (.rt _) hw
              have hw := hK2979 (.rt _) hw
              have hw := cW_ok hw
              exact eq_bl (k _) (hK0 _ hw).symm
            · have hw := cW_pos c3008 hw
              have hw := cW_ok hw
              have hw := hK3002 _ hw
              have h3009 := (e3006 _ _ h2994)
              have h3010 := (e3006 _ _ h2995)
              have h3011 := (e3006 _ _ h2996)
              have h3012 := (e3006 _ _ h2997)
              exact ⟨_, _, rfl, eG2999, S3007, h3009, h3010, h3011, h3012, hw⟩
          · intro σ H3013 hw
            obtain ⟨u2980, G3019, rfl, eG3020, S3014, h3015, h3016, h3017, h3018, hw⟩ := hw
            have hw := cW_aftgo (hK2979 _ (cW_forR0 (by rw [List.length_map]) hw))
            have hw : cW (F_law_r3 ((1 + (itD (v2669) (0)))) (v2832) (v2849) ) _ EE := hw
            unfold F_law_r3 at hw
            refine ⟨_, rfl, _, _, _, rfl, h3016, rfl, rfl, rfl, G3019, _, _, _, _, v2832, rfl, S3014.sG, (hide_nil h3016), (hide_nil h3017), cW_call hw (fun v3021 hw H3022 e3023 => ?_) (fun e he => (hE e he).elim)⟩
            have S3024 := S3014.same e3023
            refine ⟨_, rfl, _, _, rfl, rfl, (by show 3 ≤ sizeLine; decide), fun p3025 n3026 => ?_⟩
            generalize g3027 : upd H3022 p3025 _ = H3028
            obtain ⟨e3029, h3030⟩ := gen_new n3026 g3027
            have h3031 : H3028 p3025 = some (.tup [V.int ((999 + (1 + (itD (v2669) (0))))), V.int (0), V.int (0)]) := h3030
            have fr3032 := S3024.free n3026
            obtain ⟨G3034, eG3035, hg3036, S3033⟩ := S3024.grow n3026 e3029 h3031 fr3032
            refine ⟨_, rfl, _, rfl, (by show 3 ≤ sizeLine; decide), fun p3037 n3038 => ?_⟩
            generalize g3039 : upd H3028 p3037 _ = H3040
            obtain ⟨e3041, h3042⟩ := gen_new n3038 g3039
            have h3043 : H3040 p3037 = some (.tup [V.int ((-(1 + (itD (v2669) (0))))), V.int (0), V.int (0)]) := h3042
            have fr3044 := S3033.free n3038
            obtain ⟨G3046, eG3047, hg3048, S3045⟩ := S3033.grow n3038 e3041 h3043 fr3044
            refine ⟨_, rfl, _, _, rfl, rfl, _, rfl, _, _, rfl, rfl, (by show 3 ≤ sizeLine; decide), fun p3049 n3050 => ?_⟩
            generalize g3051 : upd H3040 p3049 _ = H3052
            obtain ⟨e3053, h3054⟩ := gen_new n3050 g3051
            have h3055 : H3052 p3049 = some (.tup [V.int (0), V.int (((v3021 - 1) + (1 + (itD (v2669) (0))))), V.int (0)]) := h3054
            have fr3056 := S3045.free n3050
            obtain ⟨G3058, eG3059, hg3060, S3057⟩ := S3045.grow n3050 e3053 h3055 fr3056
            refine ⟨_, rfl, _, rfl, (by show 3 ≤ sizeLine; decide), fun p3061 n3062 => ?_⟩
            generalize g3063 : upd H3052 p3061 _ = H3064
            obtain ⟨e3065, h3066⟩ := gen_new n3062 g3063
            have h3067 : H3064 p3061 = some (.tup [V.int (0), V.int ((-(1 + (itD (v2669) (0))))), V.int (0)]) := h3066
            have fr3068 := S3057.free n3062
            obtain ⟨G3070, eG3071, hg3072, S3069⟩ := S3057.grow n3062 e3065 h3067 fr3068
            refine ⟨_, rfl, _, _, rfl, rfl, (by show 3 ≤ sizeLine; decide), fun p3073 n3074 => ?_⟩
            generalize g3075 : upd H3064 p3073 _ = H3076
            obtain ⟨e3077, h3078⟩ := gen_new n3074 g3075
            have h3079 : H3076 p3073 = some (.tup [V.int (0), V.int (0), V.int ((31 + (1 + (itD (v2669) (0)))))]) := h3078
            have fr3080 := S3069.free n3074
            obtain ⟨G3082, eG3083, hg3084, S3081⟩ := S3069.grow n3074 e3077 h3079 fr3080
            refine ⟨_, rfl, _, rfl, _, _, rfl, rfl, (by show 3 ≤ sizeLine; decide), fun p3085 n3086 => ?_⟩
            generalize g3087 : upd H3076 p3085 _ = H3088
            obtain ⟨e3089, h3090⟩ := gen_new n3086 g3087
            have h3091 : H3088 p3085 = some (.tup [V.int (0), V.int (0), V.int (((-31) - (1 + (itD (v2669) (0)))))]) := h3090
            have fr3092 := S3081.free n3086
            obtain ⟨G3094, eG3095, hg3096, S3093⟩ := S3081.grow n3086 e3089 h3091 fr3092
            refine ⟨(by show 6 ≤ sizeLine; decide), fun p3097 n3098 => ?_⟩
            generalize g3099 : upd H3088 p3097 _ = H3100
            obtain ⟨e3101, h3102⟩ := gen_new n3098 g3099
            have h3103 : H3100 p3097 = some (.lst ([V.ref p3025, V.ref p3037, V.ref p3049, V.ref p3061, V.ref p3073, V.ref p3085])) := h3102
            have fr3104 := S3093.free n3098
            have S3105 := S3093.new n3098 e3101 h3103 fr3104
            have d3106 : RpAll G3094 ([V.ref p3025, V.ref p3037, V.ref p3049, V.ref p3061, V.ref p3073, V.ref p3085]) (([((999 + (1 + (itD (v2669) (0)))), 0, 0), ((-(1 + (itD (v2669) (0)))), 0, 0), (0, ((v3021 - 1) + (1 + (itD (v2669) (0)))), 0), (0, (-(1 + (itD (v2669) (0)))), 0), (0, 0, (31 + (1 + (itD (v2669) (0))))), (0, 0, ((-31) - (1 + (itD (v2669) (0)))))] : (List (Int × Int × Int))).map (encT3 PyData.int PyData.int PyData.int)) := (RpAll.cons (rp_mk3 (eG3095 _ _ (eG3083 _ _ (eG3071 _ _ (eG3059 _ _ (eG3047 _ _ hg3036))))) (.int _) (.int _) (.int _)) (RpAll.cons (rp_mk3 (eG3095 _ _ (eG3083 _ _ (eG3071 _ _ (eG3059 _ _ hg3048)))) (.int _) (.int _) (.int _)) (RpAll.cons (rp_mk3 (eG3095 _ _ (eG3083 _ _ (eG3071 _ _ hg3060))) (.int _) (.int _) (.int _)) (RpAll.cons (rp_mk3 (eG3095 _ _ (eG3083 _ _ hg3072)) (.int _) (.int _) (.int _)) (RpAll.cons (rp_mk3 (eG3095 _ _ hg3084) (.int _) (.int _) (.int _)) (RpAll.cons (rp_mk3 hg3096 (.int _) (.int _) (.int _)) RpAll.nil))))))
            obtain ⟨K3111, hK3112, hw⟩ := cW_push hw
            refine ⟨_, rfl, ⟨_, (SqL.of h3103)⟩, for_list (K := K) (a := p3097) (xs := [V.ref p3025, V.ref p3037, V.ref p3049, V.ref p3061, V.ref p3073, V.ref p3085]) (fun i σ H' => ∃ (u3113 : Option V) (G' : Hp), σ = [some (V.ref a_script), some (V.ref p2653), some (V.int ((1 + (itD (v2669) (0))))), u3113, some (V.ref p2835), some (V.ref a2859), some (V.str ((itD ([("I" : Str), ("P" : Str), ("B" : Str)]) (((cI).dec ((itD (v2849) (1)))))))), u2922, some (V.int (v3021))] ∧ Same G3094 G' ∧ Sep [] H H G' H' [p2653, p2835, p2836, p3097] ∧ H' p2653 = some (.lst ((v2650 : (List Int)).map V.int)) ∧ H' p2835 = some (.ins AD.c_Settings dx2837 [("fmt", V.ref p2836), ("slots", V.int (v2832.slots)), ("rows", V.int (v2832.rows)), ("deblock", V.bl (v2832.deblock)), ("offset", V.bl (v2832.offset)), ("layers", V.int (v2832.layers))]) ∧ H' p2836 = some (.ins AD.c_Format dx2838 [("width", V.int (v2832.fmt.width)), ("height", V.int (v2832.fmt.height)), ("depth", V.int (v2832.fmt.depth)), ("chroma", V.int (v2832.fmt.chroma))]) ∧ H' p3097 = some (.lst ([V.ref p3025, V.ref p3037, V.ref p3049, V.ref p3061, V.ref p3073, V.ref p3085])) ∧ cW (forR (List.drop i ([((999 + (1 + (itD (v2669) (0)))), 0, 0), ((-(1 + (itD (v2669) (0)))), 0, 0), (0, ((v3021 - 1) + (1 + (itD (v2669) (0)))), 0), (0, (-(1 + (itD (v2669) (0)))), 0), (0, 0, (31 + (1 + (itD (v2669) (0))))), (0, 0, ((-31) - (1 + (itD (v2669) (0)))))])) () (fun s x => F_law_b4 (v2832)  x)) K3111 EE) ?_ ?_ ?_ ?_⟩
            · have h3114 := (e3101 _ _ (e3089 _ _ (e3077 _ _ (e3065 _ _ (e3053 _ _ (e3041 _ _ (e3029 _ _ (e3023 _ _ h3015))))))))
              have h3115 := (e3101 _ _ (e3089 _ _ (e3077 _ _ (e3065 _ _ (e3053 _ _ (e3041 _ _ (e3029 _ _ (e3023 _ _ h3016))))))))
              have h3116 := (e3101 _ _ (e3089 _ _ (e3077 _ _ (e3065 _ _ (e3053 _ _ (e3041 _ _ (e3029 _ _ (e3023 _ _ h3017))))))))
              exact ⟨_, _, rfl, (Same.refl _), (S3105.sub (all_cons (.tail _ (.head _)) (all_cons (.tail _ (.tail _ (.head _))) (all_cons (.tail _ (.tail _ (.tail _ (.head _)))) (all_cons (.head _) all_nil))))), h3114, h3115, h3116, h3103, hw⟩
            · intro i σ H3117 _ hw
              obtain ⟨u3113, G3123, rfl, eG3124, S3118, h3119, h3120, h3121, h3122, hw⟩ := hw
              exact (SqL.of h3122)
            · intro i x σ H3125 hj hw
              obtain ⟨u3113, G3131, rfl, eG3132, S3126, h3127, h3128, h3129, h3130, hw⟩ := hw
              obtain ⟨x3133, hx, r3134⟩ := RpAll.get (RpAll.mono eG3132 d3106) hj
              obtain ⟨a3135, v3137, v3138, v3139, rfl, h3136, r3140, r3141, r3142⟩ := rp_tup3 r3134
              obtain rfl := rp_int r3140
              obtain rfl := rp_int r3141
              obtain rfl := rp_int r3142
              have hw := cW_forR hx hw
              have hw : cW (F_law_b4 (v2832)  (x3133)) _ EE := hw
              unfold F_law_b4 at hw
              obtain ⟨K3143, hK3144, hw⟩ := cW_name hw
              refine ⟨_, rfl, _, rfl, _, _, _, _, rfl, rfl, (SqT.of (S3126.sG _ _ h3136)), rfl, _, rfl, _, _, _, _, rfl, rfl, (SqT.of (S3126.sG _ _ h3136)), rfl, _, rfl, _, _, _, _, rfl, rfl, (SqT.of (S3126.sG _ _ h3136)), rfl, rfl, rfl, G3131, _, _, _, _, v2832, _, _, _, rfl, S3126.sG, (hide_nil h3128), (hide_nil h3129), cW_call hw (fun v3146 hw H3147 e3148 => ?_) (fun e he => (hE e he).elim)⟩
              have S3149 := S3126.same e3148
              refine ⟨_, rfl, ?_⟩
              refine iteBN (fun c3150 => ?_) (fun c3150 => ?_)
              · have hw := cW_negB c3150 hw
                have hw := cW_ok hw
                have hw := hK3144 (.rt _) hw
                have hw := hK3112 (.rt _) hw
                have hw := cW_ok hw
                exact eq_bl (k _) (hK0 _ hw).symm
              · have hw := cW_pos c3150 hw
                have hw := cW_ok hw
                have hw := hK3144 _ hw
                have h3151 := (e3148 _ _ h3127)
                have h3152 := (e3148 _ _ h3128)
                have h3153 := (e3148 _ _ h3129)
                have h3154 := (e3148 _ _ h3130)
                exact ⟨_, _, rfl, eG3132, S3149, h3151, h3152, h3153, h3154, hw⟩
            · intro σ H3155 hw
              obtain ⟨u3113, G3161, rfl, eG3162, S3156, h3157, h3158, h3159, h3160, hw⟩ := hw
              have hw := cW_aftgo (hK3112 _ (cW_forR0 (by rw [(RpAll.mono eG3162 d3106).len, List.length_map]) hw))
              have hw : cW (F_law_r4 (v2832) (v2849) (v3021) ) _ EE := hw
              unfold F_law_r4 at hw
              obtain ⟨g3163, hw⟩ := cW_grd hw
              obtain ⟨v3164, a3165, r3166⟩ := RpAll.ixD (k := 0) (RpAll.mono eG3162 (RpAll.mono eG3095 (RpAll.mono eG3083 (RpAll.mono eG3071 (RpAll.mono eG3059 (RpAll.mono eG3047 (RpAll.mono eG3035 (RpAll.mono eG3020 (RpAll.mono eG2963 (RpAll.mono eG2906 d2862)))))))))) g3163
              obtain ⟨g3167, hw⟩ := cW_grd hw
              have r3168 : Rp G3161 v3164 (PyData.int ((cI).dec ((itD (v2849) (0))))) := rp_dcast cI g3167 r3166
              obtain rfl := rp_int r3168
              refine ⟨_, rfl, _, rfl, _, _, _, _, rfl, rfl, (SqL.of (S3156.sG _ _ (eG3162 _ _ (eG3095 _ _ (eG3083 _ _ (eG3071 _ _ (eG3059 _ _ (eG3047 _ _ (eG3035 _ _ (eG3020 _ _ (eG2963 _ _ (eG2906 _ _ h2861)))))))))))), a3165, _, rfl, _, _, rfl, rfl, _, rfl, rfl, rfl, fun x3169 dx3170 n3171 n3172 n3173 => ?_⟩
              generalize g3174 : upd (upd H3155 dx3170 _) x3169 _ = H3175
              obtain ⟨e3176, h3177⟩ := gen_obj n3171 n3172 n3173 g3174
              have fr3178 := S3156.free n3171
              have S3179 := S3156.new n3171 e3176 h3177 fr3178
              have h3180 := (e3176 _ _ h3158)
              have h3181 := (e3176 _ _ h3159)
              refine ⟨G3161, _, _, _, _, _, _, v2832, _, _, _, rfl, S3179.sG, (S3179.gno (all_cons (.head _) all_nil)), h3177, ((hideL_out (ni1 (ne_of_none h3158 n3171))).trans h3180), ((hideL_out (ni1 (ne_of_none h3159 n3171))).trans h3181), cW_call hw (fun v3182 hw H3183 x3184 h3185 => ⟨rfl, ?_⟩) (fun e he => (hE e he).elim)⟩
              have S3186 : Sep _ _ _ _ H3183 [x3169, p2653, p2835, p2836, p3097] := Sep.init S3179 x3184 (.head _) h3185 [] all_nil
              refine ⟨_, _, _, _, _, rfl, h3185, T.cl_SliceHeader, T.n_SliceHeader_delta, rfl, _, rfl, _, _, rfl, rfl, ?_⟩
              have hw := cW_ok hw
              exact eq_bl (k _) (hK0 _ hw).symm
end
def spL (K : PySem.W.Frag) : Sp := fun vs H Q _ => ∃ (a_script : Addr) (script : List Int), vs = [.ref a_script] ∧ SqL K H a_script (script.map V.int) ∧ script.length ≤ 63 ∧ ∀ H', Q (.bl true) H'
theorem all_mk {l : PySem.W.OpenLaw} {w : World} {K : PySem.W.Frag} {h : Heap} {mg : Str → Option Value} {fa : Addr} (X : K.In h) (G : h.Ns mainGlobals mg) (hfa : mg "law" = some (.ref fa))
    {f0 f1 f2 f3 f4 f5 f6 f7 f8 f9 f10 f11 f12 f13 f14 f15 f16 f17 f18 f19 f20 f21 CFormat CSettings CPictureHeader CSliceHeader XCodecError XBadFormat XBadHeader : Addr} {od0 an0 od1 an1 od2 an2 od3 an3 od4 an4 od5 an5 od6 an6 od7 an7 od8 an8 od9 an9 od10 an10 od11 an11 od12 an12 od13 an13 od14 an14 od15 an15 od16 an16 od17 an17 od18 an18 od19 an19 od20 an20 od21 an21 : Option Addr} {sl0 sl1 sl2 sl3 sl4 sl5 sl6 sl7 sl8 sl9 sl10 sl11 sl12 sl13 sl14 sl15 sl16 sl17 sl18 sl19 sl20 sl21 : Array (Option Value)} {oc0 kV0 dc0 pm0 cd0 ct0 oc1 kV1 dc1 pm1 cd1 ct1 oc2 kV2 dc2 pm2 cd2 ct2 oc3 dc3 pm3 cd3 ct3 oc4 kV4 dc4 pm4 cd4 ct4 oc5 dc5 pm5 cd5 ct5 oc6 kV6 dc6 pm6 cd6 ct6 oc7 kV7 dc7 pm7 cd7 ct7 oc8 kV8 dc8 pm8 cd8 ct8 oc9 kV9 dc9 pm9 cd9 ct9 oc10 kV10 dc10 pm10 cd10 ct10 oc11 kV11 dc11 pm11 cd11 ct11 oc12 kV12 dc12 pm12 cd12 ct12 oc13 kV13 dc13 pm13 cd13 ct13 oc14 kV14 dc14 pm14 cd14 ct14 oc15 kV15 dc15 pm15 cd15 ct15 oc16 dc16 pm16 cd16 ct16 oc17 kV17 dc17 pm17 cd17 ct17 oc18 kV18 dc18 pm18 cd18 ct18 oc19 dc19 pm19 cd19 ct19 oc20 kV20 dc20 pm20 cd20 ct20 oc21 kV21 dc21 pm21 cd21 ct21 : Value} {D3 : Addr} {ktk3_0 : Tok} {ktk3_1 : Tok} {D5 : Addr} {ktk5_0 : Tok} {ktk5_1 : Tok} {ktk5_4 : Tok} {D16 : Addr} {ktk16_0 : Tok} {ktk16_1 : Tok} {ktk16_4 : Tok} {ktk16_5 : Tok} {ktk16_7 : Tok} {D19 : Addr} {ktk19_0 : Tok} {TG_KINDS : Addr} {td8 : Option Addr} {tn8 : Nat} {tsl8 : Array (Option Value)} {tk8_0 tk8_1 tk8_2 : Tok} {TG_REF_COUNTS : Addr} {tn13 : Nat} {tk13_0 tk13_1 tk13_2 : Tok} {th13_0 th13_1 th13_2 : Int} {TG_REF_COUNTS_2 : Addr} {td13_2 : Option Addr} {tn13_2 : Nat} {tsl13_2 : Array (Option Value)} {tk13_2_0 : Tok} {TG_REF_COUNTS_1 : Addr} {td13_1 : Option Addr} {tn13_1 : Nat} {tsl13_1 : Array (Option Value)} {tk13_1_0 tk13_1_1 : Tok} {TG_REF_COUNTS_0 : Addr} {td13_0 : Option Addr} {tn13_0 : Nat} {tsl13_0 : Array (Option Value)} {tk13_0_0 : Tok} {TD_PictureHeader___init___store : Addr} {tddPictureHeader___init___store : Option Addr} {tdnPictureHeader___init___store : Nat} {tdsPictureHeader___init___store : Array (Option Value)} {TD_PictureHeader___init___refs : Addr} {tddPictureHeader___init___refs : Option Addr} {tdnPictureHeader___init___refs : Nat} {tdsPictureHeader___init___refs : Array (Option Value)} {tk5 tk7 tk9 tk10 : Tok}
    (wFormat : PySem.W.nsIn K mainGlobals "Format" = some (some (.ref CFormat))) (wSettings : PySem.W.nsIn K mainGlobals "Settings" = some (some (.ref CSettings))) (wPictureHeader : PySem.W.nsIn K mainGlobals "PictureHeader" = some (some (.ref CPictureHeader))) (wSliceHeader : PySem.W.nsIn K mainGlobals "SliceHeader" = some (some (.ref CSliceHeader))) (vCodecError : PySem.W.nsIn K mainGlobals "CodecError" = some (some (.ref XCodecError))) (vBadFormat : PySem.W.nsIn K mainGlobals "BadFormat" = some (some (.ref XBadFormat))) (vBadHeader : PySem.W.nsIn K mainGlobals "BadHeader" = some (some (.ref XBadHeader))) (a0 : PySem.W.nsIn K mainGlobals "_law_draws" = some (some (.ref f0))) (l0 : K.lookup f0 = some ⟨oc0, od0, .func (PySem.W.fnOf "_law_draws" "_law_draws" (defArgs s__law_draws) (defBody s__law_draws) (defScope s__law_draws) .none kV0 dc0 pm0 an0 cd0 ct0), sl0⟩) (c0 : PySem.W.codeIn K cd0 "_law_draws" = true) (k0 : PySem.W.keepIn K (.ref f0) = true) (a1 : PySem.W.nsIn K mainGlobals "_law_between" = some (some (.ref f1))) (l1 : K.lookup f1 = some ⟨oc1, od1, .func (PySem.W.fnOf "_law_between" "_law_between" (defArgs s__law_between) (defBody s__law_between) (defScope s__law_between) .none kV1 dc1 pm1 an1 cd1 ct1), sl1⟩) (c1 : PySem.W.codeIn K cd1 "_law_between" = true) (k1 : PySem.W.keepIn K (.ref f1) = true) (a2 : PySem.W.nsIn K mainGlobals "_law_numbers" = some (some (.ref f2))) (l2 : K.lookup f2 = some ⟨oc2, od2, .func (PySem.W.fnOf "_law_numbers" "_law_numbers" (defArgs s__law_numbers) (defBody s__law_numbers) (defScope s__law_numbers) .none kV2 dc2 pm2 an2 cd2 ct2), sl2⟩) (c2 : PySem.W.codeIn K cd2 "_law_numbers" = true) (k2 : PySem.W.keepIn K (.ref f2) = true) (a3 : PySem.W.findIn K (.ref CFormat) "__init__" = some (some (.ref f3))) (b3 : PySem.W.isFn K (.ref f3) = true) (d3 : PySem.W.makesIn K CFormat = true) (e3 : PySem.W.keepIn K (.ref CFormat) = true) (l3 : K.lookup f3 = some ⟨oc3, od3, .func (PySem.W.fnOf "__init__" "Format.__init__" (defArgs s_Format___init__) (defBody s_Format___init__) (defScope s_Format___init__) .none (.ref D3) dc3 pm3 an3 cd3 ct3), sl3⟩) (c3 : PySem.W.codeIn K cd3 "Format.__init__" = true) (k3 : PySem.W.keepIn K (.ref f3) = true) (kd3_0 : PySem.W.nsIn K D3 "depth" = some (some (.int 8 ktk3_0))) (kd3_1 : PySem.W.nsIn K D3 "chroma" = some (some (.int 0 ktk3_1))) (a4 : PySem.W.nsIn K mainGlobals "_require" = some (some (.ref f4))) (l4 : K.lookup f4 = some ⟨oc4, od4, .func (PySem.W.fnOf "_require" "_require" (defArgs s__require) (defBody s__require) (defScope s__require) .none kV4 dc4 pm4 an4 cd4 ct4), sl4⟩) (c4 : PySem.W.codeIn K cd4 "_require" = true) (k4 : PySem.W.keepIn K (.ref f4) = true) (a5 : PySem.W.findIn K (.ref CSettings) "__init__" = some (some (.ref f5))) (b5 : PySem.W.isFn K (.ref f5) = true) (d5 : PySem.W.makesIn K CSettings = true) (e5 : PySem.W.keepIn K (.ref CSettings) = true) (l5 : K.lookup f5 = some ⟨oc5, od5, .func (PySem.W.fnOf "__init__" "Settings.__init__" (defArgs s_Settings___init__) (defBody s_Settings___init__) (defScope s_Settings___init__) .none (.ref D5) dc5 pm5 an5 cd5 ct5), sl5⟩) (c5 : PySem.W.codeIn K cd5 "Settings.__init__" = true) (k5 : PySem.W.keepIn K (.ref f5) = true) (kd5_0 : PySem.W.nsIn K D5 "slots" = some (some (.int 1 ktk5_0))) (kd5_1 : PySem.W.nsIn K D5 "rows" = some (some (.int 1 ktk5_1))) (kd5_2 : PySem.W.nsIn K D5 "deblock" = some (some (.bool false))) (kd5_3 : PySem.W.nsIn K D5 "offset" = some (some (.bool false))) (kd5_4 : PySem.W.nsIn K D5 "layers" = some (some (.int 1 ktk5_4))) (a6 : PySem.W.nsIn K mainGlobals "_law_settings" = some (some (.ref f6))) (l6 : K.lookup f6 = some ⟨oc6, od6, .func (PySem.W.fnOf "_law_settings" "_law_settings" (defArgs s__law_settings) (defBody s__law_settings) (defScope s__law_settings) .none kV6 dc6 pm6 an6 cd6 ct6), sl6⟩) (c6 : PySem.W.codeIn K cd6 "_law_settings" = true) (k6 : PySem.W.keepIn K (.ref f6) = true) (a7 : PySem.W.nsIn K mainGlobals "_law_picture" = some (some (.ref f7))) (l7 : K.lookup f7 = some ⟨oc7, od7, .func (PySem.W.fnOf "_law_picture" "_law_picture" (defArgs s__law_picture) (defBody s__law_picture) (defScope s__law_picture) .none kV7 dc7 pm7 an7 cd7 ct7), sl7⟩) (c7 : PySem.W.codeIn K cd7 "_law_picture" = true) (k7 : PySem.W.keepIn K (.ref f7) = true) (a8 : PySem.W.nsIn K mainGlobals "_law_with" = some (some (.ref f8))) (l8 : K.lookup f8 = some ⟨oc8, od8, .func (PySem.W.fnOf "_law_with" "_law_with" (defArgs s__law_with) (defBody s__law_with) (defScope s__law_with) .none kV8 dc8 pm8 an8 cd8 ct8), sl8⟩) (c8 : PySem.W.codeIn K cd8 "_law_with" = true) (k8 : PySem.W.keepIn K (.ref f8) = true) (a9 : PySem.W.nsIn K mainGlobals "_law_faults" = some (some (.ref f9))) (l9 : K.lookup f9 = some ⟨oc9, od9, .func (PySem.W.fnOf "_law_faults" "_law_faults" (defArgs s__law_faults) (defBody s__law_faults) (defScope s__law_faults) .none kV9 dc9 pm9 an9 cd9 ct9), sl9⟩) (c9 : PySem.W.codeIn K cd9 "_law_faults" = true) (k9 : PySem.W.keepIn K (.ref f9) = true) (a10 : PySem.W.nsIn K mainGlobals "_law_cell" = some (some (.ref f10))) (l10 : K.lookup f10 = some ⟨oc10, od10, .func (PySem.W.fnOf "_law_cell" "_law_cell" (defArgs s__law_cell) (defBody s__law_cell) (defScope s__law_cell) .none kV10 dc10 pm10 an10 cd10 ct10), sl10⟩) (c10 : PySem.W.codeIn K cd10 "_law_cell" = true) (k10 : PySem.W.keepIn K (.ref f10) = true) (a11 : PySem.W.findIn K (.ref CFormat) "blocks" = some (some (.ref f11))) (b11 : PySem.W.isFn K (.ref f11) = true) (l11 : K.lookup f11 = some ⟨oc11, od11, .func (PySem.W.fnOf "blocks" "Format.blocks" (defArgs s_Format_blocks) (defBody s_Format_blocks) (defScope s_Format_blocks) .none kV11 dc11 pm11 an11 cd11 ct11), sl11⟩) (c11 : PySem.W.codeIn K cd11 "Format.blocks" = true) (k11 : PySem.W.keepIn K (.ref f11) = true) (a12 : PySem.W.findIn K (.ref CSettings) "slices" = some (some (.ref f12))) (b12 : PySem.W.isFn K (.ref f12) = true) (l12 : K.lookup f12 = some ⟨oc12, od12, .func (PySem.W.fnOf "slices" "Settings.slices" (defArgs s_Settings_slices) (defBody s_Settings_slices) (defScope s_Settings_slices) .none kV12 dc12 pm12 an12 cd12 ct12), sl12⟩) (c12 : PySem.W.codeIn K cd12 "Settings.slices" = true) (k12 : PySem.W.keepIn K (.ref f12) = true) (a13 : PySem.W.nsIn K mainGlobals "_law_settings_refused" = some (some (.ref f13))) (l13 : K.lookup f13 = some ⟨oc13, od13, .func (PySem.W.fnOf "_law_settings_refused" "_law_settings_refused" (defArgs s__law_settings_refused) (defBody s__law_settings_refused) (defScope s__law_settings_refused) .none kV13 dc13 pm13 an13 cd13 ct13), sl13⟩) (c13 : PySem.W.codeIn K cd13 "_law_settings_refused" = true) (k13 : PySem.W.keepIn K (.ref f13) = true) (a14 : PySem.W.nsIn K mainGlobals "_check_numbers" = some (some (.ref f14))) (l14 : K.lookup f14 = some ⟨oc14, od14, .func (PySem.W.fnOf "_check_numbers" "_check_numbers" (defArgs s__check_numbers) (defBody s__check_numbers) (defScope s__check_numbers) .none kV14 dc14 pm14 an14 cd14 ct14), sl14⟩) (c14 : PySem.W.codeIn K cd14 "_check_numbers" = true) (k14 : PySem.W.keepIn K (.ref f14) = true) (a15 : PySem.W.nsIn K mainGlobals "_check_slots" = some (some (.ref f15))) (l15 : K.lookup f15 = some ⟨oc15, od15, .func (PySem.W.fnOf "_check_slots" "_check_slots" (defArgs s__check_slots) (defBody s__check_slots) (defScope s__check_slots) .none kV15 dc15 pm15 an15 cd15 ct15), sl15⟩) (c15 : PySem.W.codeIn K cd15 "_check_slots" = true) (k15 : PySem.W.keepIn K (.ref f15) = true) (a16 : PySem.W.findIn K (.ref CPictureHeader) "__init__" = some (some (.ref f16))) (b16 : PySem.W.isFn K (.ref f16) = true) (d16 : PySem.W.makesIn K CPictureHeader = true) (e16 : PySem.W.keepIn K (.ref CPictureHeader) = true) (l16 : K.lookup f16 = some ⟨oc16, od16, .func (PySem.W.fnOf "__init__" "PictureHeader.__init__" (defArgs s_PictureHeader___init__) (defBody s_PictureHeader___init__) (defScope s_PictureHeader___init__) .none (.ref D16) dc16 pm16 an16 cd16 ct16), sl16⟩) (c16 : PySem.W.codeIn K cd16 "PictureHeader.__init__" = true) (k16 : PySem.W.keepIn K (.ref f16) = true) (kd16_0 : PySem.W.nsIn K D16 "kind" = some (some (.str "I" ktk16_0))) (kd16_1 : PySem.W.nsIn K D16 "level" = some (some (.int 0 ktk16_1))) (kd16_2 : PySem.W.nsIn K D16 "store" = some (some (.ref TD_PictureHeader___init___store))) (kd16_3 : PySem.W.nsIn K D16 "refs" = some (some (.ref TD_PictureHeader___init___refs))) (kd16_4 : PySem.W.nsIn K D16 "weight" = some (some (.int 8 ktk16_4))) (kd16_5 : PySem.W.nsIn K D16 "layer" = some (some (.int 0 ktk16_5))) (kd16_6 : PySem.W.nsIn K D16 "shown" = some (some (.bool true))) (kd16_7 : PySem.W.nsIn K D16 "edge" = some (some (.int 0 ktk16_7))) (a17 : PySem.W.nsIn K mainGlobals "_law_header" = some (some (.ref f17))) (l17 : K.lookup f17 = some ⟨oc17, od17, .func (PySem.W.fnOf "_law_header" "_law_header" (defArgs s__law_header) (defBody s__law_header) (defScope s__law_header) .none kV17 dc17 pm17 an17 cd17 ct17), sl17⟩) (c17 : PySem.W.codeIn K cd17 "_law_header" = true) (k17 : PySem.W.keepIn K (.ref f17) = true) (a18 : PySem.W.nsIn K mainGlobals "_law_picture_refused" = some (some (.ref f18))) (l18 : K.lookup f18 = some ⟨oc18, od18, .func (PySem.W.fnOf "_law_picture_refused" "_law_picture_refused" (defArgs s__law_picture_refused) (defBody s__law_picture_refused) (defScope s__law_picture_refused) .none kV18 dc18 pm18 an18 cd18 ct18), sl18⟩) (c18 : PySem.W.codeIn K cd18 "_law_picture_refused" = true) (k18 : PySem.W.keepIn K (.ref f18) = true) (a19 : PySem.W.findIn K (.ref CSliceHeader) "__init__" = some (some (.ref f19))) (b19 : PySem.W.isFn K (.ref f19) = true) (d19 : PySem.W.makesIn K CSliceHeader = true) (e19 : PySem.W.keepIn K (.ref CSliceHeader) = true) (l19 : K.lookup f19 = some ⟨oc19, od19, .func (PySem.W.fnOf "__init__" "SliceHeader.__init__" (defArgs s_SliceHeader___init__) (defBody s_SliceHeader___init__) (defScope s_SliceHeader___init__) .none (.ref D19) dc19 pm19 an19 cd19 ct19), sl19⟩) (c19 : PySem.W.codeIn K cd19 "SliceHeader.__init__" = true) (k19 : PySem.W.keepIn K (.ref f19) = true) (kd19_0 : PySem.W.nsIn K D19 "delta" = some (some (.int 0 ktk19_0))) (a20 : PySem.W.nsIn K mainGlobals "_law_slice_refused" = some (some (.ref f20))) (l20 : K.lookup f20 = some ⟨oc20, od20, .func (PySem.W.fnOf "_law_slice_refused" "_law_slice_refused" (defArgs s__law_slice_refused) (defBody s__law_slice_refused) (defScope s__law_slice_refused) .none kV20 dc20 pm20 an20 cd20 ct20), sl20⟩) (c20 : PySem.W.codeIn K cd20 "_law_slice_refused" = true) (k20 : PySem.W.keepIn K (.ref f20) = true) (a21 : PySem.W.nsIn K mainGlobals "law" = some (some (.ref f21))) (l21 : K.lookup f21 = some ⟨oc21, od21, .func (PySem.W.fnOf "law" "law" (defArgs s_law) (defBody s_law) (defScope s_law) .none kV21 dc21 pm21 an21 cd21 ct21), sl21⟩) (c21 : PySem.W.codeIn K cd21 "law" = true) (k21 : PySem.W.keepIn K (.ref f21) = true)
    (z0 : PySem.W.nsIn K mainGlobals "abs" = some none) (z1 : PySem.W.nsIn K mainGlobals "int" = some none) (z2 : PySem.W.nsIn K mainGlobals "min" = some none) (z3 : PySem.W.nsIn K mainGlobals "range" = some none) (z4 : PySem.W.nsIn K mainGlobals "len" = some none) (z5 : PySem.W.nsIn K mainGlobals "BLOCK" = some (some (.int 8 tk5))) (z6 : PySem.W.nsIn K mainGlobals "isinstance" = some none) (z7 : PySem.W.nsIn K mainGlobals "GREATEST_NUMBER" = some (some (.int 999 tk7))) (z8 : PySem.W.nsIn K mainGlobals "KINDS" = some (some (.ref TG_KINDS))) (y8 : K.lookup TG_KINDS = some ⟨.type "tuple", td8, .seq #[.str "I" tk8_0, .str "P" tk8_1, .str "B" tk8_2] tn8, tsl8⟩) (z9 : PySem.W.nsIn K mainGlobals "GREATEST_LEVEL" = some (some (.int 31 tk9))) (z10 : PySem.W.nsIn K mainGlobals "EVEN_WEIGHT" = some (some (.int 8 tk10))) (z11 : PySem.W.nsIn K mainGlobals "sorted" = some none) (z12 : PySem.W.nsIn K mainGlobals "set" = some none) (z13 : PySem.W.nsIn K mainGlobals "REF_COUNTS" = some (some (.ref TG_REF_COUNTS))) (y13 : K.lookup TG_REF_COUNTS = some ⟨.type "dict", none, .dict #[⟨th13_0, .str "I" tk13_0, .ref TG_REF_COUNTS_0⟩, ⟨th13_1, .str "P" tk13_1, .ref TG_REF_COUNTS_1⟩, ⟨th13_2, .str "B" tk13_2, .ref TG_REF_COUNTS_2⟩] tn13, #[]⟩) (u13_0 : th13_0 = PyData.keyHash w.params "I") (u13_1 : th13_1 = PyData.keyHash w.params "P") (u13_2 : th13_2 = PyData.keyHash w.params "B") (y13_2 : K.lookup TG_REF_COUNTS_2 = some ⟨.type "tuple", td13_2, .seq #[.int 2 tk13_2_0] tn13_2, tsl13_2⟩) (y13_1 : K.lookup TG_REF_COUNTS_1 = some ⟨.type "tuple", td13_1, .seq #[.int 1 tk13_1_0, .int 2 tk13_1_1] tn13_1, tsl13_1⟩) (y13_0 : K.lookup TG_REF_COUNTS_0 = some ⟨.type "tuple", td13_0, .seq #[.int 0 tk13_0_0] tn13_0, tsl13_0⟩) (z14 : PySem.W.nsIn K mainGlobals "list" = some none) (z15 : PySem.W.nsIn K mainGlobals "tuple" = some none) (ytPictureHeader___init___store : K.lookup TD_PictureHeader___init___store = some ⟨.type "tuple", tddPictureHeader___init___store, .seq #[] tdnPictureHeader___init___store, tdsPictureHeader___init___store⟩) (ytPictureHeader___init___refs : K.lookup TD_PictureHeader___init___refs = some ⟨.type "tuple", tddPictureHeader___init___refs, .seq #[] tdnPictureHeader___init___refs, tdsPictureHeader___init___refs⟩) (yFormat0 : PySem.W.plainGet K CFormat Str.empty = true) (yFormat1 : PySem.W.hasDictIn K CFormat = true) (yFormat2 : PySem.W.plainOver K CFormat = true) (yFormat3 : PySem.W.findIn K (.ref CFormat) "__setattr__" = some (some (.builtin "object.__setattr__"))) (xFormat0 : PySem.W.findIn K (.ref CFormat) "width" = some none) (xFormat1 : PySem.W.findIn K (.ref CFormat) "height" = some none) (xFormat2 : PySem.W.findIn K (.ref CFormat) "depth" = some none) (xFormat3 : PySem.W.findIn K (.ref CFormat) "chroma" = some none) (ySettings0 : PySem.W.plainGet K CSettings Str.empty = true) (ySettings1 : PySem.W.hasDictIn K CSettings = true) (ySettings2 : PySem.W.plainOver K CSettings = true) (ySettings3 : PySem.W.findIn K (.ref CSettings) "__setattr__" = some (some (.builtin "object.__setattr__"))) (xSettings0 : PySem.W.findIn K (.ref CSettings) "fmt" = some none) (xSettings1 : PySem.W.findIn K (.ref CSettings) "slots" = some none) (xSettings2 : PySem.W.findIn K (.ref CSettings) "rows" = some none) (xSettings3 : PySem.W.findIn K (.ref CSettings) "deblock" = some none) (xSettings4 : PySem.W.findIn K (.ref CSettings) "offset" = some none) (xSettings5 : PySem.W.findIn K (.ref CSettings) "layers" = some none) (yPictureHeader0 : PySem.W.plainGet K CPictureHeader Str.empty = true) (yPictureHeader1 : PySem.W.hasDictIn K CPictureHeader = true) (yPictureHeader2 : PySem.W.plainOver K CPictureHeader = true) (yPictureHeader3 : PySem.W.findIn K (.ref CPictureHeader) "__setattr__" = some (some (.builtin "object.__setattr__"))) (xPictureHeader0 : PySem.W.findIn K (.ref CPictureHeader) "number" = some none) (xPictureHeader1 : PySem.W.findIn K (.ref CPictureHeader) "kind" = some none) (xPictureHeader2 : PySem.W.findIn K (.ref CPictureHeader) "level" = some none) (xPictureHeader3 : PySem.W.findIn K (.ref CPictureHeader) "store" = some none) (xPictureHeader4 : PySem.W.findIn K (.ref CPictureHeader) "refs" = some none) (xPictureHeader5 : PySem.W.findIn K (.ref CPictureHeader) "weight" = some none) (xPictureHeader6 : PySem.W.findIn K (.ref CPictureHeader) "layer" = some none) (xPictureHeader7 : PySem.W.findIn K (.ref CPictureHeader) "shown" = some none) (xPictureHeader8 : PySem.W.findIn K (.ref CPictureHeader) "edge" = some none) (ySliceHeader0 : PySem.W.plainGet K CSliceHeader Str.empty = true) (ySliceHeader1 : PySem.W.hasDictIn K CSliceHeader = true) (ySliceHeader2 : PySem.W.plainOver K CSliceHeader = true) (ySliceHeader3 : PySem.W.findIn K (.ref CSliceHeader) "__setattr__" = some (some (.builtin "object.__setattr__"))) (xSliceHeader0 : PySem.W.findIn K (.ref CSliceHeader) "number" = some none) (xSliceHeader1 : PySem.W.findIn K (.ref CSliceHeader) "index" = some none) (xSliceHeader2 : PySem.W.findIn K (.ref CSliceHeader) "delta" = some none) (exBadFormat : PySem.W.excIn K XBadFormat [.type "ValueError", .type "Exception", .type "BaseException", .type "object"] "ValueError.__new__" = true) (ekBadFormat : PySem.W.keepIn K (.ref XBadFormat) = true) (ebBadFormat : PySem.W.subIn K (.ref XBadFormat) (.type "BaseException") = some true) (etBadFormat : PySem.W.typeIn K (.ref XBadFormat) = some (.type "type")) (exBadHeader : PySem.W.excIn K XBadHeader [.type "ValueError", .type "Exception", .type "BaseException", .type "object"] "ValueError.__new__" = true) (ekBadHeader : PySem.W.keepIn K (.ref XBadHeader) = true) (ebBadHeader : PySem.W.subIn K (.ref XBadHeader) (.type "BaseException") = some true) (etBadHeader : PySem.W.typeIn K (.ref XBadHeader) = some (.type "type")) (exCodecError : PySem.W.excIn K XCodecError [.type "ValueError", .type "Exception", .type "BaseException", .type "object"] "ValueError.__new__" = true) (ekCodecError : PySem.W.keepIn K (.ref XCodecError) = true) (ebCodecError : PySem.W.subIn K (.ref XCodecError) (.type "BaseException") = some true) (etCodecError : PySem.W.typeIn K (.ref XCodecError) = some (.type "type")) (eiBadHeaderBadHeader : PySem.W.isClsIn K XBadHeader = true) (esBadHeaderBadHeader : PySem.W.subIn K (.ref XBadHeader) (.ref XBadHeader) = some true) (eiBadHeaderCodecError : PySem.W.isClsIn K XCodecError = true) (esBadHeaderCodecError : PySem.W.subIn K (.ref XBadHeader) (.ref XCodecError) = some true) (enBadHeaderBadFormat : (Value.ref XBadHeader == Value.ref XBadFormat) = false) (ejBadHeaderBadFormat : PySem.W.isClsIn K XBadFormat = true) (etBadHeaderBadFormat : PySem.W.subIn K (.ref XBadHeader) (.ref XBadFormat) = some false) (c1BadHeader : PySem.W.findIn K (.ref XBadHeader) "__getattribute__" = some (some (.builtin "BaseException.__getattribute__"))) (c2BadHeader : PySem.W.findIn K (.ref XBadHeader) "__getattr__" = some none) (c3BadHeader : PySem.W.hasDictIn K XBadHeader = true) (c4BadHeader : PySem.W.findIn K (.ref XBadHeader) "__class__" = some (some (.builtin "object.__class__"))) (c5BadHeader : PySem.W.specialIn K (.builtin "object.__class__") "__get__" = some (some (.builtin "getset_descriptor.__get__"))) (c6BadHeader : PySem.W.takesIn K (.builtin "object.__class__") = some true) (c7BadHeader : PySem.W.mroIn K XBadHeader (.type "object") = some true) :
    ∃ fd : FuncData, (∀ (s : Shared) (v : Value), BindsTo s fd ⟨[v], []⟩ [("script", v)]) ∧ ∀ base : Heap, K.In base → base.Ns mainGlobals mg → FnG l.prog w K mg base CX0 6 fa fd ["script"] (spL K) := by
  have e := hfa.symm.trans (PySem.W.mg_of X G a21)
  cases e
  have T : Txt w K mg ⟨TD_PictureHeader___init___store, TD_PictureHeader___init___refs, CFormat, CSettings, CPictureHeader, CSliceHeader, XCodecError, XBadFormat, fa, XBadHeader, TG_KINDS, TG_REF_COUNTS, TG_REF_COUNTS_0, TG_REF_COUNTS_1, TG_REF_COUNTS_2, fa⟩ := ⟨PySem.W.mg_none_of X G z0, PySem.W.mg_none_of X G z1, PySem.W.mg_none_of X G z2, PySem.W.mg_none_of X G z3, PySem.W.mg_none_of X G z4, ⟨_, PySem.W.mg_of X G z5, ⟨_, rfl⟩⟩, PySem.W.mg_none_of X G z6, ⟨_, PySem.W.mg_of X G z7, ⟨_, rfl⟩⟩, ⟨_, PySem.W.mg_of X G z8, rfl⟩, fun H => .inr ⟨_, _, _, y8, rfl, rfl, (by show 3 ≤ sizeLine; decide), (.cons ⟨_, rfl⟩ (.cons ⟨_, rfl⟩ (.cons ⟨_, rfl⟩ .nil)))⟩, ⟨_, PySem.W.mg_of X G z9, ⟨_, rfl⟩⟩, ⟨_, PySem.W.mg_of X G z10, ⟨_, rfl⟩⟩, PySem.W.mg_none_of X G z11, PySem.W.mg_none_of X G z12, ⟨_, PySem.W.mg_of X G z13, rfl⟩, ⟨_, _, y13, (.cons u13_0 (.cons u13_1 (.cons u13_2 .nil)))⟩, fun z h => F2.hasK (P := fun (a : Addr) (xs : List Int) => ∀ H, SqT K H a (xs.map V.int)) (.cons ⟨rfl, fun H => .inr ⟨_, _, _, y13_0, rfl, rfl, (by show 1 ≤ sizeLine; decide), (.cons ⟨_, rfl⟩ .nil)⟩⟩ (.cons ⟨rfl, fun H => .inr ⟨_, _, _, y13_1, rfl, rfl, (by show 2 ≤ sizeLine; decide), (.cons ⟨_, rfl⟩ (.cons ⟨_, rfl⟩ .nil))⟩⟩ (.cons ⟨rfl, fun H => .inr ⟨_, _, _, y13_2, rfl, rfl, (by show 1 ≤ sizeLine; decide), (.cons ⟨_, rfl⟩ .nil)⟩⟩ .nil))) h, fun z h => F2.look (P := fun (a : Addr) (xs : List Int) => ∀ H, SqT K H a (xs.map V.int)) (.cons ⟨rfl, fun H => .inr ⟨_, _, _, y13_0, rfl, rfl, (by show 1 ≤ sizeLine; decide), (.cons ⟨_, rfl⟩ .nil)⟩⟩ (.cons ⟨rfl, fun H => .inr ⟨_, _, _, y13_1, rfl, rfl, (by show 2 ≤ sizeLine; decide), (.cons ⟨_, rfl⟩ (.cons ⟨_, rfl⟩ .nil))⟩⟩ (.cons ⟨rfl, fun H => .inr ⟨_, _, _, y13_2, rfl, rfl, (by show 1 ≤ sizeLine; decide), (.cons ⟨_, rfl⟩ .nil)⟩⟩ .nil))) h, PySem.W.mg_none_of X G z14, PySem.W.mg_none_of X G z15, fun H => .inr ⟨_, _, _, ytPictureHeader___init___store, rfl, rfl, (by show 0 ≤ sizeLine; decide), .nil⟩, fun H => .inr ⟨_, _, _, ytPictureHeader___init___refs, rfl, rfl, (by show 0 ≤ sizeLine; decide), .nil⟩, ⟨yFormat0, yFormat1, yFormat2, yFormat3⟩, xFormat0, xFormat1, xFormat2, xFormat3, ⟨ySettings0, ySettings1, ySettings2, ySettings3⟩, xSettings0, xSettings1, xSettings2, xSettings3, xSettings4, xSettings5, ⟨yPictureHeader0, yPictureHeader1, yPictureHeader2, yPictureHeader3⟩, xPictureHeader0, xPictureHeader1, xPictureHeader2, xPictureHeader3, xPictureHeader4, xPictureHeader5, xPictureHeader6, xPictureHeader7, xPictureHeader8, ⟨ySliceHeader0, ySliceHeader1, ySliceHeader2, ySliceHeader3⟩, xSliceHeader0, xSliceHeader1, xSliceHeader2, PySem.W.mg_of X G vBadFormat, exBadFormat, ekBadFormat, ebBadFormat, etBadFormat, PySem.W.mg_of X G vBadHeader, exBadHeader, ekBadHeader, ebBadHeader, etBadHeader, PySem.W.mg_of X G vCodecError, exCodecError, ekCodecError, ebCodecError, etCodecError, exm_mk ebBadHeader eiBadHeaderBadHeader etBadHeader esBadHeaderBadHeader, kit_mk eiBadHeaderCodecError etCodecError esBadHeaderCodecError, kit_mk0 enBadHeaderBadFormat ejBadHeaderBadFormat etBadFormat etBadHeaderBadFormat, ⟨c1BadHeader, c2BadHeader, ebBadHeader, c3BadHeader, c4BadHeader, c5BadHeader, c6BadHeader, c7BadHeader⟩⟩
  have F0 : FunD K "_law_draws" "_law_draws" (defArgs s__law_draws) (defBody s__law_draws) (defScope s__law_draws) [] [] f0 _ := ⟨⟨_, _, _, _, _, _, _, _, _, _, rfl, l0, c0, .inl ⟨rfl, rfl⟩, .inl rfl⟩, k0⟩
  have D_0 : DefX K mg "_law_draws" s__law_draws ["cell", "limits"] pats__law_draws := ⟨_, _, _, _, F0, PySem.W.mg_of X G a0, (all_consQ (Bnd.all fun us ws vs zs l1 l2 r rz => by
      obtain ⟨u0, u1, rfl⟩ := len2 (r.length.symm.trans l1)
      obtain rfl := len0 (rz.length.symm.trans l2)
      cases r with | cons r0 r =>
        cases r with | cons r1 r =>
          cases r
          cases rz
          exact ⟨[u0, u1], rfl, (.cons r0 (.cons r1 .nil))⟩) all_nilQ)⟩
  have F1 : FunD K "_law_between" "_law_between" (defArgs s__law_between) (defBody s__law_between) (defScope s__law_between) [] [] f1 _ := ⟨⟨_, _, _, _, _, _, _, _, _, _, rfl, l1, c1, .inl ⟨rfl, rfl⟩, .inl rfl⟩, k1⟩
  have D_1 : DefX K mg "_law_between" s__law_between ["first", "second", "low", "high"] pats__law_between := ⟨_, _, _, _, F1, PySem.W.mg_of X G a1, (all_consQ (Bnd.all fun us ws vs zs l1 l2 r rz => by
      obtain ⟨u0, u1, u2, u3, rfl⟩ := len4 (r.length.symm.trans l1)
      obtain rfl := len0 (rz.length.symm.trans l2)
      cases r with | cons r0 r =>
        cases r with | cons r1 r =>
          cases r with | cons r2 r =>
            cases r with | cons r3 r =>
              cases r
              cases rz
              exact ⟨[u0, u1, u2, u3], rfl, (.cons r0 (.cons r1 (.cons r2 (.cons r3 .nil))))⟩) all_nilQ)⟩
  have F2 : FunD K "_law_numbers" "_law_numbers" (defArgs s__law_numbers) (defBody s__law_numbers) (defScope s__law_numbers) [] [] f2 _ := ⟨⟨_, _, _, _, _, _, _, _, _, _, rfl, l2, c2, .inl ⟨rfl, rfl⟩, .inl rfl⟩, k2⟩
  have D_2 : DefX K mg "_law_numbers" s__law_numbers ["cell"] pats__law_numbers := ⟨_, _, _, _, F2, PySem.W.mg_of X G a2, (all_consQ (Bnd.all fun us ws vs zs l1 l2 r rz => by
      obtain ⟨u0, rfl⟩ := len1 (r.length.symm.trans l1)
      obtain rfl := len0 (rz.length.symm.trans l2)
      cases r with | cons r0 r =>
        cases r
        cases rz
        exact ⟨[u0], rfl, (.cons r0 .nil)⟩) all_nilQ)⟩
  have F3 : FunD K "__init__" "Format.__init__" (defArgs s_Format___init__) (defBody s_Format___init__) (defScope s_Format___init__) [] [("depth", V.int 8), ("chroma", V.int 0)] f3 _ := ⟨⟨_, _, _, _, _, _, _, _, _, _, rfl, l3, c3, .inl ⟨rfl, rfl⟩, (.inr ⟨_, rfl, (all_consQ ⟨_, kd3_0, ⟨_, rfl⟩⟩ (all_consQ ⟨_, kd3_1, ⟨_, rfl⟩⟩ all_nilQ))⟩)⟩, k3⟩
  have D_3 : InitX K mg CFormat "Format" "Format.__init__" s_Format___init__ ["self", "width", "height", "depth", "chroma"] pats_Format___init__ := ⟨_, _, _, _, F3, ⟨d3, a3, b3, e3⟩, PySem.W.mg_of X G wFormat, (all_consQ (Bnd.all fun us ws vs zs l1 l2 r rz => by
      obtain ⟨u0, u1, u2, rfl⟩ := len3 (r.length.symm.trans l1)
      obtain ⟨w0, w1, rfl⟩ := len2 (rz.length.symm.trans l2)
      cases r with | cons r0 r =>
        cases r with | cons r1 r =>
          cases r with | cons r2 r =>
            cases r
            cases rz with | cons q0 rz =>
              cases rz with | cons q1 rz =>
                cases rz
                exact ⟨[u0, u1, u2, w0, w1], rfl, (.cons r0 (.cons r1 (.cons r2 (.cons q0 (.cons q1 .nil)))))⟩) all_nilQ)⟩
  have F4 : FunD K "_require" "_require" (defArgs s__require) (defBody s__require) (defScope s__require) [] [] f4 _ := ⟨⟨_, _, _, _, _, _, _, _, _, _, rfl, l4, c4, .inl ⟨rfl, rfl⟩, .inl rfl⟩, k4⟩
  have D_4 : DefX K mg "_require" s__require ["holds", "text"] pats__require := ⟨_, _, _, _, F4, PySem.W.mg_of X G a4, (all_consQ (Bnd.all fun us ws vs zs l1 l2 r rz => by
      obtain ⟨u0, u1, rfl⟩ := len2 (r.length.symm.trans l1)
      obtain rfl := len0 (rz.length.symm.trans l2)
      cases r with | cons r0 r =>
        cases r with | cons r1 r =>
          cases r
          cases rz
          exact ⟨[u0, u1], rfl, (.cons r0 (.cons r1 .nil))⟩) all_nilQ)⟩
  have F5 : FunD K "__init__" "Settings.__init__" (defArgs s_Settings___init__) (defBody s_Settings___init__) (defScope s_Settings___init__) [] [("slots", V.int 1), ("rows", V.int 1), ("deblock", V.bl false), ("offset", V.bl false), ("layers", V.int 1)] f5 _ := ⟨⟨_, _, _, _, _, _, _, _, _, _, rfl, l5, c5, .inl ⟨rfl, rfl⟩, (.inr ⟨_, rfl, (all_consQ ⟨_, kd5_0, ⟨_, rfl⟩⟩ (all_consQ ⟨_, kd5_1, ⟨_, rfl⟩⟩ (all_consQ ⟨_, kd5_2, rfl⟩ (all_consQ ⟨_, kd5_3, rfl⟩ (all_consQ ⟨_, kd5_4, ⟨_, rfl⟩⟩ all_nilQ)))))⟩)⟩, k5⟩
  have D_5 : InitX K mg CSettings "Settings" "Settings.__init__" s_Settings___init__ ["self", "fmt", "slots", "rows", "deblock", "offset", "layers"] pats_Settings___init__ := ⟨_, _, _, _, F5, ⟨d5, a5, b5, e5⟩, PySem.W.mg_of X G wSettings, (all_consQ (Bnd.all fun us ws vs zs l1 l2 r rz => by
      obtain ⟨u0, u1, rfl⟩ := len2 (r.length.symm.trans l1)
      obtain ⟨w0, w1, w2, w3, w4, rfl⟩ := len5 (rz.length.symm.trans l2)
      cases r with | cons r0 r =>
        cases r with | cons r1 r =>
          cases r
          cases rz with | cons q0 rz =>
            cases rz with | cons q1 rz =>
              cases rz with | cons q2 rz =>
                cases rz with | cons q3 rz =>
                  cases rz with | cons q4 rz =>
                    cases rz
                    exact ⟨[u0, u1, w0, w1, w2, w3, w4], rfl, (.cons r0 (.cons r1 (.cons q0 (.cons q1 (.cons q2 (.cons q3 (.cons q4 .nil)))))))⟩) (all_consQ (Exists.elim (FunD.kbinds0 F5 2 ["slots", "rows", "layers"] [("deblock", V.bl false), ("offset", V.bl false)] (fun {α} => gk_Settings___init___1 (α := α)) (by simp) (by simp) (fun r s q => gkrel_Settings___init___1 r s q) (fun D doc pm an cdv ct us mv ws h1 h2 h3 => by
        obtain ⟨u0, u1, rfl⟩ := len2 h1
        obtain ⟨m0, m1, rfl⟩ := len2 h2
        obtain ⟨w0, w1, w2, rfl⟩ := len3 h3
        exact ⟨_, _, _, _, _, _, rfl, rfl, ⟨_, _, _, _, _, _, rfl, rfl, rfl⟩⟩)) fun _ hb => Bnd.of_kbn hb) all_nilQ))⟩
  have F6 : FunD K "_law_settings" "_law_settings" (defArgs s__law_settings) (defBody s__law_settings) (defScope s__law_settings) [] [] f6 _ := ⟨⟨_, _, _, _, _, _, _, _, _, _, rfl, l6, c6, .inl ⟨rfl, rfl⟩, .inl rfl⟩, k6⟩
  have D_6 : DefX K mg "_law_settings" s__law_settings ["n"] pats__law_settings := ⟨_, _, _, _, F6, PySem.W.mg_of X G a6, (all_consQ (Bnd.all fun us ws vs zs l1 l2 r rz => by
      obtain ⟨u0, rfl⟩ := len1 (r.length.symm.trans l1)
      obtain rfl := len0 (rz.length.symm.trans l2)
      cases r with | cons r0 r =>
        cases r
        cases rz
        exact ⟨[u0], rfl, (.cons r0 .nil)⟩) all_nilQ)⟩
  have F7 : FunD K "_law_picture" "_law_picture" (defArgs s__law_picture) (defBody s__law_picture) (defScope s__law_picture) [] [] f7 _ := ⟨⟨_, _, _, _, _, _, _, _, _, _, rfl, l7, c7, .inl ⟨rfl, rfl⟩, .inl rfl⟩, k7⟩
  have D_7 : DefX K mg "_law_picture" s__law_picture ["cell", "n"] pats__law_picture := ⟨_, _, _, _, F7, PySem.W.mg_of X G a7, (all_consQ (Bnd.all fun us ws vs zs l1 l2 r rz => by
      obtain ⟨u0, u1, rfl⟩ := len2 (r.length.symm.trans l1)
      obtain rfl := len0 (rz.length.symm.trans l2)
      cases r with | cons r0 r =>
        cases r with | cons r1 r =>
          cases r
          cases rz
          exact ⟨[u0, u1], rfl, (.cons r0 (.cons r1 .nil))⟩) all_nilQ)⟩
  have F8 : FunD K "_law_with" "_law_with" (defArgs s__law_with) (defBody s__law_with) (defScope s__law_with) [] [] f8 _ := ⟨⟨_, _, _, _, _, _, _, _, _, _, rfl, l8, c8, .inl ⟨rfl, rfl⟩, .inl rfl⟩, k8⟩
  have D_8 : DefX K mg "_law_with" s__law_with ["p", "k", "value"] pats__law_with := ⟨_, _, _, _, F8, PySem.W.mg_of X G a8, (all_consQ (Bnd.all fun us ws vs zs l1 l2 r rz => by
      obtain ⟨u0, u1, u2, rfl⟩ := len3 (r.length.symm.trans l1)
      obtain rfl := len0 (rz.length.symm.trans l2)
      cases r with | cons r0 r =>
        cases r with | cons r1 r =>
          cases r with | cons r2 r =>
            cases r
            cases rz
            exact ⟨[u0, u1, u2], rfl, (.cons r0 (.cons r1 (.cons r2 .nil)))⟩) all_nilQ)⟩
  have F9 : FunD K "_law_faults" "_law_faults" (defArgs s__law_faults) (defBody s__law_faults) (defScope s__law_faults) [] [] f9 _ := ⟨⟨_, _, _, _, _, _, _, _, _, _, rfl, l9, c9, .inl ⟨rfl, rfl⟩, .inl rfl⟩, k9⟩
  have D_9 : DefX K mg "_law_faults" s__law_faults ["p", "n", "far"] pats__law_faults := ⟨_, _, _, _, F9, PySem.W.mg_of X G a9, (all_consQ (Bnd.all fun us ws vs zs l1 l2 r rz => by
      obtain ⟨u0, u1, u2, rfl⟩ := len3 (r.length.symm.trans l1)
      obtain rfl := len0 (rz.length.symm.trans l2)
      cases r with | cons r0 r =>
        cases r with | cons r1 r =>
          cases r with | cons r2 r =>
            cases r
            cases rz
            exact ⟨[u0, u1, u2], rfl, (.cons r0 (.cons r1 (.cons r2 .nil)))⟩) all_nilQ)⟩
  have F10 : FunD K "_law_cell" "_law_cell" (defArgs s__law_cell) (defBody s__law_cell) (defScope s__law_cell) [] [] f10 _ := ⟨⟨_, _, _, _, _, _, _, _, _, _, rfl, l10, c10, .inl ⟨rfl, rfl⟩, .inl rfl⟩, k10⟩
  have D_10 : DefX K mg "_law_cell" s__law_cell ["script", "k"] pats__law_cell := ⟨_, _, _, _, F10, PySem.W.mg_of X G a10, (all_consQ (Bnd.all fun us ws vs zs l1 l2 r rz => by
      obtain ⟨u0, u1, rfl⟩ := len2 (r.length.symm.trans l1)
      obtain rfl := len0 (rz.length.symm.trans l2)
      cases r with | cons r0 r =>
        cases r with | cons r1 r =>
          cases r
          cases rz
          exact ⟨[u0, u1], rfl, (.cons r0 (.cons r1 .nil))⟩) all_nilQ)⟩
  have F11 : FunD K "blocks" "Format.blocks" (defArgs s_Format_blocks) (defBody s_Format_blocks) (defScope s_Format_blocks) [] [] f11 _ := ⟨⟨_, _, _, _, _, _, _, _, _, _, rfl, l11, c11, .inl ⟨rfl, rfl⟩, .inl rfl⟩, k11⟩
  have D_11 : MethX K CFormat "Format.blocks" "blocks" s_Format_blocks ["self"] pats_Format_blocks := ⟨_, _, _, _, F11, ⟨a11, b11, k11⟩, (all_consQ (Bnd.all fun us ws vs zs l1 l2 r rz => by
      obtain ⟨u0, rfl⟩ := len1 (r.length.symm.trans l1)
      obtain rfl := len0 (rz.length.symm.trans l2)
      cases r with | cons r0 r =>
        cases r
        cases rz
        exact ⟨[u0], rfl, (.cons r0 .nil)⟩) all_nilQ)⟩
  have F12 : FunD K "slices" "Settings.slices" (defArgs s_Settings_slices) (defBody s_Settings_slices) (defScope s_Settings_slices) [] [] f12 _ := ⟨⟨_, _, _, _, _, _, _, _, _, _, rfl, l12, c12, .inl ⟨rfl, rfl⟩, .inl rfl⟩, k12⟩
  have D_12 : MethX K CSettings "Settings.slices" "slices" s_Settings_slices ["self"] pats_Settings_slices := ⟨_, _, _, _, F12, ⟨a12, b12, k12⟩, (all_consQ (Bnd.all fun us ws vs zs l1 l2 r rz => by
      obtain ⟨u0, rfl⟩ := len1 (r.length.symm.trans l1)
      obtain rfl := len0 (rz.length.symm.trans l2)
      cases r with | cons r0 r =>
        cases r
        cases rz
        exact ⟨[u0], rfl, (.cons r0 .nil)⟩) all_nilQ)⟩
  have F13 : FunD K "_law_settings_refused" "_law_settings_refused" (defArgs s__law_settings_refused) (defBody s__law_settings_refused) (defScope s__law_settings_refused) [] [] f13 _ := ⟨⟨_, _, _, _, _, _, _, _, _, _, rfl, l13, c13, .inl ⟨rfl, rfl⟩, .inl rfl⟩, k13⟩
  have D_13 : DefX K mg "_law_settings_refused" s__law_settings_refused ["n", "slots", "rows", "layers"] pats__law_settings_refused := ⟨_, _, _, _, F13, PySem.W.mg_of X G a13, (all_consQ (Bnd.all fun us ws vs zs l1 l2 r rz => by
      obtain ⟨u0, u1, u2, u3, rfl⟩ := len4 (r.length.symm.trans l1)
      obtain rfl := len0 (rz.length.symm.trans l2)
      cases r with | cons r0 r =>
        cases r with | cons r1 r =>
          cases r with | cons r2 r =>
            cases r with | cons r3 r =>
              cases r
              cases rz
              exact ⟨[u0, u1, u2, u3], rfl, (.cons r0 (.cons r1 (.cons r2 (.cons r3 .nil))))⟩) all_nilQ)⟩
  have F14 : FunD K "_check_numbers" "_check_numbers" (defArgs s__check_numbers) (defBody s__check_numbers) (defScope s__check_numbers) [] [] f14 _ := ⟨⟨_, _, _, _, _, _, _, _, _, _, rfl, l14, c14, .inl ⟨rfl, rfl⟩, .inl rfl⟩, k14⟩
  have D_14 : DefX K mg "_check_numbers" s__check_numbers ["settings", "header"] pats__check_numbers := ⟨_, _, _, _, F14, PySem.W.mg_of X G a14, (all_consQ (Bnd.all fun us ws vs zs l1 l2 r rz => by
      obtain ⟨u0, u1, rfl⟩ := len2 (r.length.symm.trans l1)
      obtain rfl := len0 (rz.length.symm.trans l2)
      cases r with | cons r0 r =>
        cases r with | cons r1 r =>
          cases r
          cases rz
          exact ⟨[u0, u1], rfl, (.cons r0 (.cons r1 .nil))⟩) all_nilQ)⟩
  have F15 : FunD K "_check_slots" "_check_slots" (defArgs s__check_slots) (defBody s__check_slots) (defScope s__check_slots) [] [] f15 _ := ⟨⟨_, _, _, _, _, _, _, _, _, _, rfl, l15, c15, .inl ⟨rfl, rfl⟩, .inl rfl⟩, k15⟩
  have D_15 : DefX K mg "_check_slots" s__check_slots ["settings", "header"] pats__check_slots := ⟨_, _, _, _, F15, PySem.W.mg_of X G a15, (all_consQ (Bnd.all fun us ws vs zs l1 l2 r rz => by
      obtain ⟨u0, u1, rfl⟩ := len2 (r.length.symm.trans l1)
      obtain rfl := len0 (rz.length.symm.trans l2)
      cases r with | cons r0 r =>
        cases r with | cons r1 r =>
          cases r
          cases rz
          exact ⟨[u0, u1], rfl, (.cons r0 (.cons r1 .nil))⟩) all_nilQ)⟩
  have F16 : FunD K "__init__" "PictureHeader.__init__" (defArgs s_PictureHeader___init__) (defBody s_PictureHeader___init__) (defScope s_PictureHeader___init__) [] [("kind", V.str "I"), ("level", V.int 0), ("store", V.ref TD_PictureHeader___init___store), ("refs", V.ref TD_PictureHeader___init___refs), ("weight", V.int 8), ("layer", V.int 0), ("shown", V.bl true), ("edge", V.int 0)] f16 _ := ⟨⟨_, _, _, _, _, _, _, _, _, _, rfl, l16, c16, .inl ⟨rfl, rfl⟩, (.inr ⟨_, rfl, (all_consQ ⟨_, kd16_0, ⟨_, rfl⟩⟩ (all_consQ ⟨_, kd16_1, ⟨_, rfl⟩⟩ (all_consQ ⟨_, kd16_2, rfl⟩ (all_consQ ⟨_, kd16_3, rfl⟩ (all_consQ ⟨_, kd16_4, ⟨_, rfl⟩⟩ (all_consQ ⟨_, kd16_5, ⟨_, rfl⟩⟩ (all_consQ ⟨_, kd16_6, rfl⟩ (all_consQ ⟨_, kd16_7, ⟨_, rfl⟩⟩ all_nilQ))))))))⟩)⟩, k16⟩
  have D_16 : InitX K mg CPictureHeader "PictureHeader" "PictureHeader.__init__" s_PictureHeader___init__ ["self", "settings", "number", "kind", "level", "store", "refs", "weight", "layer", "shown", "edge"] (pats_PictureHeader___init__ ⟨TD_PictureHeader___init___store, TD_PictureHeader___init___refs, CFormat, CSettings, CPictureHeader, CSliceHeader, XCodecError, XBadFormat, fa, XBadHeader, TG_KINDS, TG_REF_COUNTS, TG_REF_COUNTS_0, TG_REF_COUNTS_1, TG_REF_COUNTS_2, fa⟩) := ⟨_, _, _, _, F16, ⟨d16, a16, b16, e16⟩, PySem.W.mg_of X G wPictureHeader, (all_consQ (Bnd.all fun us ws vs zs l1 l2 r rz => by
      obtain ⟨u0, u1, rfl⟩ := len2 (r.length.symm.trans l1)
      obtain ⟨w0, w1, w2, w3, w4, w5, w6, w7, w8, rfl⟩ := len9 (rz.length.symm.trans l2)
      cases r with | cons r0 r =>
        cases r with | cons r1 r =>
          cases r
          cases rz with | cons q0 rz =>
            cases rz with | cons q1 rz =>
              cases rz with | cons q2 rz =>
                cases rz with | cons q3 rz =>
                  cases rz with | cons q4 rz =>
                    cases rz with | cons q5 rz =>
                      cases rz with | cons q6 rz =>
                        cases rz with | cons q7 rz =>
                          cases rz with | cons q8 rz =>
                            cases rz
                            exact ⟨[u0, u1, w0, w1, w2, w3, w4, w5, w6, w7, w8], rfl, (.cons r0 (.cons r1 (.cons q0 (.cons q1 (.cons q2 (.cons q3 (.cons q4 (.cons q5 (.cons q6 (.cons q7 (.cons q8 .nil)))))))))))⟩) all_nilQ)⟩
  have F17 : FunD K "_law_header" "_law_header" (defArgs s__law_header) (defBody s__law_header) (defScope s__law_header) [] [] f17 _ := ⟨⟨_, _, _, _, _, _, _, _, _, _, rfl, l17, c17, .inl ⟨rfl, rfl⟩, .inl rfl⟩, k17⟩
  have D_17 : DefX K mg "_law_header" s__law_header ["settings", "p"] pats__law_header := ⟨_, _, _, _, F17, PySem.W.mg_of X G a17, (all_consQ (Bnd.all fun us ws vs zs l1 l2 r rz => by
      obtain ⟨u0, u1, rfl⟩ := len2 (r.length.symm.trans l1)
      obtain rfl := len0 (rz.length.symm.trans l2)
      cases r with | cons r0 r =>
        cases r with | cons r1 r =>
          cases r
          cases rz
          exact ⟨[u0, u1], rfl, (.cons r0 (.cons r1 .nil))⟩) all_nilQ)⟩
  have F18 : FunD K "_law_picture_refused" "_law_picture_refused" (defArgs s__law_picture_refused) (defBody s__law_picture_refused) (defScope s__law_picture_refused) [] [] f18 _ := ⟨⟨_, _, _, _, _, _, _, _, _, _, rfl, l18, c18, .inl ⟨rfl, rfl⟩, .inl rfl⟩, k18⟩
  have D_18 : DefX K mg "_law_picture_refused" s__law_picture_refused ["settings", "p", "name"] pats__law_picture_refused := ⟨_, _, _, _, F18, PySem.W.mg_of X G a18, (all_consQ (Bnd.all fun us ws vs zs l1 l2 r rz => by
      obtain ⟨u0, u1, u2, rfl⟩ := len3 (r.length.symm.trans l1)
      obtain rfl := len0 (rz.length.symm.trans l2)
      cases r with | cons r0 r =>
        cases r with | cons r1 r =>
          cases r with | cons r2 r =>
            cases r
            cases rz
            exact ⟨[u0, u1, u2], rfl, (.cons r0 (.cons r1 (.cons r2 .nil)))⟩) all_nilQ)⟩
  have F19 : FunD K "__init__" "SliceHeader.__init__" (defArgs s_SliceHeader___init__) (defBody s_SliceHeader___init__) (defScope s_SliceHeader___init__) [] [("delta", V.int 0)] f19 _ := ⟨⟨_, _, _, _, _, _, _, _, _, _, rfl, l19, c19, .inl ⟨rfl, rfl⟩, (.inr ⟨_, rfl, (all_consQ ⟨_, kd19_0, ⟨_, rfl⟩⟩ all_nilQ)⟩)⟩, k19⟩
  have D_19 : InitX K mg CSliceHeader "SliceHeader" "SliceHeader.__init__" s_SliceHeader___init__ ["self", "settings", "number", "index", "delta"] pats_SliceHeader___init__ := ⟨_, _, _, _, F19, ⟨d19, a19, b19, e19⟩, PySem.W.mg_of X G wSliceHeader, (all_consQ (Bnd.all fun us ws vs zs l1 l2 r rz => by
      obtain ⟨u0, u1, rfl⟩ := len2 (r.length.symm.trans l1)
      obtain ⟨w0, w1, w2, rfl⟩ := len3 (rz.length.symm.trans l2)
      cases r with | cons r0 r =>
        cases r with | cons r1 r =>
          cases r
          cases rz with | cons q0 rz =>
            cases rz with | cons q1 rz =>
              cases rz with | cons q2 rz =>
                cases rz
                exact ⟨[u0, u1, w0, w1, w2], rfl, (.cons r0 (.cons r1 (.cons q0 (.cons q1 (.cons q2 .nil)))))⟩) all_nilQ)⟩
  have F20 : FunD K "_law_slice_refused" "_law_slice_refused" (defArgs s__law_slice_refused) (defBody s__law_slice_refused) (defScope s__law_slice_refused) [] [] f20 _ := ⟨⟨_, _, _, _, _, _, _, _, _, _, rfl, l20, c20, .inl ⟨rfl, rfl⟩, .inl rfl⟩, k20⟩
  have D_20 : DefX K mg "_law_slice_refused" s__law_slice_refused ["settings", "number", "index", "delta"] pats__law_slice_refused := ⟨_, _, _, _, F20, PySem.W.mg_of X G a20, (all_consQ (Bnd.all fun us ws vs zs l1 l2 r rz => by
      obtain ⟨u0, u1, u2, u3, rfl⟩ := len4 (r.length.symm.trans l1)
      obtain rfl := len0 (rz.length.symm.trans l2)
      cases r with | cons r0 r =>
        cases r with | cons r1 r =>
          cases r with | cons r2 r =>
            cases r with | cons r3 r =>
              cases r
              cases rz
              exact ⟨[u0, u1, u2, u3], rfl, (.cons r0 (.cons r1 (.cons r2 (.cons r3 .nil))))⟩) all_nilQ)⟩
  have F21 : FunD K "law" "law" (defArgs s_law) (defBody s_law) (defScope s_law) [] [] _ _ := ⟨⟨_, _, _, _, _, _, _, _, _, _, rfl, l21, c21, .inl ⟨rfl, rfl⟩, .inl rfl⟩, k21⟩
  have R__law_draws : ∀ base : Heap, CalX l.prog w K mg base 1 "_law_draws" (sp__law_draws K ⟨TD_PictureHeader___init___store, TD_PictureHeader___init___refs, CFormat, CSettings, CPictureHeader, CSliceHeader, XCodecError, XBadFormat, fa, XBadHeader, TG_KINDS, TG_REF_COUNTS, TG_REF_COUNTS_0, TG_REF_COUNTS_1, TG_REF_COUNTS_2, fa⟩) pats__law_draws := fun base => ok__law_draws D_0 T 
  have R__law_between : ∀ base : Heap, CalX l.prog w K mg base 1 "_law_between" (sp__law_between K ⟨TD_PictureHeader___init___store, TD_PictureHeader___init___refs, CFormat, CSettings, CPictureHeader, CSliceHeader, XCodecError, XBadFormat, fa, XBadHeader, TG_KINDS, TG_REF_COUNTS, TG_REF_COUNTS_0, TG_REF_COUNTS_1, TG_REF_COUNTS_2, fa⟩) pats__law_between := fun base => ok__law_between D_1 T 
  have R__law_numbers : ∀ base : Heap, CalX l.prog w K mg base 2 "_law_numbers" (sp__law_numbers K ⟨TD_PictureHeader___init___store, TD_PictureHeader___init___refs, CFormat, CSettings, CPictureHeader, CSliceHeader, XCodecError, XBadFormat, fa, XBadHeader, TG_KINDS, TG_REF_COUNTS, TG_REF_COUNTS_0, TG_REF_COUNTS_1, TG_REF_COUNTS_2, fa⟩) pats__law_numbers := fun base => ok__law_numbers D_2 T (R__law_draws base) (R__law_between base)
  have R_Format___init__ : ∀ base : Heap, MakX l.prog w K mg base 1 "Format" (⟨TD_PictureHeader___init___store, TD_PictureHeader___init___refs, CFormat, CSettings, CPictureHeader, CSliceHeader, XCodecError, XBadFormat, fa, XBadHeader, TG_KINDS, TG_REF_COUNTS, TG_REF_COUNTS_0, TG_REF_COUNTS_1, TG_REF_COUNTS_2, fa⟩ : Ads).c_Format (sp_Format___init__ K ⟨TD_PictureHeader___init___store, TD_PictureHeader___init___refs, CFormat, CSettings, CPictureHeader, CSliceHeader, XCodecError, XBadFormat, fa, XBadHeader, TG_KINDS, TG_REF_COUNTS, TG_REF_COUNTS_0, TG_REF_COUNTS_1, TG_REF_COUNTS_2, fa⟩) pats_Format___init__ := fun base => ok_Format___init__ D_3 T 
  have R__require : ∀ base : Heap, CalX l.prog w K mg base 1 "_require" (sp__require K ⟨TD_PictureHeader___init___store, TD_PictureHeader___init___refs, CFormat, CSettings, CPictureHeader, CSliceHeader, XCodecError, XBadFormat, fa, XBadHeader, TG_KINDS, TG_REF_COUNTS, TG_REF_COUNTS_0, TG_REF_COUNTS_1, TG_REF_COUNTS_2, fa⟩) pats__require := fun base => ok__require D_4 T 
  have R_Settings___init__ : ∀ base : Heap, MakX l.prog w K mg base 2 "Settings" (⟨TD_PictureHeader___init___store, TD_PictureHeader___init___refs, CFormat, CSettings, CPictureHeader, CSliceHeader, XCodecError, XBadFormat, fa, XBadHeader, TG_KINDS, TG_REF_COUNTS, TG_REF_COUNTS_0, TG_REF_COUNTS_1, TG_REF_COUNTS_2, fa⟩ : Ads).c_Settings (sp_Settings___init__ K ⟨TD_PictureHeader___init___store, TD_PictureHeader___init___refs, CFormat, CSettings, CPictureHeader, CSliceHeader, XCodecError, XBadFormat, fa, XBadHeader, TG_KINDS, TG_REF_COUNTS, TG_REF_COUNTS_0, TG_REF_COUNTS_1, TG_REF_COUNTS_2, fa⟩) pats_Settings___init__ := fun base => ok_Settings___init__ D_5 T (R__require base)
  have R__law_settings : ∀ base : Heap, CalX l.prog w K mg base 4 "_law_settings" (sp__law_settings K ⟨TD_PictureHeader___init___store, TD_PictureHeader___init___refs, CFormat, CSettings, CPictureHeader, CSliceHeader, XCodecError, XBadFormat, fa, XBadHeader, TG_KINDS, TG_REF_COUNTS, TG_REF_COUNTS_0, TG_REF_COUNTS_1, TG_REF_COUNTS_2, fa⟩) pats__law_settings := fun base => ok__law_settings D_6 T (R_Format___init__ base) (R_Settings___init__ base)
  have R__law_picture : ∀ base : Heap, CalX l.prog w K mg base 2 "_law_picture" (sp__law_picture K ⟨TD_PictureHeader___init___store, TD_PictureHeader___init___refs, CFormat, CSettings, CPictureHeader, CSliceHeader, XCodecError, XBadFormat, fa, XBadHeader, TG_KINDS, TG_REF_COUNTS, TG_REF_COUNTS_0, TG_REF_COUNTS_1, TG_REF_COUNTS_2, fa⟩) pats__law_picture := fun base => ok__law_picture D_7 T (R__law_draws base) (R__law_between base)
  have R__law_with : ∀ base : Heap, CalX l.prog w K mg base 1 "_law_with" (sp__law_with K ⟨TD_PictureHeader___init___store, TD_PictureHeader___init___refs, CFormat, CSettings, CPictureHeader, CSliceHeader, XCodecError, XBadFormat, fa, XBadHeader, TG_KINDS, TG_REF_COUNTS, TG_REF_COUNTS_0, TG_REF_COUNTS_1, TG_REF_COUNTS_2, fa⟩) pats__law_with := fun base => ok__law_with D_8 T 
  have R__law_faults : ∀ base : Heap, CalX l.prog w K mg base 2 "_law_faults" (sp__law_faults K ⟨TD_PictureHeader___init___store, TD_PictureHeader___init___refs, CFormat, CSettings, CPictureHeader, CSliceHeader, XCodecError, XBadFormat, fa, XBadHeader, TG_KINDS, TG_REF_COUNTS, TG_REF_COUNTS_0, TG_REF_COUNTS_1, TG_REF_COUNTS_2, fa⟩) pats__law_faults := fun base => ok__law_faults D_9 T (R__law_with base)
  have R__law_cell : ∀ base : Heap, CalX l.prog w K mg base 1 "_law_cell" (sp__law_cell K ⟨TD_PictureHeader___init___store, TD_PictureHeader___init___refs, CFormat, CSettings, CPictureHeader, CSliceHeader, XCodecError, XBadFormat, fa, XBadHeader, TG_KINDS, TG_REF_COUNTS, TG_REF_COUNTS_0, TG_REF_COUNTS_1, TG_REF_COUNTS_2, fa⟩) pats__law_cell := fun base => ok__law_cell D_10 T 
  have R_Format_blocks : ∀ base : Heap, MetX l.prog w K mg base 1 (⟨TD_PictureHeader___init___store, TD_PictureHeader___init___refs, CFormat, CSettings, CPictureHeader, CSliceHeader, XCodecError, XBadFormat, fa, XBadHeader, TG_KINDS, TG_REF_COUNTS, TG_REF_COUNTS_0, TG_REF_COUNTS_1, TG_REF_COUNTS_2, fa⟩ : Ads).c_Format "blocks" (sp_Format_blocks K ⟨TD_PictureHeader___init___store, TD_PictureHeader___init___refs, CFormat, CSettings, CPictureHeader, CSliceHeader, XCodecError, XBadFormat, fa, XBadHeader, TG_KINDS, TG_REF_COUNTS, TG_REF_COUNTS_0, TG_REF_COUNTS_1, TG_REF_COUNTS_2, fa⟩) pats_Format_blocks := fun base => ok_Format_blocks D_11 T 
  have R_Settings_slices : ∀ base : Heap, MetX l.prog w K mg base 2 (⟨TD_PictureHeader___init___store, TD_PictureHeader___init___refs, CFormat, CSettings, CPictureHeader, CSliceHeader, XCodecError, XBadFormat, fa, XBadHeader, TG_KINDS, TG_REF_COUNTS, TG_REF_COUNTS_0, TG_REF_COUNTS_1, TG_REF_COUNTS_2, fa⟩ : Ads).c_Settings "slices" (sp_Settings_slices K ⟨TD_PictureHeader___init___store, TD_PictureHeader___init___refs, CFormat, CSettings, CPictureHeader, CSliceHeader, XCodecError, XBadFormat, fa, XBadHeader, TG_KINDS, TG_REF_COUNTS, TG_REF_COUNTS_0, TG_REF_COUNTS_1, TG_REF_COUNTS_2, fa⟩) pats_Settings_slices := fun base => ok_Settings_slices D_12 T (R_Format_blocks base)
  have R__law_settings_refused : ∀ base : Heap, CalX l.prog w K mg base 4 "_law_settings_refused" (sp__law_settings_refused K ⟨TD_PictureHeader___init___store, TD_PictureHeader___init___refs, CFormat, CSettings, CPictureHeader, CSliceHeader, XCodecError, XBadFormat, fa, XBadHeader, TG_KINDS, TG_REF_COUNTS, TG_REF_COUNTS_0, TG_REF_COUNTS_1, TG_REF_COUNTS_2, fa⟩) pats__law_settings_refused := fun base => ok__law_settings_refused D_13 T (R_Format___init__ base) (R_Settings___init__ base)
  have R__check_numbers : ∀ base : Heap, CalX l.prog w K mg base 2 "_check_numbers" (sp__check_numbers K ⟨TD_PictureHeader___init___store, TD_PictureHeader___init___refs, CFormat, CSettings, CPictureHeader, CSliceHeader, XCodecError, XBadFormat, fa, XBadHeader, TG_KINDS, TG_REF_COUNTS, TG_REF_COUNTS_0, TG_REF_COUNTS_1, TG_REF_COUNTS_2, fa⟩) pats__check_numbers := fun base => ok__check_numbers D_14 T (R__require base)
  have R__check_slots : ∀ base : Heap, CalX l.prog w K mg base 2 "_check_slots" (sp__check_slots K ⟨TD_PictureHeader___init___store, TD_PictureHeader___init___refs, CFormat, CSettings, CPictureHeader, CSliceHeader, XCodecError, XBadFormat, fa, XBadHeader, TG_KINDS, TG_REF_COUNTS, TG_REF_COUNTS_0, TG_REF_COUNTS_1, TG_REF_COUNTS_2, fa⟩) pats__check_slots := fun base => ok__check_slots D_15 T (R__require base)
  have R_PictureHeader___init__ : ∀ base : Heap, MakX l.prog w K mg base 3 "PictureHeader" (⟨TD_PictureHeader___init___store, TD_PictureHeader___init___refs, CFormat, CSettings, CPictureHeader, CSliceHeader, XCodecError, XBadFormat, fa, XBadHeader, TG_KINDS, TG_REF_COUNTS, TG_REF_COUNTS_0, TG_REF_COUNTS_1, TG_REF_COUNTS_2, fa⟩ : Ads).c_PictureHeader (sp_PictureHeader___init__ K ⟨TD_PictureHeader___init___store, TD_PictureHeader___init___refs, CFormat, CSettings, CPictureHeader, CSliceHeader, XCodecError, XBadFormat, fa, XBadHeader, TG_KINDS, TG_REF_COUNTS, TG_REF_COUNTS_0, TG_REF_COUNTS_1, TG_REF_COUNTS_2, fa⟩) (pats_PictureHeader___init__ ⟨TD_PictureHeader___init___store, TD_PictureHeader___init___refs, CFormat, CSettings, CPictureHeader, CSliceHeader, XCodecError, XBadFormat, fa, XBadHeader, TG_KINDS, TG_REF_COUNTS, TG_REF_COUNTS_0, TG_REF_COUNTS_1, TG_REF_COUNTS_2, fa⟩) := fun base => ok_PictureHeader___init__ D_16 T (R__check_numbers base) (R__check_slots base)
  have R__law_header : ∀ base : Heap, CalX l.prog w K mg base 5 "_law_header" (sp__law_header K ⟨TD_PictureHeader___init___store, TD_PictureHeader___init___refs, CFormat, CSettings, CPictureHeader, CSliceHeader, XCodecError, XBadFormat, fa, XBadHeader, TG_KINDS, TG_REF_COUNTS, TG_REF_COUNTS_0, TG_REF_COUNTS_1, TG_REF_COUNTS_2, fa⟩) pats__law_header := fun base => ok__law_header D_17 T (R_PictureHeader___init__ base)
  have R__law_picture_refused : ∀ base : Heap, CalX l.prog w K mg base 5 "_law_picture_refused" (sp__law_picture_refused K ⟨TD_PictureHeader___init___store, TD_PictureHeader___init___refs, CFormat, CSettings, CPictureHeader, CSliceHeader, XCodecError, XBadFormat, fa, XBadHeader, TG_KINDS, TG_REF_COUNTS, TG_REF_COUNTS_0, TG_REF_COUNTS_1, TG_REF_COUNTS_2, fa⟩) pats__law_picture_refused := fun base => ok__law_picture_refused D_18 T (R_PictureHeader___init__ base)
  have R_SliceHeader___init__ : ∀ base : Heap, MakX l.prog w K mg base 3 "SliceHeader" (⟨TD_PictureHeader___init___store, TD_PictureHeader___init___refs, CFormat, CSettings, CPictureHeader, CSliceHeader, XCodecError, XBadFormat, fa, XBadHeader, TG_KINDS, TG_REF_COUNTS, TG_REF_COUNTS_0, TG_REF_COUNTS_1, TG_REF_COUNTS_2, fa⟩ : Ads).c_SliceHeader (sp_SliceHeader___init__ K ⟨TD_PictureHeader___init___store, TD_PictureHeader___init___refs, CFormat, CSettings, CPictureHeader, CSliceHeader, XCodecError, XBadFormat, fa, XBadHeader, TG_KINDS, TG_REF_COUNTS, TG_REF_COUNTS_0, TG_REF_COUNTS_1, TG_REF_COUNTS_2, fa⟩) pats_SliceHeader___init__ := fun base => ok_SliceHeader___init__ D_19 T (R__require base) (R_Settings_slices base)
  have R__law_slice_refused : ∀ base : Heap, CalX l.prog w K mg base 5 "_law_slice_refused" (sp__law_slice_refused K ⟨TD_PictureHeader___init___store, TD_PictureHeader___init___refs, CFormat, CSettings, CPictureHeader, CSliceHeader, XCodecError, XBadFormat, fa, XBadHeader, TG_KINDS, TG_REF_COUNTS, TG_REF_COUNTS_0, TG_REF_COUNTS_1, TG_REF_COUNTS_2, fa⟩) pats__law_slice_refused := fun base => ok__law_slice_refused D_20 T (R_SliceHeader___init__ base)

  refine ⟨PySem.W.fnOf "law" "law" (defArgs s_law) (defBody s_law) (defScope s_law) .none kV21 dc21 pm21 an21 cd21 ct21, fun s v => .of_eq rfl, fun base _ _ => (ok_law (AD := ⟨TD_PictureHeader___init___store, TD_PictureHeader___init___refs, CFormat, CSettings, CPictureHeader, CSliceHeader, XCodecError, XBadFormat, fa, XBadHeader, TG_KINDS, TG_REF_COUNTS, TG_REF_COUNTS_0, TG_REF_COUNTS_1, TG_REF_COUNTS_2, fa⟩) F21 T (R__law_numbers base) (R__law_cell base) (R__law_draws base) (R__law_settings_refused base) (R__law_settings base) (R__law_picture base) (R__law_header base) (R__law_picture_refused base) (R__law_faults base) (R_Settings_slices base) (R__law_slice_refused base) (R_SliceHeader___init__ base)).imp ?_⟩
  rintro vs H Q E ⟨a, xs, rfl, hs, hl, q⟩
  exact ⟨a, xs, rfl, hs, by rw [law_true xs hl]; exact cW_mk rfl, q⟩
end Vx
open PySem PySem.W PyProof.Rows
set_option maxRecDepth 100000 in
set_option maxHeartbeats 0 in
theorem PySem.Challenge.cw_thaumatrope_k24_headers_refused_holds : PySem.Challenge.rw_thaumatrope_k24_headers_refused.Holds := by
  w_on; o_law; k_head; (case hw => w_witness2)
  k_fill
  refine Vx.walkG (l := PySem.Challenge.rw_thaumatrope_k24_headers_refused) (n := 63) (k := 6) (x := "script") rfl (by decide) rfl ⟨rfl, by decide, by decide⟩ (fun w h Y => PySem.W.kIn_of Y) ?F
  case F =>
    intro w mg fa h KX G hmg
    refine' Vx.all_mk KX G hmg ?wFormat ?wSettings ?wPictureHeader ?wSliceHeader ?vCodecError ?vBadFormat ?vBadHeader ?a0 ?l0 ?c0 ?k0 ?a1 ?l1 ?c1 ?k1 ?a2 ?l2 ?c2 ?k2 ?a3 ?b3 ?d3 ?e3 ?l3 ?c3 ?k3 ?kd3_0 ?kd3_1 ?a4 ?l4 ?c4 ?k4 ?a5 ?b5 ?d5 ?e5 ?l5 ?c5 ?k5 ?kd5_0 ?kd5_1 ?kd5_2 ?kd5_3 ?kd5_4 ?a6 ?l6 ?c6 ?k6 ?a7 ?l7 ?c7 ?k7 ?a8 ?l8 ?c8 ?k8 ?a9 ?l9 ?c9 ?k9 ?a10 ?l10 ?c10 ?k10 ?a11 ?b11 ?l11 ?c11 ?k11 ?a12 ?b12 ?l12 ?c12 ?k12 ?a13 ?l13 ?c13 ?k13 ?a14 ?l14 ?c14 ?k14 ?a15 ?l15 ?c15 ?k15 ?a16 ?b16 ?d16 ?e16 ?l16 ?c16 ?k16 ?kd16_0 ?kd16_1 ?kd16_2 ?kd16_3 ?kd16_4 ?kd16_5 ?kd16_6 ?kd16_7 ?a17 ?l17 ?c17 ?k17 ?a18 ?l18 ?c18 ?k18 ?a19 ?b19 ?d19 ?e19 ?l19 ?c19 ?k19 ?kd19_0 ?a20 ?l20 ?c20 ?k20 ?a21 ?l21 ?c21 ?k21 ?z0 ?z1 ?z2 ?z3 ?z4 ?z5 ?z6 ?z7 ?z8 ?y8 ?z9 ?z10 ?z11 ?z12 ?z13 ?y13 ?u13_0 ?u13_1 ?u13_2 ?y13_2 ?y13_1 ?y13_0 ?z14 ?z15 ?ytPictureHeader___init___store ?ytPictureHeader___init___refs ?yFormat0 ?yFormat1 ?yFormat2 ?yFormat3 ?xFormat0 ?xFormat1 ?xFormat2 ?xFormat3 ?ySettings0 ?ySettings1 ?ySettings2 ?ySettings3 ?xSettings0 ?xSettings1 ?xSettings2 ?xSettings3 ?xSettings4 ?xSettings5 ?yPictureHeader0 ?yPictureHeader1 ?yPictureHeader2 ?yPictureHeader3 ?xPictureHeader0 ?xPictureHeader1 ?xPictureHeader2 ?xPictureHeader3 ?xPictureHeader4 ?xPictureHeader5 ?xPictureHeader6 ?xPictureHeader7 ?xPictureHeader8 ?ySliceHeader0 ?ySliceHeader1 ?ySliceHeader2 ?ySliceHeader3 ?xSliceHeader0 ?xSliceHeader1 ?xSliceHeader2 ?exBadFormat ?ekBadFormat ?ebBadFormat ?etBadFormat ?exBadHeader ?ekBadHeader ?ebBadHeader ?etBadHeader ?exCodecError ?ekCodecError ?ebCodecError ?etCodecError ?eiBadHeaderBadHeader ?esBadHeaderBadHeader ?eiBadHeaderCodecError ?esBadHeaderCodecError ?enBadHeaderBadFormat ?ejBadHeaderBadFormat ?etBadHeaderBadFormat ?c1BadHeader ?c2BadHeader ?c3BadHeader ?c4BadHeader ?c5BadHeader ?c6BadHeader ?c7BadHeader
    (case wFormat => k_is)
    (case wSettings => k_is)
    (case wPictureHeader => k_is)
    (case wSliceHeader => k_is)
    (case vCodecError => k_is)
    (case vBadFormat => k_is)
    (case vBadHeader => k_is)
    (case a0 => k_is)
    (case l0 => k_is)
    (case c0 => k_is)
    (case k0 => k_is)
    (case a1 => k_is)
    (case l1 => k_is)
    (case c1 => k_is)
    (case k1 => k_is)
    (case a2 => k_is)
    (case l2 => k_is)
    (case c2 => k_is)
    (case k2 => k_is)
    (case a3 => k_is)
    (case b3 => k_is)
    (case d3 => k_is)
    (case e3 => k_is)
    (case l3 => k_is)
    (case c3 => k_is)
    (case k3 => k_is)
    (case kd3_0 => k_is)
    (case kd3_1 => k_is)
    (case a4 => k_is)
    (case l4 => k_is)
    (case c4 => k_is)
    (case k4 => k_is)
    (case a5 => k_is)
    (case b5 => k_is)
    (case d5 => k_is)
    (case e5 => k_is)
    (case l5 => k_is)
    (case c5 => k_is)
    (case k5 => k_is)
    (case kd5_0 => k_is)
    (case kd5_1 => k_is)
    (case kd5_2 => k_is)
    (case kd5_3 => k_is)
    (case kd5_4 => k_is)
    (case a6 => k_is)
    (case l6 => k_is)
    (case c6 => k_is)
    (case k6 => k_is)
    (case a7 => k_is)
    (case l7 => k_is)
    (case c7 => k_is)
    (case k7 => k_is)
    (case a8 => k_is)
    (case l8 => k_is)
    (case c8 => k_is)
    (case k8 => k_is)
    (case a9 => k_is)
    (case l9 => k_is)
    (case c9 => k_is)
    (case k9 => k_is)
    (case a10 => k_is)
    (case l10 => k_is)
    (case c10 => k_is)
    (case k10 => k_is)
    (case a11 => k_is)
    (case b11 => k_is)
    (case l11 => k_is)
    (case c11 => k_is)
    (case k11 => k_is)
    (case a12 => k_is)
    (case b12 => k_is)
    (case l12 => k_is)
    (case c12 => k_is)
    (case k12 => k_is)
    (case a13 => k_is)
    (case l13 => k_is)
    (case c13 => k_is)
    (case k13 => k_is)
    (case a14 => k_is)
    (case l14 => k_is)
    (case c14 => k_is)
    (case k14 => k_is)
    (case a15 => k_is)
    (case l15 => k_is)
    (case c15 => k_is)
    (case k15 => k_is)
    (case a16 => k_is)
    (case b16 => k_is)
    (case d16 => k_is)
    (case e16 => k_is)
    (case l16 => k_is)
    (case c16 => k_is)
    (case k16 => k_is)
    (case kd16_0 => k_is)
    (case kd16_1 => k_is)
    (case kd16_2 => k_is)
    (case kd16_3 => k_is)
    (case kd16_4 => k_is)
    (case kd16_5 => k_is)
    (case kd16_6 => k_is)
    (case kd16_7 => k_is)
    (case a17 => k_is)
    (case l17 => k_is)
    (case c17 => k_is)
    (case k17 => k_is)
    (case a18 => k_is)
    (case l18 => k_is)
    (case c18 => k_is)
    (case k18 => k_is)
    (case a19 => k_is)
    (case b19 => k_is)
    (case d19 => k_is)
    (case e19 => k_is)
    (case l19 => k_is)
    (case c19 => k_is)
    (case k19 => k_is)
    (case kd19_0 => k_is)
    (case a20 => k_is)
    (case l20 => k_is)
    (case c20 => k_is)
    (case k20 => k_is)
    (case a21 => k_is)
    (case l21 => k_is)
    (case c21 => k_is)
    (case k21 => k_is)
    (case z0 => k_is)
    (case z1 => k_is)
    (case z2 => k_is)
    (case z3 => k_is)
    (case z4 => k_is)
    (case z5 => k_is)
    (case z6 => k_is)
    (case z7 => k_is)
    (case z8 => k_is)
    (case y8 => k_is)
    (case z9 => k_is)
    (case z10 => k_is)
    (case z11 => k_is)
    (case z12 => k_is)
    (case z13 => k_is)
    (case y13 => k_is)
    (case u13_0 => rfl)
    (case u13_1 => rfl)
    (case u13_2 => rfl)
    (case y13_2 => k_is)
    (case y13_1 => k_is)
    (case y13_0 => k_is)
    (case z14 => k_is)
    (case z15 => k_is)
    (case ytPictureHeader___init___store => k_is)
    (case ytPictureHeader___init___refs => k_is)
    (case yFormat0 => k_is)
    (case yFormat1 => k_is)
    (case yFormat2 => k_is)
    (case yFormat3 => k_is)
    (case xFormat0 => k_is)
    (case xFormat1 => k_is)
    (case xFormat2 => k_is)
    (case xFormat3 => k_is)
    (case ySettings0 => k_is)
    (case ySettings1 => k_is)
    (case ySettings2 => k_is)
    (case ySettings3 => k_is)
    (case xSettings0 => k_is)
    (case xSettings1 => k_is)
    (case xSettings2 => k_is)
    (case xSettings3 => k_is)
    (case xSettings4 => k_is)
    (case xSettings5 => k_is)
    (case yPictureHeader0 => k_is)
    (case yPictureHeader1 => k_is)
    (case yPictureHeader2 => k_is)
    (case yPictureHeader3 => k_is)
    (case xPictureHeader0 => k_is)
    (case xPictureHeader1 => k_is)
    (case xPictureHeader2 => k_is)
    (case xPictureHeader3 => k_is)
    (case xPictureHeader4 => k_is)
    (case xPictureHeader5 => k_is)
    (case xPictureHeader6 => k_is)
    (case xPictureHeader7 => k_is)
    (case xPictureHeader8 => k_is)
    (case ySliceHeader0 => k_is)
    (case ySliceHeader1 => k_is)
    (case ySliceHeader2 => k_is)
    (case ySliceHeader3 => k_is)
    (case xSliceHeader0 => k_is)
    (case xSliceHeader1 => k_is)
    (case xSliceHeader2 => k_is)
    (case exBadFormat => k_exc)
    (case ekBadFormat => k_is)
    (case ebBadFormat => k_is)
    (case etBadFormat => k_is)
    (case exBadHeader => k_exc)
    (case ekBadHeader => k_is)
    (case ebBadHeader => k_is)
    (case etBadHeader => k_is)
    (case exCodecError => k_exc)
    (case ekCodecError => k_is)
    (case ebCodecError => k_is)
    (case etCodecError => k_is)
    (case eiBadHeaderBadHeader => k_is)
    (case esBadHeaderBadHeader => first | rfl | k_is)
    (case eiBadHeaderCodecError => k_is)
    (case esBadHeaderCodecError => first | rfl | k_is)
    (case enBadHeaderBadFormat => rfl)
    (case ejBadHeaderBadFormat => k_is)
    (case etBadHeaderBadFormat => k_is)
    (case c1BadHeader => k_is)
    (case c2BadHeader => k_is)
    (case c3BadHeader => k_is)
    (case c4BadHeader => k_is)
    (case c5BadHeader => k_is)
    (case c6BadHeader => k_is)
    (case c7BadHeader => k_is)
