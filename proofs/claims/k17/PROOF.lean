import PyProof.Rows.All
import Wide.All
import OpenK.AllK
import Wide.FinOn
import HandS.ForMost
import HandS.Codes
import HandS.Steps
import HandS.IsInst
import HandS.Property
import HandS.Wide
import HandS.WideBits
import HandS.Exc
import HandS.Defaults
import HandS.ExcOwn
import HandS.TryOnly
import HandS.WordsExc
import HandS.ExcIs
import HandS.MakeKwOnly
import HandS.RaiseMore
import HandS.Style
import HandS.Zip
import HandS.Iter
import PySem.Challenge.RW_thaumatrope_k17_symbols_as_decisions
set_option Elab.async false
set_option linter.all false
set_option maxRecDepth 100000
set_option maxHeartbeats 8000000
namespace Vx
open PySem PySem.Spec PyProof.Rows L2

/-! ### heaps -/
def SameX (m : Addr) (H H' : Hp) : Prop := ∀ b o, H b = some o → b ≠ m → H' b = some o
theorem gen_new {H H' : Hp} {p : Addr} {o : HO} (n : H p = none) (h : upd H p o = H') : Same H H' ∧ H' p = some o := by
  subst h
  exact ⟨fun b u e => by rw [upd_ne (ne_of_none e n)]; exact e, upd_same⟩
theorem gen_mut {H H' : Hp} {m : Addr} {o : HO} (h : upd H m o = H') : SameX m H H' ∧ H' m = some o := by
  subst h
  exact ⟨fun b u e n => by rw [upd_ne n]; exact e, upd_same⟩
theorem same_mut {H0 H H' : Hp} {m : Addr} (B : Same H0 H) (x : SameX m H H') (f : H0 m = none) : Same H0 H' :=
  fun b o e => x b o (B b o e) (ne_of_none e f)
theorem map_get {xs : List Int} {i : Nat} {x : V} (h : (xs.map V.int)[i]? = some x) : ∃ o, xs[i]? = some o ∧ x = .int o := by
  rw [List.getElem?_map] at h
  cases e : xs[i]? with
  | none => rw [e] at h; cases h
  | some z => rw [e] at h; exact ⟨z, rfl, (Option.some.inj h).symm⟩
theorem get_len {α : Type} {xs : List α} {i : Nat} {x : α} (h : xs[i]? = some x) : i < xs.length := (List.getElem?_eq_some_iff.mp h).1
theorem eq_int {Q : VK} {H : Hp} {a b : Int} (h : Q (.int a) H) (e : a = b) : Q (.int b) H := e ▸ h
theorem eq_bl {Q : VK} {H : Hp} {a b : Bool} (h : Q (.bl a) H) (e : a = b) : Q (.bl b) H := e ▸ h
theorem small {n : Nat} (h : n ≤ 1000000) : n < sizeLine := Nat.lt_of_le_of_lt h (by decide)
theorem smallE {n : Nat} (h : n ≤ 1000000) : n ≤ sizeLine := Nat.le_of_lt (small h)
theorem snoc_int {xs : List Int} {y : Int} {H : Hp} {p : Addr} (h : H p = some (.lst (xs.map V.int ++ [V.int y]))) : H p = some (.lst ((xs ++ [y]).map V.int)) := by
  rw [List.map_append]; exact h
theorem cat_int {xs ys : List Int} {H : Hp} {p : Addr} (h : H p = some (.lst (xs.map V.int ++ ys.map V.int))) : H p = some (.lst ((xs ++ ys).map V.int)) := by
  rw [List.map_append]; exact h
theorem cast_lst {xs ys : List Int} {H : Hp} {p : Addr} (h : H p = some (.lst (xs.map V.int))) (e : xs = ys) : H p = some (.lst (ys.map V.int)) := e ▸ h

/-! ### tests -/
theorem dT {p : Prop} [Decidable p] (h : decide p = true) : p := of_decide_eq_true h
theorem dF {p : Prop} [Decidable p] (h : ¬ decide p = true) : ¬ p := fun x => h (decide_eq_true x)
theorem iteD {p A B : Prop} [Decidable p] (h1 : p → A) (h2 : ¬ p → B) : if decide p = true then A else B := by
  by_cases h : p
  · rw [if_pos (decide_eq_true h)]; exact h1 h
  · rw [if_neg (fun x => h (of_decide_eq_true x))]; exact h2 h
theorem iteN {p A B : Prop} [Decidable p] (h1 : ¬ p → A) (h2 : p → B) : if (!decide p) = true then A else B := by
  by_cases h : p
  · rw [decide_eq_true h]; exact iteF (h2 h)
  · rw [decide_eq_false h]; exact iteT (h1 h)
theorem iteB {b : Bool} {A B : Prop} (h1 : b = true → A) (h2 : b = false → B) : if b = true then A else B := by
  cases b with
  | true => exact iteT (h1 rfl)
  | false => exact iteF (h2 rfl)
theorem iteBN {b : Bool} {A B : Prop} (h1 : b = false → A) (h2 : b = true → B) : if (!b) = true then A else B := by
  cases b with
  | true => exact iteF (h2 rfl)
  | false => exact iteT (h1 rfl)
theorem iteDT {p A B : Prop} [Decidable p] (h : p) (k : A) : if decide p = true then A else B := by
  rw [if_pos (decide_eq_true h)]; exact k
theorem iteDF {p A B : Prop} [Decidable p] (h : ¬ p) (k : B) : if decide p = true then A else B := by
  rw [if_neg (fun x => h (of_decide_eq_true x))]; exact k
theorem iteNT {p A B : Prop} [Decidable p] (h : ¬ p) (k : A) : if (!decide p) = true then A else B := iteN (fun _ => k) (fun x => (h x).elim)
theorem iteNF {p A B : Prop} [Decidable p] (h : p) (k : B) : if (!decide p) = true then A else B := iteN (fun x => (x h).elim) (fun _ => k)

/-! ### equality of lists of ints -/
theorem eqvAll_ints : ∀ xs ys : List Int, PyData.eqvAll (xs.map PyData.int) (ys.map PyData.int) = decide (xs = ys)
  | [], [] => by simp [PyData.eqvAll]
  | [], y :: ys => by simp [PyData.eqvAll]
  | x :: xs, [] => by simp [PyData.eqvAll]
  | x :: xs, y :: ys => by
    have ih := eqvAll_ints xs ys
    simp only [List.map_cons, PyData.eqvAll, PyData.eqv, ih]
    by_cases h : x = y <;> by_cases h2 : xs = ys <;> simp [h, h2]
end Vx

namespace Vx
open PySem PySem.Spec PyProof.Rows L2
section
variable {X : Cx}
def rEqLi (K : PySem.W.Frag) : R2 := fun x y H Q => ∃ (a b : Addr) (xs ys : List Int), x = .ref a ∧ y = .ref b ∧ SqL K H a (xs.map V.int) ∧ SqL K H b (ys.map V.int) ∧ Q (.bl (decide (xs = ys))) H
def rNeLi (K : PySem.W.Frag) : R2 := fun x y H Q => ∃ (a b : Addr) (xs ys : List Int), x = .ref a ∧ y = .ref b ∧ SqL K H a (xs.map V.int) ∧ SqL K H b (ys.map V.int) ∧ Q (.bl (!decide (xs = ys))) H
theorem dpAll_ints {K : PySem.W.Frag} {H : Hp} : ∀ xs : List Int, DpAll K H (xs.map V.int) (xs.map PyData.int)
  | [] => .nil
  | x :: xs => .cons (.int x) (dpAll_ints xs)
theorem dp_ints {K : PySem.W.Frag} {H : Hp} {a : Addr} {xs : List Int} (h : SqL K H a (xs.map V.int)) : Dp K H (.ref a) (.list (xs.map PyData.int)) := .lst h (dpAll_ints xs)
theorem canLay_ints : ∀ xs : List Int, PyData.canLayAll0 (xs.map PyData.int) = true
  | [] => by simp [PyData.canLayAll0]
  | x :: xs => by simp [PyData.canLayAll0, PyData.canLay0, canLay_ints xs]
theorem depth_ints : ∀ xs : List Int, PyData.depthAll (xs.map PyData.int) = 0
  | [] => by simp [PyData.depthAll]
  | x :: xs => by simp [PyData.depthAll, PyData.depth, depth_ints xs]
theorem shaped_ints (xs : List Int) : SeqAt.shaped (.list (xs.map PyData.int)) = true := by
  unfold SeqAt.shaped
  simp [PyData.canLay0, canLay_ints, PyData.depth, depth_ints]
theorem eqv_ints (xs ys : List Int) : PyData.eqv (.list (xs.map PyData.int)) (.list (ys.map PyData.int)) = decide (xs = ys) := by
  simp only [PyData.eqv]
  exact eqvAll_ints xs ys
theorem op_eqLi (hu : X.A.units + 64 < cLine) : OpR X (compareOp .Eq) (rEqLi X.K) := by
  intro pins s σ H x y v u Q I rx ry h
  obtain ⟨a, b, xs, ys, rfl, rfl, h1, h2, q⟩ := h
  exact op_eqD hu pins s σ H _ _ v u Q I rx ry ⟨_, _, dp_ints h1, dp_ints h2, shaped_ints xs, shaped_ints ys, by rw [eqv_ints]; exact q⟩
theorem op_neLi (hu : X.A.units + 64 < cLine) : OpR X (compareOp .NotEq) (rNeLi X.K) := by
  intro pins s σ H x y v u Q I rx ry h
  obtain ⟨a, b, xs, ys, rfl, rfl, h1, h2, q⟩ := h
  exact op_neD hu pins s σ H _ _ v u Q I rx ry ⟨_, _, dp_ints h1, dp_ints h2, shaped_ints xs, shaped_ints ys, by rw [eqv_ints]; exact q⟩

/-! ### items, slices, repetition, comprehensions of ints -/
def itI (xs : List Int) (i : Int) : Int := (atI xs i).getD 0
theorem atI_int {xs : List Int} {i : Int} (h : -(xs.length : Int) ≤ i ∧ i < xs.length) : atI (xs.map V.int) i = some (.int (itI xs i)) := by
  unfold itI atI
  rw [List.length_map]
  have hk : ∃ j, ixN xs.length i = some j ∧ j < xs.length := by
    unfold ixN
    by_cases h0 : 0 ≤ i
    · refine ⟨i.toNat, ?_, by omega⟩
      rw [if_pos h0, if_pos h.2]
    · refine ⟨(i + xs.length).toNat, ?_, by omega⟩
      rw [if_neg h0, if_pos h.1]
  obtain ⟨j, e, hj⟩ := hk
  rw [e]
  show (xs.map V.int)[j]? = some (V.int ((xs[j]?).getD 0))
  rw [List.getElem?_map, List.getElem?_eq_getElem hj] <;> rfl
def cutI (xs : List Int) (lo hi : Option Int) : List Int := (xs.drop (HT.sIx xs.length 0 lo)).take (HT.sIx xs.length xs.length hi - HT.sIx xs.length 0 lo)
theorem cut_int {xs : List Int} {lo hi : Option Int} {H : Hp} {p : Addr} (h : H p = some (.lst (cutV (xs.map V.int) lo hi))) : H p = some (.lst ((cutI xs lo hi).map V.int)) := by
  rw [h]
  unfold cutV cutI
  rw [List.length_map, List.map_take, List.map_drop]
def rep (xs : List Int) (k : Int) : List Int := (List.replicate k.toNat xs).flatten
theorem rep_int {xs : List Int} {k : Int} {H : Hp} {p : Addr} (h : H p = some (.lst (List.replicate k.toNat (xs.map V.int)).flatten)) : H p = some (.lst ((rep xs k).map V.int)) := by
  rw [h]
  unfold rep
  rw [List.map_flatten, List.map_replicate]
theorem divW_lit {i j : Int} (h : 0 < j) (h2 : j.natAbs.log2 < 9000) : CDivW i j := ⟨h, h2⟩
theorem divW_small {i j : Int} (h : 0 < j) (h2 : j < 2 ^ 128) : CDivW i j := wide_div h (show j.natAbs < 2 ^ 128 by omega) (by decide) (by decide)
theorem comp_list {xs : List Int} {i : Nat} {x y : Int} {f : Int → Int} {H : Hp} {D : Addr} (hi : xs[i]? = some x) (h : H D = some (.lst (((xs.take i).map f).map V.int ++ [V.int y]))) (e : f x = y) : H D = some (.lst (((xs.take (i + 1)).map f).map V.int)) := by
  rw [h, ← e, List.take_succ, hi, List.map_append, List.map_append] <;> rfl
theorem comp_done {xs : List Int} {f : Int → Int} {H : Hp} {D : Addr} (h : H D = some (.lst (((xs.take (xs.map V.int).length).map f).map V.int))) : H D = some (.lst ((xs.map f).map V.int)) := by
  rw [List.length_map, List.take_length] at h
  exact h
theorem comp_range {i : Nat} {y : Int} {f : Nat → Int} {H : Hp} {D : Addr} (h : H D = some (.lst (((List.range i).map f).map V.int ++ [V.int y]))) (e : f i = y) : H D = some (.lst (((List.range (i + 1)).map f).map V.int)) := by
  rw [h, ← e, List.range_succ, List.map_append, List.map_append] <;> rfl
theorem iteBT {b : Bool} {A B : Prop} (h : b = true) (k : A) : if b = true then A else B := by rw [if_pos h]; exact k
theorem iteBF {b : Bool} {A B : Prop} (h : b = false) (k : B) : if b = true then A else B := by rw [if_neg (by rw [h]; decide)]; exact k
theorem take_succ_get {α : Type} {xs : List α} {i : Nat} {x : α} (hi : xs[i]? = some x) : xs.take (i + 1) = xs.take i ++ [x] := by rw [List.take_succ, hi] <;> rfl
end

/-! ### defs of the module, as callers see them -/
section
variable {P : Program} {w : World} {K : PySem.W.Frag} {mg : Str → Option Value} {base : Heap}
structure DefIn (K : PySem.W.Frag) (mg : Str → Option Value) (x : Str) (st : Stmt) (ps : List Str) : Prop where
  ex : ∃ (f : Addr) (fd : FuncData), Fun K x x st f fd ∧ mg x = some (.ref f) ∧ Binds K fd ps []
structure Cal (P : Program) (w : World) (K : PySem.W.Frag) (mg : Str → Option Value) (base : Heap) (k : Nat) (x : Str) (sp : Sp) : Prop where
  ex : ∃ (f : Addr) (fd : FuncData) (ps : List Str), FnOk P w K mg base CX0 k f fd ps sp ∧ mg x = some (.ref f) ∧ PySem.W.keepIn K (.ref f) = true ∧ Binds K fd ps []
theorem DefIn.ok {x : Str} {st : Stmt} {N ps : List Str} {k : Nat} {sp : Sp} (D : DefIn K mg x st ps) (S : FnScope N ps (defScope st)) (len : ∀ vs H Q E, sp vs H Q E → vs.length = ps.length)
    (hbody : ∀ (f : Addr) (cdv : Value) (A : Around) (outer : List Env) (s : Shared) (H : Hp) (vs : List V) (Q : VK) (E : XK), Room k (A.deeper (envOfC x (defScope st) s.heap.objs.size f cdv)) → sp vs H Q E →
      ∃ t, PSs (cxOf CX0 P w K mg base N x (defScope st) f cdv A outer s H E).nox (defBody st) t ∧ t { nx := fun _ H' => Q .non H', rt := Q } (start N vs) H) : Cal P w K mg base (k + 1) x sp := by
  obtain ⟨f, fd, F, hm, b⟩ := D.ex
  exact ⟨f, fd, ps, F.ok S len (fun cdv A outer s H vs Q E hr h => hbody f cdv A outer s H vs Q E hr h), hm, F.kp, b⟩
end
section
variable {X : Cx} {k j : Nat} {x : Str} {sp : Sp} {p pos : Pos} {e : Expr} {es : List Expr} {t : TA}
theorem vx_call (c : Cal X.prog X.w X.K X.mg X.base k x sp) (hr : Room j X.A) (hk : k ≤ j) (hg : Gl X x) (ha : PA X (e :: es) t)
    (hdb : (x == ("__debug__" : Str)) = false := by decide) (he : starEach (e :: es) X.env = (false, eval e X.env) :: starEach es X.env := by rfl) (hpl : (backTo pos (starEach es X.env)).any (·.1) = false := by rfl) :
    PE X (.Call (.Name x p) (e :: es) [] pos) (tCall sp [] E0 t) := by
  obtain ⟨f, fd, ps, F, hm, kp, b⟩ := c.ex
  exact pe_call F (hr.mono hk) hg hm kp b .nil pass0 ha hdb he hpl
end
end Vx

namespace Vx
open PySem PySem.Spec PyProof.Rows L2
section
variable {σ : L2.St} {H : Hp} {ta tb : TE} {x y z : V} {t : TT}
theorem vv_and {a b : Bool} (h1 : Val ta σ H (.bl a)) (h2 : Val tb σ H (.bl b)) : Val (tAndV ta tb) σ H (.bl (a && b)) := fun Q q => h1 _ ⟨a, rfl, by
  cases a with
  | true => exact iteT (h2 Q q)
  | false => exact iteF q⟩
theorem vv_or {a b : Bool} (h1 : Val ta σ H (.bl a)) (h2 : Val tb σ H (.bl b)) : Val (tOrV ta tb) σ H (.bl (a || b)) := fun Q q => h1 _ ⟨a, rfl, by
  cases a with
  | true => exact iteT q
  | false => exact iteF (h2 Q q)⟩
theorem vv_not {a : Bool} (h1 : Val ta σ H (.bl a)) : Val (tNotV ta) σ H (.bl (!a)) := fun Q q => h1 _ ⟨a, rfl, q⟩
theorem vv_un {r : V → Hp → VK → Prop} (ha : Val ta σ H x) (hr : ∀ Q : VK, Q z H → r x H Q) : Val (tUn r ta) σ H z := fun Q q => ha _ (hr Q q)
theorem vv_cmp {p : Int → Int → Bool} (ha : Val ta σ H x) (hb : Val tb σ H y) (hr : ∀ Q : VK, Q z H → ∃ i j, x = .int i ∧ y = .int j ∧ Q (.bl (p i j)) H) : Val (tCmp p ta tb) σ H z := fun Q q => ha _ (hb _ (hr Q q))
theorem vv_call1 {r : List V → Hp → VK → Prop} (ha : Val ta σ H x) (hr : ∀ Q : VK, Q z H → r [x] H Q) : Val (tCB r (tCons ta tNil)) σ H z := fun Q q => ha _ (hr Q q)
theorem vt_cmp {b : Bool} (h : Val ta σ H (.bl b)) : Ans (tB ta) σ H b := fun Q q => h _ ⟨b, rfl, q⟩
theorem vt_val {b : Bool} (h : Val ta σ H (.bl b)) : Ans (tB ta) σ H b := fun Q q => h _ ⟨b, rfl, q⟩
theorem vt_int {i : Int} {K : PySem.W.Frag} (h : Val ta σ H (.int i)) : Ans (fun σ H Q => ta σ H fun x H' => ∃ k, TruV K x H' k ∧ Q k H') σ H (i != 0) := fun Q q => h _ ⟨_, rfl, q⟩
theorem vv_if {p : Prop} [Decidable p] {a b : Int} (ht : Ans t σ H (decide p)) (hx : Val ta σ H (.int a)) (hy : Val tb σ H (.int b)) : Val (tIf t ta tb) σ H (.int (if p then a else b)) := fun Q q => ht _ (by
  by_cases h : p
  · rw [if_pos h] at q; exact iteDT h (hx Q q)
  · rw [if_neg h] at q; exact iteDF h (hy Q q))
theorem vv_ifb {c : Bool} {a b : Int} (ht : Ans t σ H c) (hx : Val ta σ H (.int a)) (hy : Val tb σ H (.int b)) : Val (tIf t ta tb) σ H (.int (if c = true then a else b)) := fun Q q => ht _ (by
  cases c with
  | true => exact iteT (hx Q q)
  | false => exact iteF (hy Q q))
end
end Vx

namespace Vx
open PySem PySem.Spec PyProof.Rows L2
def rLenLi (K : PySem.W.Frag) : List V → Hp → VK → Prop := fun xs H Q => ∃ (p : Addr) (ns : List Int), xs = [.ref p] ∧ SqL K H p (ns.map V.int) ∧ Q (.int (ns.length : Int)) H
theorem call_lenLi {X : Cx} : CallR X (.builtin "len") (rLenLi X.K) := by
  intro pins s σ H xs us Q I r h
  obtain ⟨p, ns, rfl, hs, q⟩ := h
  exact call_len_seq pins s σ H _ us Q I r ⟨p, _, rfl, Or.inl hs, by rw [List.length_map]; exact q⟩
end Vx

namespace Vx
open PySem PySem.Spec PyProof.Rows L2
section
variable {X : Cx} {K : PySem.W.Frag}
theorem ix_listK (hK : X.K = K := by rfl) : IxR X (rIxL K) := hK ▸ ix_list
theorem sl_listK (hK : X.K = K := by rfl) : SlR X (rSlL K) := hK ▸ sl_list
theorem call_lenLiK (hK : X.K = K := by rfl) : CallR X (.builtin "len") (rLenLi K) := hK ▸ call_lenLi
theorem op_eqLiK (hu : X.A.units + 64 < cLine) (hK : X.K = K := by rfl) : OpR X (compareOp .Eq) (rEqLi K) := hK ▸ op_eqLi hu
theorem op_neLiK (hu : X.A.units + 64 < cLine) (hK : X.K = K := by rfl) : OpR X (compareOp .NotEq) (rNeLi K) := hK ▸ op_neLi hu
theorem pi_listK {tg l : Expr} {tl : TE} (hl : PE X l tl) (hK : X.K = K := by rfl) : PI X tg l (iList K tl) := hK ▸ pi_list hl
theorem cr_sumK (hc : X.calm = true) (hK : X.K = K := by rfl) : CallR X (.builtin "sum") (rSum K) := hK ▸ cr_sum hc
theorem cr_maxK (hc : X.calm = true) (hK : X.K = K := by rfl) : CallR X (.builtin "max") (rMax K) := hK ▸ cr_max hc
theorem cr_minK (hc : X.calm = true) (hK : X.K = K := by rfl) : CallR X (.builtin "min") (rMin K) := hK ▸ cr_min hc
end
end Vx

namespace Vx
open PySem PySem.Spec PyProof.Rows L2
theorem tyes_go {σ : L2.St} {H : Hp} {f g : Hp → Prop} (h : f H) : tYes σ H (fun b H3 => if b = true then f H3 else g H3) := by
  show if true = true then f H else g H
  exact iteT h
end Vx

/-! # second part: data of any depth, the stable heap G, the owned addresses O -/
namespace Vx
open PySem PySem.Spec PyProof.Rows L2
mutual
inductive Rp (H : Hp) : V → PyData → Prop
  | non : Rp H .non .none
  | bl (b : Bool) : Rp H (.bl b) (.bool b)
  | int (i : Int) : Rp H (.int i) (.int i)
  | str (x : Str) : Rp H (.str x) (.str x)
  | lst {a : Addr} {xs : List V} {ds : List PyData} : H a = some (.lst xs) → RpAll H xs ds → Rp H (.ref a) (.list ds)
  | tup {a : Addr} {xs : List V} {ds : List PyData} : H a = some (.tup xs) → RpAll H xs ds → Rp H (.ref a) (.tuple ds)
inductive RpAll (H : Hp) : List V → List PyData → Prop
  | nil : RpAll H [] []
  | cons {v : V} {vs : List V} {d : PyData} {ds : List PyData} : Rp H v d → RpAll H vs ds → RpAll H (v :: vs) (d :: ds)
end
mutual
theorem Rp.mono {H H' : Hp} (e : Same H H') : ∀ {v : V} {d : PyData}, Rp H v d → Rp H' v d
  | _, _, .non => .non
  | _, _, .bl b => .bl b
  | _, _, .int i => .int i
  | _, _, .str x => .str x
  | _, _, .lst h r => .lst (e _ _ h) (RpAll.mono e r)
  | _, _, .tup h r => .tup (e _ _ h) (RpAll.mono e r)
theorem RpAll.mono {H H' : Hp} (e : Same H H') : ∀ {vs : List V} {ds : List PyData}, RpAll H vs ds → RpAll H' vs ds
  | _, _, .nil => .nil
  | _, _, .cons a b => .cons (Rp.mono e a) (RpAll.mono e b)
end
mutual
theorem Rp.dp {K : PySem.W.Frag} {H : Hp} : ∀ {v : V} {d : PyData}, Rp H v d → Dp K H v d
  | _, _, .non => .non
  | _, _, .bl b => .bl b
  | _, _, .int i => .int i
  | _, _, .str x => .str x
  | _, _, .lst h r => .lst (SqL.of h) (RpAll.dp r)
  | _, _, .tup h r => .tup (SqT.of h) (RpAll.dp r)
theorem RpAll.dp {K : PySem.W.Frag} {H : Hp} : ∀ {vs : List V} {ds : List PyData}, RpAll H vs ds → DpAll K H vs ds
  | _, _, .nil => .nil
  | _, _, .cons a b => .cons (Rp.dp a) (RpAll.dp b)
end
theorem RpAll.append {H : Hp} : ∀ {xs ys : List V} {ds es : List PyData}, RpAll H xs ds → RpAll H ys es → RpAll H (xs ++ ys) (ds ++ es)
  | _, _, _, _, .nil, s => s
  | _, _, _, _, .cons r t, s => .cons r (RpAll.append t s)
theorem RpAll.ints {H : Hp} : ∀ xs : List Int, RpAll H (xs.map V.int) (xs.map PyData.int)
  | [] => .nil
  | x :: xs => .cons (.int x) (RpAll.ints xs)
theorem RpAll.bls {H : Hp} : ∀ xs : List Bool, RpAll H (xs.map V.bl) (xs.map PyData.bool)
  | [] => .nil
  | x :: xs => .cons (.bl x) (RpAll.bls xs)
theorem RpAll.one {H : Hp} {v : V} {d : PyData} (h : Rp H v d) : RpAll H [v] [d] := .cons h .nil
theorem RpAll.len {H : Hp} : ∀ {vs : List V} {ds : List PyData}, RpAll H vs ds → vs.length = ds.length
  | _, _, .nil => rfl
  | _, _, .cons _ t => by rw [List.length_cons, List.length_cons, RpAll.len t]
theorem RpAll.at {H : Hp} : ∀ {vs : List V} {ds : List PyData} {i : Nat} {v : V}, RpAll H vs ds → vs[i]? = some v → ∃ d, ds[i]? = some d ∧ Rp H v d
  | _, _, _, _, .nil, h => by simp at h
  | _, _, 0, _, .cons r _, h => by
    simp at h
    subst h
    exact ⟨_, rfl, r⟩
  | _, _, i + 1, _, .cons _ t, h => by
    obtain ⟨d, h1, h2⟩ := RpAll.at (i := i) t (by simpa using h)
    exact ⟨d, by simpa using h1, h2⟩
theorem RpAll.at' {H : Hp} : ∀ {vs : List V} {ds : List PyData} {i : Nat} {d : PyData}, RpAll H vs ds → ds[i]? = some d → ∃ v, vs[i]? = some v ∧ Rp H v d
  | _, _, _, _, .nil, h => by simp at h
  | _, _, 0, _, .cons r _, h => by
    simp at h
    subst h
    exact ⟨_, rfl, r⟩
  | _, _, i + 1, _, .cons _ t, h => by
    obtain ⟨v, h1, h2⟩ := RpAll.at' (i := i) t (by simpa using h)
    exact ⟨v, by simpa using h1, h2⟩
theorem RpAll.take {H : Hp} : ∀ (n : Nat) {vs : List V} {ds : List PyData}, RpAll H vs ds → RpAll H (vs.take n) (ds.take n)
  | 0, _, _, _ => by simpa using RpAll.nil
  | n + 1, _, _, .nil => by simpa using RpAll.nil
  | n + 1, _, _, .cons r t => .cons r (RpAll.take n t)
theorem RpAll.drop {H : Hp} : ∀ (n : Nat) {vs : List V} {ds : List PyData}, RpAll H vs ds → RpAll H (vs.drop n) (ds.drop n)
  | 0, _, _, r => r
  | n + 1, _, _, .nil => by simpa using RpAll.nil
  | n + 1, _, _, .cons r t => RpAll.drop n t
theorem RpAll.set {H : Hp} {v : V} {d : PyData} (h : Rp H v d) : ∀ (n : Nat) {vs : List V} {ds : List PyData}, RpAll H vs ds → RpAll H (vs.set n v) (ds.set n d)
  | _, _, _, .nil => .nil
  | 0, _, _, .cons _ t => .cons h t
  | n + 1, _, _, .cons r t => .cons r (RpAll.set h n t)
theorem RpAll.rep {H : Hp} {vs : List V} {ds : List PyData} (h : RpAll H vs ds) : ∀ n : Nat, RpAll H (List.replicate n vs).flatten (List.replicate n ds).flatten
  | 0 => by simpa using RpAll.nil
  | n + 1 => by
    rw [List.replicate_succ, List.flatten_cons, List.replicate_succ, List.flatten_cons]
    exact RpAll.append h (RpAll.rep h n)
theorem RpAll.get {α : Type} {f : α → PyData} {H : Hp} {vs : List V} {xs : List α} {i : Nat} {v : V} (r : RpAll H vs (xs.map f)) (h : vs[i]? = some v) : ∃ x, xs[i]? = some x ∧ Rp H v (f x) := by
  obtain ⟨d, h1, h2⟩ := RpAll.at r h
  rw [List.getElem?_map] at h1
  cases e : xs[i]? with
  | none => rw [e] at h1; cases h1
  | some x =>
    rw [e] at h1
    have : f x = d := Option.some.inj h1
    exact ⟨x, rfl, this ▸ h2⟩
/-- the item at an index, data -/
theorem RpAll.ix {α : Type} {f : α → PyData} {H : Hp} {vs : List V} {xs : List α} {k : Int} (r : RpAll H vs (xs.map f)) (h : -(xs.length : Int) ≤ k ∧ k < xs.length) : ∃ v x, atI vs k = some v ∧ atI xs k = some x ∧ Rp H v (f x) := by
  have hl : vs.length = xs.length := by rw [r.len, List.length_map]
  have hk : ∃ j, ixN xs.length k = some j ∧ j < xs.length := by
    unfold ixN
    by_cases h0 : 0 ≤ k
    · refine ⟨k.toNat, ?_, by omega⟩
      rw [if_pos h0, if_pos h.2]
    · refine ⟨(k + xs.length).toNat, ?_, by omega⟩
      rw [if_neg h0, if_pos h.1]
  obtain ⟨j, e, hj⟩ := hk
  have hx := List.getElem?_eq_getElem hj
  obtain ⟨v, h1, h2⟩ := RpAll.at' (i := j) (d := f xs[j]) r (by rw [List.getElem?_map, hx] <;> rfl)
  refine ⟨v, xs[j], ?_, ?_, h2⟩
  · unfold atI
    rw [hl, e]
    exact h1
  · unfold atI
    rw [e]
    exact hx

/-! ### types -/
def encL {α : Type} (f : α → PyData) (xs : List α) : PyData := .list (xs.map f)
def encT2 {α β : Type} (f : α → PyData) (g : β → PyData) (p : α × β) : PyData := .tuple [f p.1, g p.2]
def encT3 {α β γ : Type} (f : α → PyData) (g : β → PyData) (h : γ → PyData) (p : α × β × γ) : PyData := .tuple [f p.1, g p.2.1, h p.2.2]
def encT4 {α β γ δ : Type} (f : α → PyData) (g : β → PyData) (h : γ → PyData) (i : δ → PyData) (p : α × β × γ × δ) : PyData := .tuple [f p.1, g p.2.1, h p.2.2.1, i p.2.2.2]
structure EncOk {α : Type} [DecidableEq α] (n : Nat) (f : α → PyData) : Prop where
  lay : ∀ x, PyData.canLay0 (f x) = true
  dep : ∀ x, PyData.depth (f x) ≤ n
  eqv : ∀ x y, PyData.eqv (f x) (f y) = decide (x = y)
theorem encOk_int : EncOk 0 PyData.int := ⟨fun _ => by simp [PyData.canLay0], fun _ => by simp [PyData.depth], fun x y => by simp [PyData.eqv]; by_cases h : x = y <;> simp [h]⟩
theorem encOk_bool : EncOk 0 PyData.bool := ⟨fun _ => by simp [PyData.canLay0], fun _ => by simp [PyData.depth], fun x y => by cases x <;> cases y <;> simp [PyData.eqv]⟩
section
variable {α β γ δ : Type} [DecidableEq α] [DecidableEq β] [DecidableEq γ] [DecidableEq δ] {n m l o : Nat} {f : α → PyData} {g : β → PyData} {h : γ → PyData} {i : δ → PyData}
theorem lay_map (ok : EncOk n f) : ∀ xs : List α, PyData.canLayAll0 (xs.map f) = true
  | [] => by simp [PyData.canLayAll0]
  | x :: xs => by simp [PyData.canLayAll0, ok.lay x, lay_map ok xs]
theorem dep_map (ok : EncOk n f) : ∀ xs : List α, PyData.depthAll (xs.map f) ≤ n
  | [] => by simp [PyData.depthAll]
  | x :: xs => by
    have h1 := ok.dep x
    have h2 := dep_map ok xs
    simp only [List.map_cons, PyData.depthAll]
    omega
theorem eqv_map (ok : EncOk n f) : ∀ xs ys : List α, PyData.eqvAll (xs.map f) (ys.map f) = decide (xs = ys)
  | [], [] => by simp [PyData.eqvAll]
  | [], y :: ys => by simp [PyData.eqvAll]
  | x :: xs, [] => by simp [PyData.eqvAll]
  | x :: xs, y :: ys => by
    have ih := eqv_map ok xs ys
    simp only [List.map_cons, PyData.eqvAll, ok.eqv, ih]
    by_cases h : x = y <;> by_cases h2 : xs = ys <;> simp [h, h2]
theorem encOk_L (ok : EncOk n f) : EncOk (n + 1) (encL f) := ⟨fun xs => by simp [encL, PyData.canLay0, lay_map ok], fun xs => by
  have := dep_map ok xs
  simp only [encL, PyData.depth]
  omega, fun xs ys => by simp only [encL, PyData.eqv]; exact eqv_map ok xs ys⟩
theorem encOk_T2 (ok : EncOk n f) (ok2 : EncOk m g) : EncOk (max n m + 1) (encT2 f g) := ⟨fun x => by simp [encT2, PyData.canLay0, PyData.canLayAll0, ok.lay, ok2.lay], fun x => by
  have h1 := ok.dep x.1
  have h2 := ok2.dep x.2
  simp only [encT2, PyData.depth, PyData.depthAll]
  omega, fun x y => by
  obtain ⟨a, b⟩ := x
  obtain ⟨c, d⟩ := y
  simp only [encT2, PyData.eqv, PyData.eqvAll, ok.eqv, ok2.eqv, Prod.mk.injEq]
  by_cases h1 : a = c <;> by_cases h2 : b = d <;> simp [h1, h2]⟩
theorem encOk_T3 (ok : EncOk n f) (ok2 : EncOk m g) (ok3 : EncOk l h) : EncOk (max n (max m l) + 1) (encT3 f g h) := ⟨fun x => by simp [encT3, PyData.canLay0, PyData.canLayAll0, ok.lay, ok2.lay, ok3.lay], fun x => by
  have h1 := ok.dep x.1
  have h2 := ok2.dep x.2.1
  have h3 := ok3.dep x.2.2
  simp only [encT3, PyData.depth, PyData.depthAll]
  omega, fun x y => by
  obtain ⟨a, b, e⟩ := x
  obtain ⟨c, d, e'⟩ := y
  simp only [encT3, PyData.eqv, PyData.eqvAll, ok.eqv, ok2.eqv, ok3.eqv, Prod.mk.injEq]
  by_cases h1 : a = c <;> by_cases h2 : b = d <;> by_cases h3 : e = e' <;> simp [h1, h2, h3]⟩
theorem encOk_T4 (ok : EncOk n f) (ok2 : EncOk m g) (ok3 : EncOk l h) (ok4 : EncOk o i) : EncOk (max n (max m (max l o)) + 1) (encT4 f g h i) := ⟨fun x => by simp [encT4, PyData.canLay0, PyData.canLayAll0, ok.lay, ok2.lay, ok3.lay, ok4.lay], fun x => by
  have h1 := ok.dep x.1
  have h2 := ok2.dep x.2.1
  have h3 := ok3.dep x.2.2.1
  have h4 := ok4.dep x.2.2.2
  simp only [encT4, PyData.depth, PyData.depthAll]
  omega, fun x y => by
  obtain ⟨a, b, e, u⟩ := x
  obtain ⟨c, d, e', u'⟩ := y
  simp only [encT4, PyData.eqv, PyData.eqvAll, ok.eqv, ok2.eqv, ok3.eqv, ok4.eqv, Prod.mk.injEq]
  by_cases h1 : a = c <;> by_cases h2 : b = d <;> by_cases h3 : e = e' <;> by_cases h4 : u = u' <;> simp [h1, h2, h3, h4]⟩
end
section
variable {X : Cx} {α : Type} [DecidableEq α] {n : Nat} {f : α → PyData}
def rEqT (f : α → PyData) : R2 := fun x y H Q => ∃ (a b : α), Rp H x (f a) ∧ Rp H y (f b) ∧ Q (.bl (decide (a = b))) H
def rNeT (f : α → PyData) : R2 := fun x y H Q => ∃ (a b : α), Rp H x (f a) ∧ Rp H y (f b) ∧ Q (.bl (!decide (a = b))) H
theorem shaped_of (ok : EncOk n f) (hn : n ≤ 64) (a : α) : SeqAt.shaped (f a) = true := by
  unfold SeqAt.shaped
  have h := ok.dep a
  rw [ok.lay]
  simp
  omega
theorem op_eqT (ok : EncOk n f) (hu : X.A.units + 64 < cLine) (hn : n ≤ 64 := by decide) : OpR X (compareOp .Eq) (rEqT f) := by
  intro pins s σ H x y v u Q I rx ry h
  obtain ⟨a, b, h1, h2, q⟩ := h
  exact op_eqD hu pins s σ H _ _ v u Q I rx ry ⟨_, _, h1.dp, h2.dp, shaped_of ok hn a, shaped_of ok hn b, by rw [ok.eqv]; exact q⟩
theorem op_neT (ok : EncOk n f) (hu : X.A.units + 64 < cLine) (hn : n ≤ 64 := by decide) : OpR X (compareOp .NotEq) (rNeT f) := by
  intro pins s σ H x y v u Q I rx ry h
  obtain ⟨a, b, h1, h2, q⟩ := h
  exact op_neD hu pins s σ H _ _ v u Q I rx ry ⟨_, _, h1.dp, h2.dp, shaped_of ok hn a, shaped_of ok hn b, by rw [ok.eqv]; exact q⟩
end
section
variable {H : Hp} {v : V} {α β γ δ : Type} {f : α → PyData} {g : β → PyData} {h : γ → PyData} {i : δ → PyData}
theorem rp_int {x : Int} (r : Rp H v (.int x)) : v = .int x := by cases r; rfl
theorem rp_bool {x : Bool} (r : Rp H v (.bool x)) : v = .bl x := by cases r; rfl
theorem rp_str {x : Str} (r : Rp H v (.str x)) : v = .str x := by cases r; rfl
theorem rp_list {xs : List α} (r : Rp H v (encL f xs)) : ∃ a vs, v = .ref a ∧ H a = some (.lst vs) ∧ RpAll H vs (xs.map f) := by
  unfold encL at r
  cases r with
  | lst h1 h2 => exact ⟨_, _, rfl, h1, h2⟩
theorem rpAll_ints : ∀ {vs : List V} {xs : List Int}, RpAll H vs (xs.map PyData.int) → vs = xs.map V.int
  | _, [], .nil => rfl
  | _, x :: xs, .cons r t => by rw [rp_int r, rpAll_ints t] <;> rfl
theorem rp_ints {xs : List Int} (r : Rp H v (encL PyData.int xs)) : ∃ a, v = .ref a ∧ H a = some (.lst (xs.map V.int)) := by
  obtain ⟨a, vs, e, h1, h2⟩ := rp_list r
  rw [rpAll_ints h2] at h1
  exact ⟨a, e, h1⟩
theorem rp_tup2 {x : α × β} (r : Rp H v (encT2 f g x)) : ∃ a v1 v2, v = .ref a ∧ H a = some (.tup [v1, v2]) ∧ Rp H v1 (f x.1) ∧ Rp H v2 (g x.2) := by
  unfold encT2 at r
  cases r with
  | tup h1 h2 =>
    cases h2 with
    | cons a b =>
      cases b with
      | cons b c =>
        cases c
        exact ⟨_, _, _, rfl, h1, a, b⟩
theorem rp_tup3 {x : α × β × γ} (r : Rp H v (encT3 f g h x)) : ∃ a v1 v2 v3, v = .ref a ∧ H a = some (.tup [v1, v2, v3]) ∧ Rp H v1 (f x.1) ∧ Rp H v2 (g x.2.1) ∧ Rp H v3 (h x.2.2) := by
  unfold encT3 at r
  cases r with
  | tup h1 h2 =>
    cases h2 with
    | cons a b =>
      cases b with
      | cons b c =>
        cases c with
        | cons c d =>
          cases d
          exact ⟨_, _, _, _, rfl, h1, a, b, c⟩
theorem rp_mk_list {a : Addr} {vs : List V} {xs : List α} (h1 : H a = some (.lst vs)) (h2 : RpAll H vs (xs.map f)) : Rp H (.ref a) (encL f xs) := .lst h1 h2
theorem rp_mk_ints {a : Addr} {xs : List Int} (h1 : H a = some (.lst (xs.map V.int))) : Rp H (.ref a) (encL PyData.int xs) := .lst h1 (RpAll.ints xs)
theorem rp_mk2 {a : Addr} {v1 v2 : V} {x : α} {y : β} (h1 : H a = some (.tup [v1, v2])) (r1 : Rp H v1 (f x)) (r2 : Rp H v2 (g y)) : Rp H (.ref a) (encT2 f g (x, y)) := .tup h1 (.cons r1 (.cons r2 .nil))
theorem rp_mk3 {a : Addr} {v1 v2 v3 : V} {x : α} {y : β} {z : γ} (h1 : H a = some (.tup [v1, v2, v3])) (r1 : Rp H v1 (f x)) (r2 : Rp H v2 (g y)) (r3 : Rp H v3 (h z)) : Rp H (.ref a) (encT3 f g h (x, y, z)) := .tup h1 (.cons r1 (.cons r2 (.cons r3 .nil)))
end

/-! ### the two heaps -/
def SameXs (L : List Addr) (H H' : Hp) : Prop := ∀ b o, H b = some o → b ∉ L → H' b = some o
theorem SameXs.of {H H' : Hp} {m : Addr} (x : SameX m H H') : SameXs [m] H H' := fun b o e n => x b o e (fun z => n (by rw [z]; exact List.mem_cons_self))
theorem ni1 {b m : Addr} (h : b ≠ m) : b ∉ [m] := by simpa using h
theorem ni2 {b m n : Addr} (h : b ≠ m) (h2 : b ≠ n) : b ∉ [m, n] := by simp [h, h2]
theorem ni3 {b m n o : Addr} (h : b ≠ m) (h2 : b ≠ n) (h3 : b ≠ o) : b ∉ [m, n, o] := by simp [h, h2, h3]
theorem ni4 {b m n o p : Addr} (h : b ≠ m) (h2 : b ≠ n) (h3 : b ≠ o) (h4 : b ≠ p) : b ∉ [m, n, o, p] := by simp [h, h2, h3, h4]
def hideL (L : List Addr) (H : Hp) : Hp := fun b => if b ∈ L then none else H b
theorem hideL_same (L : List Addr) (H : Hp) : Same (hideL L H) H := fun b o e => by
  unfold hideL at e
  split at e
  · cases e
  · exact e
theorem hideL_in {L : List Addr} {H : Hp} {b : Addr} (h : b ∈ L) : hideL L H b = none := if_pos h
theorem hideL_out {L : List Addr} {H : Hp} {b : Addr} (h : b ∉ L) : hideL L H b = H b := if_neg h
/-- M: owned from outside; H0, G0: at the entry; G: what stays as it is; O: what may change -/
structure Sep (M : List Addr) (H0 G0 G H : Hp) (O : List Addr) : Prop where
  base : SameXs M H0 H
  pm : ∀ a ∈ M, H a ≠ none
  sG : Same G H
  g0 : Same G0 G
  gn : ∀ b, H0 b ≠ none → G0 b = none → G b = none
  ow : ∀ a ∈ O, G a = none ∧ H a ≠ none ∧ (a ∈ M ∨ H0 a = none)
theorem all_nil {P : Addr → Prop} : ∀ x ∈ ([] : List Addr), P x := fun x h => by cases h
theorem all_cons {P : Addr → Prop} {a : Addr} {l : List Addr} (h : P a) (t : ∀ x ∈ l, P x) : ∀ x ∈ a :: l, P x := fun x hx => by
  cases hx with
  | head => exact h
  | tail _ hx => exact t x hx
theorem some_ne {H : Hp} {a : Addr} {o : HO} (h : H a = some o) : H a ≠ none := by
  rw [h]
  exact fun z => nomatch z
theorem same_ne {H H' : Hp} {a : Addr} (e : Same H H') (h : H a ≠ none) : H' a ≠ none := by
  cases q : H a with
  | none => exact absurd q h
  | some o => exact some_ne (e a o q)
section
variable {M : List Addr} {H0 G0 G H H' : Hp} {O : List Addr} {p m : Addr} {o : HO}
theorem Sep.start (M : List Addr) (H : Hp) (hM : ∀ a ∈ M, H a ≠ none) : Sep M H (hideL M H) (hideL M H) H M :=
  ⟨fun _ _ e _ => e, hM, hideL_same M H, Same.refl _, fun _ _ e => e, fun a ha => ⟨hideL_in ha, hM a ha, .inl ha⟩⟩
theorem Sep.startG {G H : Hp} (e : Same G H) : Sep [] H G G H [] := ⟨fun _ _ e _ => e, all_nil, e, Same.refl _, fun _ _ e => e, fun a ha => by cases ha⟩
theorem Sep.start0 (H : Hp) : Sep [] H H H H [] := Sep.startG (Same.refl H)
theorem Sep.b0 (S : Sep [] H0 G0 G H O) : Same H0 H := fun b o e => S.base b o e List.not_mem_nil
theorem Sep.free (S : Sep M H0 G0 G H O) {q : Addr} (n : H q = none) : H0 q = none := by
  cases e : H0 q with
  | none => rfl
  | some o =>
    by_cases h : q ∈ M
    · exact absurd n (S.pm q h)
    · rw [S.base q o e h] at n
      cases n
theorem Sep.same (S : Sep M H0 G0 G H O) (e : Same H H') : Sep M H0 G0 G H' O :=
  ⟨fun b o h n => e b o (S.base b o h n), fun a ha => same_ne e (S.pm a ha), S.sG.trans e, S.g0, S.gn, fun a ha => ⟨(S.ow a ha).1, same_ne e (S.ow a ha).2.1, (S.ow a ha).2.2⟩⟩
theorem Sep.gfree (S : Sep M H0 G0 G H O) {q : Addr} (n : H q = none) : G q = none := by
  cases e : G q with
  | none => rfl
  | some o => rw [S.sG q o e] at n; cases n
theorem Sep.new (S : Sep M H0 G0 G H O) (n : H p = none) (e : Same H H') (h : H' p = some o) (hm : H0 p = none) : Sep M H0 G0 G H' (p :: O) := by
  have S1 := S.same e
  refine ⟨S1.base, S1.pm, S1.sG, S1.g0, S1.gn, fun a ha => ?_⟩
  cases ha with
  | head => exact ⟨S.gfree n, some_ne h, .inr hm⟩
  | tail _ ha => exact S1.ow a ha
theorem Sep.grow (S : Sep M H0 G0 G H O) (n : H p = none) (e : Same H H') (h : H' p = some o) (hm : H0 p = none) : ∃ G', Same G G' ∧ G' p = some o ∧ Sep M H0 G0 G' H' O := by
  have S1 := S.same e
  have ng := S.gfree n
  refine ⟨upd G p o, fun b u q => by rw [upd_ne (ne_of_none q ng)]; exact q, upd_same, S1.base, S1.pm, fun b u q => ?_, fun b u q => ?_, fun b hb gb => ?_, fun a ha => ?_⟩
  · by_cases z : b = p
    · subst z
      rw [upd_same] at q
      exact q ▸ h
    · rw [upd_ne z] at q
      exact S1.sG b u q
  · have := S.g0 b u q
    rw [upd_ne (ne_of_none this ng)]
    exact this
  · by_cases z : b = p
    · subst z
      exact absurd hm hb
    · rw [upd_ne z]
      exact S.gn b hb gb
  · have hne : a ≠ p := fun z => (S.ow a ha).2.1 (by rw [z]; exact n)
    rw [upd_ne hne]
    exact S1.ow a ha
theorem Sep.mut (S : Sep M H0 G0 G H O) {L : List Addr} (x : SameXs L H H') (hL : ∀ a ∈ L, a ∈ O) (hs : ∀ a ∈ L, H' a ≠ none) : Sep M H0 G0 G H' O := by
  have keep : ∀ a, H a ≠ none → H' a ≠ none := fun a h => by
    by_cases hb : a ∈ L
    · exact hs a hb
    · cases q : H a with
      | none => exact absurd q h
      | some o => exact some_ne (x a o q hb)
  refine ⟨fun b o e n => ?_, fun a ha => keep a (S.pm a ha), fun b o e => ?_, S.g0, S.gn, fun a ha => ⟨(S.ow a ha).1, keep a (S.ow a ha).2.1, (S.ow a ha).2.2⟩⟩
  · refine x b o (S.base b o e n) fun hb => ?_
    rcases (S.ow b (hL b hb)).2.2 with z | z
    · exact n z
    · rw [e] at z; cases z
  · refine x b o (S.sG b o e) fun hb => ?_
    have := (S.ow b (hL b hb)).1
    rw [e] at this
    cases this
theorem Sep.mut1 (S : Sep M H0 G0 G H O) (x : SameX m H H') (hm : m ∈ O) (h : H' m = some o) : Sep M H0 G0 G H' O :=
  S.mut (SameXs.of x) (all_cons hm all_nil) (all_cons (some_ne h) all_nil)
theorem Sep.sub (S : Sep M H0 G0 G H O) {O' : List Addr} (h : ∀ a ∈ O', a ∈ O) : Sep M H0 G0 G H O' := ⟨S.base, S.pm, S.sG, S.g0, S.gn, fun a ha => S.ow a (h a ha)⟩
/-- what was owned and is to stay as it is from now on -/
theorem Sep.freeze (S : Sep M H0 G0 G H O) {O' : List Addr} (hp : p ∈ O) (h : H p = some o) (hm : H0 p = none) (hO : ∀ a ∈ O', a ∈ O ∧ a ≠ p) : ∃ G', Same G G' ∧ G' p = some o ∧ Sep M H0 G0 G' H O' := by
  have ng := (S.ow p hp).1
  refine ⟨upd G p o, fun b u q => by rw [upd_ne (ne_of_none q ng)]; exact q, upd_same, S.base, S.pm, fun b u q => ?_, fun b u q => ?_, fun b hb gb => ?_, fun a ha => ?_⟩
  · by_cases z : b = p
    · subst z
      rw [upd_same] at q
      exact q ▸ h
    · rw [upd_ne z] at q
      exact S.sG b u q
  · have := S.g0 b u q
    rw [upd_ne (ne_of_none this ng)]
    exact this
  · by_cases z : b = p
    · subst z
      exact absurd hm hb
    · rw [upd_ne z]
      exact S.gn b hb gb
  · rw [upd_ne (hO a ha).2]
    exact S.ow a (hO a ha).1
/-- a callee that hands on data in a stable heap of its own -/
theorem Sep.step (S : Sep M H0 G0 G H O) {G' : Hp} (e : Same H H') (eG : Same G G') (sG : Same G' H') (hn : ∀ b, H b ≠ none → G b = none → G' b = none) : Sep M H0 G0 G' H' O := by
  have S1 := S.same e
  refine ⟨S1.base, S1.pm, sG, S.g0.trans eG, fun b hb gb => ?_, fun a ha => ⟨hn a (S.ow a ha).2.1 (S.ow a ha).1, (S1.ow a ha).2⟩⟩
  refine hn b (fun z => ?_) (S.gn b hb gb)
  exact hb (S.free z)
theorem Sep.hid (S : Sep M H0 G0 G H O) {L : List Addr} (h : ∀ a ∈ L, a ∈ O) : Same G (hideL L H) := fun b o e => by
  rw [hideL_out fun z => by
    have := (S.ow b (h b z)).1
    rw [e] at this
    cases this]
  exact S.sG b o e
end
end Vx

namespace Vx
open PySem PySem.Spec PyProof.Rows L2
/-! ### lists of plain things (f : V.int, V.bl, V.str) -/
section
variable {α : Type} {f : α → V} {H : Hp} {p : Addr}
theorem cat_map {xs ys : List α} (h : H p = some (.lst (xs.map f ++ ys.map f))) : H p = some (.lst ((xs ++ ys).map f)) := by
  rw [List.map_append]; exact h
theorem snoc_map {xs : List α} {y : α} (h : H p = some (.lst (xs.map f ++ [f y]))) : H p = some (.lst ((xs ++ [y]).map f)) := by
  rw [List.map_append]; exact h
def repL (xs : List α) (k : Int) : List α := (List.replicate k.toNat xs).flatten
theorem rep_map {xs : List α} {k : Int} (h : H p = some (.lst (List.replicate k.toNat (xs.map f)).flatten)) : H p = some (.lst ((repL xs k).map f)) := by
  rw [h]
  unfold repL
  rw [List.map_flatten, List.map_replicate]
def cutL (xs : List α) (lo hi : Option Int) : List α := (xs.drop (HT.sIx xs.length 0 lo)).take (HT.sIx xs.length xs.length hi - HT.sIx xs.length 0 lo)
theorem cut_map {xs : List α} {lo hi : Option Int} (h : H p = some (.lst (cutV (xs.map f) lo hi))) : H p = some (.lst ((cutL xs lo hi).map f)) := by
  rw [h]
  unfold cutV cutL
  rw [List.length_map, List.map_take, List.map_drop]
theorem cast_map {xs ys : List α} (h : H p = some (.lst (xs.map f))) (e : xs = ys) : H p = some (.lst (ys.map f)) := e ▸ h
theorem drop_map {xs : List α} (h : H p = some (.lst (xs.map f).dropLast)) : H p = some (.lst (xs.dropLast.map f)) := by
  rw [h, List.map_dropLast]
theorem ixN_some {n : Nat} {k : Int} (h : -(n : Int) ≤ k ∧ k < n) : ∃ j, ixN n k = some j ∧ j < n := by
  unfold ixN
  by_cases h0 : 0 ≤ k
  · exact ⟨k.toNat, by rw [if_pos h0, if_pos h.2], by omega⟩
  · exact ⟨(k + n).toNat, by rw [if_neg h0, if_pos h.1], by omega⟩
def itD [Inhabited α] (xs : List α) (k : Int) : α := (atI xs k).getD default
theorem atI_map [Inhabited α] {xs : List α} {k : Int} (h : -(xs.length : Int) ≤ k ∧ k < xs.length) : atI (xs.map f) k = some (f (itD xs k)) := by
  obtain ⟨j, e, hj⟩ := ixN_some h
  unfold itD atI
  rw [List.length_map, e]
  show (xs.map f)[j]? = some (f ((xs[j]?).getD default))
  rw [List.getElem?_map, List.getElem?_eq_getElem hj] <;> rfl
def setL (xs : List α) (k : Int) (y : α) : List α := xs.set ((ixN xs.length k).getD 0) y
theorem ixN_map {xs : List α} {k : Int} (h : -(xs.length : Int) ≤ k ∧ k < xs.length) : ixN (xs.map f).length k = some ((ixN xs.length k).getD 0) := by
  obtain ⟨j, e, hj⟩ := ixN_some h
  rw [List.length_map, e] <;> rfl
theorem set_map {xs : List α} {k : Int} {y : α} (h : H p = some (.lst ((xs.map f).set ((ixN xs.length k).getD 0) (f y)))) : H p = some (.lst ((setL xs k y).map f)) := by
  rw [h]
  unfold setL
  rw [List.map_set]
def lastD [Inhabited α] (xs : List α) : α := xs.getLastD default
theorem pop_map [Inhabited α] {xs : List α} (h : xs ≠ []) : (xs.map f)[(xs.map f).length - 1]? = some (f (lastD xs)) := by
  rw [← List.getLast?_eq_getElem?, List.getLast?_map]
  unfold lastD
  cases e : xs.getLast? with
  | none => exact absurd (List.getLast?_eq_none_iff.mp e) h
  | some y =>
    rw [List.getLastD_eq_getLast?, e] <;> rfl
end
/-! ### lists of data -/
section
variable {α β : Type} {f : α → PyData} {g : β → PyData} {G : Hp} {vs ws : List V} {xs ys : List α}
theorem app_map (a : RpAll G vs (xs.map f)) (b : RpAll G ws (ys.map f)) : RpAll G (vs ++ ws) ((xs ++ ys).map f) := by
  rw [List.map_append]; exact a.append b
theorem one_map {v : V} {y : α} (a : RpAll G vs (xs.map f)) (b : Rp G v (f y)) : RpAll G (vs ++ [v]) ((xs ++ [y]).map f) := by
  rw [List.map_append]; exact a.append (.one b)
theorem rep_all (k : Int) (a : RpAll G vs (xs.map f)) : RpAll G (List.replicate k.toNat vs).flatten ((repL xs k).map f) := by
  unfold repL
  rw [List.map_flatten, List.map_replicate]
  exact a.rep _
theorem cut_all (lo hi : Option Int) (a : RpAll G vs (xs.map f)) : RpAll G (cutV vs lo hi) ((cutL xs lo hi).map f) := by
  unfold cutV cutL
  rw [a.len, List.length_map, List.map_take, List.map_drop]
  exact (a.drop _).take _
theorem rp_cast {v : V} {d e : PyData} (r : Rp G v d) (h : d = e) : Rp G v e := h ▸ r
theorem comp_listD {i : Nat} {x : α} {y : β} {v : V} {h : α → β} (hi : xs[i]? = some x) (a : RpAll G vs (((xs.take i).map h).map g)) (r : Rp G v (g y)) (e : h x = y) : RpAll G (vs ++ [v]) (((xs.take (i + 1)).map h).map g) := by
  rw [take_succ_get hi, List.map_append, List.map_append]
  exact a.append (.one (e ▸ r))
theorem comp_rangeD {i : Nat} {y : β} {v : V} {h : Nat → β} (a : RpAll G vs (((List.range i).map h).map g)) (r : Rp G v (g y)) (e : h i = y) : RpAll G (vs ++ [v]) (((List.range (i + 1)).map h).map g) := by
  rw [List.range_succ, List.map_append, List.map_append]
  exact a.append (.one (e ▸ r))
theorem comp_doneD {n : Nat} {h : List α → List β} (hl : n = xs.length) (a : RpAll G vs ((h (xs.take n)).map g)) : RpAll G vs ((h xs).map g) := by
  rw [hl, List.take_length] at a
  exact a
theorem comp_listFD {i : Nat} {x : α} {y : β} {v : V} {h : α → β} {q : α → Bool} (hi : xs[i]? = some x) (hq : q x = true) (a : RpAll G vs ((((xs.take i).filter q).map h).map g)) (r : Rp G v (g y)) (e : h x = y) : RpAll G (vs ++ [v]) ((((xs.take (i + 1)).filter q).map h).map g) := by
  rw [take_succ_get hi, List.filter_append, List.filter_cons, if_pos hq, List.map_append, List.map_append]
  exact a.append (.one (e ▸ r))
theorem skip_listD {i : Nat} {x : α} {h : α → β} {q : α → Bool} (hi : xs[i]? = some x) (hq : q x = false) (a : RpAll G vs ((((xs.take i).filter q).map h).map g)) : RpAll G vs ((((xs.take (i + 1)).filter q).map h).map g) := by
  rw [take_succ_get hi, List.filter_append, List.filter_cons, if_neg (by rw [hq]; decide), List.filter_nil, List.append_nil]
  exact a
end
section
variable {α β : Type} {f : β → V} {H : Hp} {D : Addr} {xs : List α}
theorem compM_list {i : Nat} {x : α} {y : β} {h : α → β} (hi : xs[i]? = some x) (a : H D = some (.lst (((xs.take i).map h).map f ++ [f y]))) (e : h x = y) : H D = some (.lst (((xs.take (i + 1)).map h).map f)) := by
  rw [a, ← e, take_succ_get hi, List.map_append, List.map_append] <;> rfl
theorem compM_range {i : Nat} {y : β} {h : Nat → β} (a : H D = some (.lst (((List.range i).map h).map f ++ [f y]))) (e : h i = y) : H D = some (.lst (((List.range (i + 1)).map h).map f)) := by
  rw [a, ← e, List.range_succ, List.map_append, List.map_append] <;> rfl
theorem compM_done {n : Nat} {h : List α → List β} (hl : n = xs.length) (a : H D = some (.lst ((h (xs.take n)).map f))) : H D = some (.lst ((h xs).map f)) := by
  rw [hl, List.take_length] at a
  exact a
theorem compM_listF {i : Nat} {x : α} {y : β} {h : α → β} {q : α → Bool} (hi : xs[i]? = some x) (hq : q x = true) (a : H D = some (.lst ((((xs.take i).filter q).map h).map f ++ [f y]))) (e : h x = y) : H D = some (.lst ((((xs.take (i + 1)).filter q).map h).map f)) := by
  rw [a, ← e, take_succ_get hi, List.filter_append, List.filter_cons, if_pos hq, List.map_append, List.map_append] <;> rfl
theorem skipM_list {i : Nat} {x : α} {h : α → β} {q : α → Bool} (hi : xs[i]? = some x) (hq : q x = false) (a : H D = some (.lst ((((xs.take i).filter q).map h).map f))) : H D = some (.lst ((((xs.take (i + 1)).filter q).map h).map f)) := by
  rw [a, take_succ_get hi, List.filter_append, List.filter_cons, if_neg (by rw [hq]; decide), List.filter_nil, List.append_nil]
theorem compM_rangeF {i : Nat} {y : β} {h : Nat → β} {q : Nat → Bool} (hq : q i = true) (a : H D = some (.lst ((((List.range i).filter q).map h).map f ++ [f y]))) (e : h i = y) : H D = some (.lst ((((List.range (i + 1)).filter q).map h).map f)) := by
  rw [a, ← e, List.range_succ, List.filter_append, List.filter_cons, if_pos hq, List.map_append, List.map_append] <;> rfl
theorem skipM_range {i : Nat} {h : Nat → β} {q : Nat → Bool} (hq : q i = false) (a : H D = some (.lst ((((List.range i).filter q).map h).map f))) : H D = some (.lst ((((List.range (i + 1)).filter q).map h).map f)) := by
  rw [a, List.range_succ, List.filter_append, List.filter_cons, if_neg (by rw [hq]; decide), List.filter_nil, List.append_nil]
end
/-! ### more rules -/
section
variable {X : Cx} {K : PySem.W.Frag}
theorem ix_tupK (hK : X.K = K := by rfl) : IxR X (rIxT K) := hK ▸ ix_tup
def rLenLK (K : PySem.W.Frag) : List V → Hp → VK → Prop := fun xs H Q => ∃ (p : Addr) (vs : List V) (n : Nat), xs = [.ref p] ∧ SqL K H p vs ∧ vs.length = n ∧ Q (.int (n : Int)) H
theorem call_lenLK (hK : X.K = K := by rfl) : CallR X (.builtin "len") (rLenLK K) := by
  subst hK
  intro pins s σ H xs us Q I r h
  obtain ⟨p, vs, n, rfl, hs, hn, q⟩ := h
  exact call_len_seq pins s σ H _ us Q I r ⟨p, _, rfl, Or.inl hs, by rw [hn]; exact q⟩
def rListLK (K : PySem.W.Frag) : List V → Hp → VK → Prop := fun xs H Q => ∃ (p : Addr) (vs : List V), xs = [.ref p] ∧ SqL K H p vs ∧ ∀ l, H l = none → Q (.ref l) (upd H l (.lst vs))
theorem call_listLK (hK : X.K = K := by rfl) : CallR X (.type "list") (rListLK K) := by
  subst hK
  intro pins s σ H xs us Q I r h
  obtain ⟨p, vs, rfl, hs, q⟩ := h
  exact call_list_of pins s σ H _ us Q I r ⟨p, _, rfl, Or.inl hs, q⟩
theorem cr_anyK (hc : X.calm = true) (hK : X.K = K := by rfl) : CallR X (.builtin "any") (rAny K) := hK ▸ cr_any hc
theorem cr_allK (hc : X.calm = true) (hK : X.K = K := by rfl) : CallR X (.builtin "all") (rAll K) := hK ▸ cr_all hc
theorem pi_tupK {tg l : Expr} {tl : TE} (hl : PE X l tl) (hK : X.K = K := by rfl) : PI X tg l (iTup K tl) := hK ▸ pi_tup hl
theorem pip {op : Operator} {r : R2} (h : OpR X (inplaceOp op) r) : PIp X op r := fun pins s σ H x y v u Q I rx ry q => h pins s σ H x y v u Q I rx ry q
/-- an item at a place from 0 on, by itself (ahead of o[i] op= e) -/
def rIxP (K : PySem.W.Frag) : R2 := fun x y H Q => ∃ (p : Addr) (xs : List V) (k : Int) (v : V), x = .ref p ∧ y = .int k ∧ SqL K H p xs ∧ 0 ≤ k ∧ k < 2 ^ 62 ∧ atI xs k = some v ∧ Q v H
theorem pget_list (hK : X.K = K := by rfl) : PGet X (rIxP K) := by
  subst hK
  intro pins s σ H o i ov iv Q I ro ri h
  obtain ⟨p, xs, k, v, rfl, rfl, hq, h0, h62, ha, q⟩ := h
  cases ro
  obtain ⟨t, rfl⟩ := ri
  obtain ⟨its, r, pl, hz⟩ := I.list hq
  obtain ⟨j, h1, h2, h3, h4, h5⟩ := atI_get ha
  obtain ⟨w, ew, rw'⟩ := r.get h2
  have hj : k.toNat = j := by
    rw [seqIndex_of h0 h5] at h1
    exact Option.some.inj h1
  exact getItem_listL pl.isList h0 (by omega) (by rw [hj]; simpa using ew) ⟨v, H, I, rw', q⟩
theorem tru_map {α : Type} [DecidableEq α] {f : α → V} {xs : List α} : (!decide (xs = [])) = !(xs.map f).isEmpty := by
  cases xs <;> simp
end
end Vx

namespace Vx
open PySem PySem.Spec PyProof.Rows L2
/-! ### objects -/
section
variable {M : List Addr} {H0 G0 G H H' : Hp} {O : List Addr} {p m : Addr} {o : HO}
theorem gen_obj {x dx : Addr} {o1 o2 : HO} (nx : H x = none) (nd : H dx = none) (ne : dx ≠ x) (h : upd (upd H dx o1) x o2 = H') : Same H H' ∧ H' x = some o2 := by
  subst h
  exact ⟨fun b u e => by rw [upd_ne (ne_of_none e nx), upd_ne (ne_of_none e nd)]; exact e, upd_same⟩
theorem sameX_of {m : Addr} (x : SameXs [m] H H') : SameX m H H' := fun b o e n => x b o e (by simpa using n)
theorem g_ne {a b : Addr} (h : G a = some o) (S : Sep M H0 G0 G H O) (hb : b ∈ O) : a ≠ b := fun z => by
  have := (S.ow b hb).1
  rw [← z, h] at this
  cases this
/-- an object whose making has laid some lists -/
theorem Sep.mutnew (S : Sep M H0 G0 G H O) {L : List Addr} (x : SameXs L H H') (hL : ∀ a ∈ L, a ∈ O) (hs : ∀ a ∈ L, H' a ≠ none) (hn : H p = none) (hp : H' p ≠ none) (h0 : H0 p = none) : Sep M H0 G0 G H' (p :: O) := by
  have S1 := S.mut x hL hs
  refine ⟨S1.base, S1.pm, S1.sG, S1.g0, S1.gn, all_cons ⟨S.gfree hn, hp, .inr h0⟩ S1.ow⟩
theorem Sep.init (S : Sep M H0 G0 G H O) (x : SameX m H H') (hm : m ∈ O) (h : H' m = some o) (L : List Addr) (hL : ∀ a ∈ L, H a = none ∧ H' a ≠ none ∧ H0 a = none) : Sep M H0 G0 G H' (L ++ O) := by
  have S1 := S.mut1 x hm h
  refine ⟨S1.base, S1.pm, S1.sG, S1.g0, S1.gn, fun a ha => ?_⟩
  rcases List.mem_append.mp ha with z | z
  · obtain ⟨h1, h2, h3⟩ := hL a z
    exact ⟨S.gfree h1, h2, .inr h3⟩
  · exact S1.ow a z
end
section
variable {P : Program} {w : World} {K : PySem.W.Frag} {mg : Str → Option Value} {base : Heap}
structure MethIn (K : PySem.W.Frag) (C : Addr) (q m : Str) (st : Stmt) (ps : List Str) : Prop where
  ex : ∃ (f : Addr) (fd : FuncData), Fun K m q st f fd ∧ Meth K C m f ∧ Binds K fd ps []
structure PropIn (K : PySem.W.Frag) (C : Addr) (q m : Str) (st : Stmt) (ps : List Str) : Prop where
  ex : ∃ (r f : Addr) (fd : FuncData), Fun K m q st f fd ∧ PropOf K C m r f ∧ Binds K fd ps []
structure InitIn (K : PySem.W.Frag) (mg : Str → Option Value) (C : Addr) (cn q : Str) (st : Stmt) (ps : List Str) : Prop where
  ex : ∃ (f : Addr) (fd : FuncData), Fun K "__init__" q st f fd ∧ Mk K C f ∧ mg cn = some (.ref C) ∧ Binds K fd ps []
structure MetC (P : Program) (w : World) (K : PySem.W.Frag) (mg : Str → Option Value) (base : Heap) (k : Nat) (C : Addr) (m : Str) (sp : Sp) : Prop where
  ex : ∃ (f : Addr) (fd : FuncData) (ps : List Str), Cls K C ∧ Meth K C m f ∧ FnOk P w K mg base CX0 k f fd ps sp ∧ Binds K fd ps []
structure PropC (P : Program) (w : World) (K : PySem.W.Frag) (mg : Str → Option Value) (base : Heap) (k : Nat) (C : Addr) (m : Str) (sp : Sp) : Prop where
  ex : ∃ (q f : Addr) (fd : FuncData) (ps : List Str), Cls K C ∧ PropOf K C m q f ∧ FnOk P w K mg base CX0 k f fd ps sp ∧ Binds K fd ps []
structure MakC (P : Program) (w : World) (K : PySem.W.Frag) (mg : Str → Option Value) (base : Heap) (k : Nat) (cn : Str) (C : Addr) (sp : Sp) : Prop where
  ex : ∃ (f : Addr) (fd : FuncData) (ps : List Str), Mk K C f ∧ FnOk P w K mg base CX0 k f fd ps sp ∧ mg cn = some (.ref C) ∧ Binds K fd ps []
abbrev Body (P : Program) (w : World) (K : PySem.W.Frag) (mg : Str → Option Value) (base : Heap) (x : Str) (st : Stmt) (N : List Str) (k : Nat) (sp : Sp) : Prop :=
  ∀ (f : Addr) (cdv : Value) (A : Around) (outer : List Env) (s : Shared) (H : Hp) (vs : List V) (Q : VK) (E : XK), Room k (A.deeper (envOfC x (defScope st) s.heap.objs.size f cdv)) → sp vs H Q E →
    ∃ t, PSs (cxOf CX0 P w K mg base N x (defScope st) f cdv A outer s H E).nox (defBody st) t ∧ t { nx := fun _ H' => Q .non H', rt := Q } (start N vs) H
theorem MethIn.ok {C : Addr} {q m : Str} {st : Stmt} {N ps : List Str} {k : Nat} {sp : Sp} (D : MethIn K C q m st ps) (c : Cls K C) (S : FnScope N ps (defScope st)) (len : ∀ vs H Q E, sp vs H Q E → vs.length = ps.length)
    (hbody : Body P w K mg base q st N k sp) : MetC P w K mg base (k + 1) C m sp := by
  obtain ⟨f, fd, F, me, b⟩ := D.ex
  exact ⟨f, fd, ps, c, me, F.ok S len (fun cdv A outer s H vs Q E hr h => hbody f cdv A outer s H vs Q E hr h), b⟩
theorem PropIn.ok {C : Addr} {q m : Str} {st : Stmt} {N ps : List Str} {k : Nat} {sp : Sp} (D : PropIn K C q m st ps) (c : Cls K C) (S : FnScope N ps (defScope st)) (len : ∀ vs H Q E, sp vs H Q E → vs.length = ps.length)
    (hbody : Body P w K mg base q st N k sp) : PropC P w K mg base (k + 1) C m sp := by
  obtain ⟨r, f, fd, F, me, b⟩ := D.ex
  exact ⟨r, f, fd, ps, c, me, F.ok S len (fun cdv A outer s H vs Q E hr h => hbody f cdv A outer s H vs Q E hr h), b⟩
theorem InitIn.ok {C : Addr} {cn q : Str} {st : Stmt} {N ps : List Str} {k : Nat} {sp : Sp} (D : InitIn K mg C cn q st ps) (S : FnScope N ps (defScope st)) (len : ∀ vs H Q E, sp vs H Q E → vs.length = ps.length)
    (hbody : Body P w K mg base q st N k sp) : MakC P w K mg base (k + 1) cn C sp := by
  obtain ⟨f, fd, F, me, hm, b⟩ := D.ex
  exact ⟨f, fd, ps, me, F.ok S len (fun cdv A outer s H vs Q E hr h => hbody f cdv A outer s H vs Q E hr h), hm, b⟩
end
section
variable {X : Cx} {k j : Nat} {C : Addr} {x m : Str} {sp : Sp} {p pos apos : Pos} {e o : Expr} {es : List Expr} {ta : TE} {t : TA}
theorem vx_call0 (c : Cal X.prog X.w X.K X.mg X.base k x sp) (hr : Room j X.A) (hk : k ≤ j) (hg : Gl X x) (hdb : (x == ("__debug__" : Str)) = false := by decide) : PE X (.Call (.Name x p) [] [] pos) (tCall sp [] E0 tNil) := by
  obtain ⟨f, fd, ps, F, hm, kp, b⟩ := c.ex
  exact pe_call0 F (hr.mono hk) hg hm kp b .nil pass0 hdb
theorem vx_make (c : MakC X.prog X.w X.K X.mg X.base k x C sp) (hr : Room j X.A) (hk : k + 1 ≤ j) (hg : Gl X x) (ha : PA X (e :: es) t)
    (hdb : (x == ("__debug__" : Str)) = false := by decide) (he : starEach (e :: es) X.env = (false, eval e X.env) :: starEach es X.env := by rfl) (hpl : (backTo pos (starEach es X.env)).any (·.1) = false := by rfl) :
    PE X (.Call (.Name x p) (e :: es) [] pos) (tMake C sp [] E0 t) := by
  obtain ⟨f, fd, ps, M, F, hm, b⟩ := c.ex
  exact pe_make M F (hr.mono hk) hg hm b .nil pass0 ha hdb he hpl
theorem vx_make0 (c : MakC X.prog X.w X.K X.mg X.base k x C sp) (hr : Room j X.A) (hk : k + 1 ≤ j) (hg : Gl X x) (hdb : (x == ("__debug__" : Str)) = false := by decide) :
    PE X (.Call (.Name x p) [] [] pos) (tMake C sp [] E0 tNil) := by
  obtain ⟨f, fd, ps, M, F, hm, b⟩ := c.ex
  exact pe_make0 M F (hr.mono hk) hg hm b .nil pass0 hdb
theorem vx_meth {pl : Sem Bool} (c : MetC X.prog X.w X.K X.mg X.base k C m sp) (hr : Room j X.A) (hk : k ≤ j) (he : PE X o ta) (ha : PA X (e :: es) t)
    (hst : starEach (e :: es) X.env = (false, eval e X.env) :: starEach es X.env := by rfl) (hpl : (backTo pos (starEach es X.env)).any (·.1) = false := by rfl)
    (ht : eval (.Call (.Attribute o m apos) (e :: es) [] pos) X.env = (do
      let ov ← eval o X.env
      standAt apos.atName
      let (f, first) ← holding [ov] (getMethod ov m pl)
      callWith pos f first (backTo pos (starEach (e :: es) X.env)) (backToKw pos (keywordEach [] X.env))) := by rfl) :
    PE X (.Call (.Attribute o m apos) (e :: es) [] pos) (tMeth C m sp [] E0 ta t) := by
  obtain ⟨f, fd, ps, hc, hm, F, b⟩ := c.ex
  exact pe_meth he hc hm F (hr.mono hk) b .nil pass0 ha hst hpl ht
theorem vx_meth0 {pl : Sem Bool} (c : MetC X.prog X.w X.K X.mg X.base k C m sp) (hr : Room j X.A) (hk : k ≤ j) (he : PE X o ta)
    (ht : eval (.Call (.Attribute o m apos) [] [] pos) X.env = (do
      let ov ← eval o X.env
      standAt apos.atName
      let (f, first) ← holding [ov] (getMethod ov m pl)
      callWith pos f first (backTo pos (starEach [] X.env)) (backToKw pos (keywordEach [] X.env))) := by rfl) :
    PE X (.Call (.Attribute o m apos) [] [] pos) (tMeth C m sp [] E0 ta tNil) := by
  obtain ⟨f, fd, ps, hc, hm, F, b⟩ := c.ex
  exact pe_meth0 he hc hm F (hr.mono hk) b .nil pass0 ht
theorem vx_prop (c : PropC X.prog X.w X.K X.mg X.base k C m sp) (hr : Room j X.A) (hk : k + 1 ≤ j) (he : PE X o ta) (hab : attributeBase o m X.env (eval o X.env) = eval o X.env) : PE X (.Attribute o m pos) (tProp C sp [] E0 ta) := by
  obtain ⟨q, f, fd, ps, hc, hp, F, b⟩ := c.ex
  exact pe_prop he hc hp F (hr.mono hk) b .nil pass0 hab
end
theorem iteBNT {b : Bool} {A B : Prop} (h : b = false) (k : A) : if (!b) = true then A else B := by rw [h]; exact iteT k
theorem iteNN {b : Bool} {A B : Prop} (h : if b = true then A else B) : if (!!b) = true then A else B := by rw [Bool.not_not]; exact h
theorem iteBNF {b : Bool} {A B : Prop} (h : b = true) (k : B) : if (!b) = true then A else B := by rw [h]; exact iteF k
theorem shl_side {i j : Int} (h0 : 0 ≤ j) (h1 : j ≤ 4096) (h2 : -(2 ^ 4096) < i) (h3 : i < 2 ^ 4096) : CShl i j := by
  obtain ⟨k, rfl⟩ := Int.eq_ofNat_of_zero_le h0
  exact shl_ok (n := 4096) (by omega) (by omega)
end Vx

namespace Vx
open PySem PySem.Spec PyProof.Rows L2
section
variable {X : Cx} {K : PySem.W.Frag}
theorem fldK {e : Expr} {f : Str} {pos : Pos} {ta : TE} (he : PE X e ta) (hb : attributeBase e f X.env (eval e X.env) = eval e X.env := by rfl) (hK : X.K = K := by rfl) : PE X (.Attribute e f pos) (tFld K ta f) := hK ▸ pe_fld he hb
theorem pg_tupK {es : List Expr} {k : Nat} {t : TGs} {n : Nat} {pos : Pos} (h : PGs X es t) (hc : X.calm = true := by rfl)
    (hn : (assignEach es X.env).length = n := by rfl) (hst : (assignEach es X.env).findIdx? (·.1) = none := by rfl) (hK : X.K = K := by rfl) : PG X (.Tuple es k pos) (gTup K n t) := hK ▸ pg_tup hc h hn hst
end
end Vx

namespace Vx
open PySem PySem.Spec PyProof.Rows L2
section
variable {α β : Type} {f : α → PyData} {g : β → PyData} {fv : α → V} {gv : β → V} {G : Hp} {vs ws : List V} {xs : List α} {ys : List β}
theorem big1 {n : Nat} (h : n ≤ 1000000) : n ≤ sizeLine := smallE h
theorem cat_len (a : RpAll G vs (xs.map f)) (b : RpAll G ws (ys.map g)) (h : xs.length + ys.length ≤ 1000000) : vs.length + ws.length ≤ sizeLine := by
  rw [a.len, b.len, List.length_map, List.length_map]; exact smallE h
theorem cat_lenM (h : xs.length + ys.length ≤ 1000000) : (xs.map fv).length + (ys.map gv).length ≤ sizeLine := by
  rw [List.length_map, List.length_map]; exact smallE h
theorem rep_len {k : Nat} (a : RpAll G vs (xs.map f)) (h : xs.length * k ≤ 1000000) : vs.length * k ≤ sizeLine := by
  rw [a.len, List.length_map]; exact smallE h
theorem rep_lenM {k : Nat} (h : xs.length * k ≤ 1000000) : (xs.map fv).length * k ≤ sizeLine := by
  rw [List.length_map]; exact smallE h
theorem app_len (a : RpAll G vs (xs.map f)) (h : xs.length ≤ 1000000) : vs.length < sizeLine := by
  rw [a.len, List.length_map]; exact small h
theorem app_lenM (h : xs.length ≤ 1000000) : (xs.map fv).length < sizeLine := by
  rw [List.length_map]; exact small h
theorem cutL_len {α : Type} (xs : List α) (lo hi : Option Int) : (cutL xs lo hi).length ≤ xs.length := by
  unfold cutL
  rw [List.length_take, List.length_drop]
  omega
theorem repL_len {α : Type} (xs : List α) (k : Int) : (repL xs k).length = k.toNat * xs.length := by
  unfold repL
  simp
end
end Vx
/-! # promises of defs that know that nothing is being shown (so that repr may be called) -/
namespace Vx
open PySem PySem.Spec PyProof.Rows L2
structure RoomG (k : Nat) (A : Around) : Prop extends Room k A where
  gd : A.guards = some []
theorem RoomG.low {j k : Nat} {A : Around} (r : RoomG k A) (h : j ≤ k) : RoomG j A := ⟨r.toRoom.mono h, r.gd⟩
theorem RoomG.one {k : Nat} {A : Around} (r : RoomG (k + 1) A) : RoomG k A.in1 := ⟨r.toRoom.in1, r.gd⟩
theorem make_gd {A : Around} (C : Addr) (us : List Value) (kw : List (Str × Value)) (h : A.guards = some []) : (A.under (.builtin "type.__call__" ⟨.ref C :: us, kw⟩)).guards = some [] := by
  obtain ⟨hd, d, fr, gs, u⟩ := A
  subst h
  simp [Around.under, Code.guards, Code.isGuard, guardIds, pushGuards]
theorem RoomG.made {k : Nat} {A : Around} (r : RoomG (k + 1) A) (C : Addr) (us : List Value) (kw : List (Str × Value)) : RoomG k (A.under (.builtin "type.__call__" ⟨.ref C :: us, kw⟩)) := ⟨r.toRoom.make C us kw, make_gd C us kw r.gd⟩
structure FnG (P : Program) (w : World) (K : PySem.W.Frag) (mg : Str → Option Value) (base : Heap) (cx : CXT) (k : Nat) (f : Addr) (fd : FuncData) (ps : List Str) (sp : Sp) : Prop where
  len : ∀ vs H Q E, sp vs H Q E → vs.length = ps.length
  run : ∀ (A : Around) (outer : List Env) (s : Shared) (H : Hp) (args : Args) (us : List Value) (vs : List V) (Q : VK) (E : XK), RoomG k A → Env0 P w K mg base A outer s H → BindsTo s fd args (ps.zip us) → Vals vs us → sp vs H Q E → codeAny (model P w) A (.call (.ref f) args) (CR cx outer P w H s Q E) s
section
variable {P : Program} {w : World} {K : PySem.W.Frag} {mg : Str → Option Value} {base : Heap} {cx : CXT} {j k : Nat} {f : Addr} {fd : FuncData} {ps : List Str} {sp sp' : Sp}
theorem FnG.imp (F : FnG P w K mg base cx k f fd ps sp) (h : ∀ vs H Q E, sp' vs H Q E → sp vs H Q E) : FnG P w K mg base cx k f fd ps sp' := ⟨fun vs H Q E q => F.len vs H Q E (h vs H Q E q), fun A o s H a us vs Q E r e b v q => F.run A o s H a us vs Q E r e b v (h vs H Q E q)⟩
/-- the body's promise is the def's -/
theorem FnG.body {x qual : Str} {params : Arguments} {body : List Stmt} {scope : Scope} {dvs : List V} {kws : List (Str × V)} {N : List Str} (F : FunD K x qual params body scope dvs kws f fd) (S : FnScope N ps scope) (len : ∀ vs H Q E, sp vs H Q E → vs.length = ps.length)
    (hb : ∀ (cdv : Value) (A : Around) (outer : List Env) (s : Shared) (H : Hp) (vs : List V) (Q : VK) (E : XK), RoomG k (A.deeper (envOfC qual scope s.heap.objs.size f cdv)) → sp vs H Q E →
      ∃ t, PSs (cxOf cx P w K mg base N qual scope f cdv A outer s H E) body t ∧ t { nx := fun _ H' => Q .non H', rt := Q } (start N vs) H) : FnG P w K mg base cx (k + 1) f fd ps sp := by
  obtain ⟨oc, od, dV, kV, doc, pm, an, cdv, ct, osl, rfl, lk, code, _, _⟩ := F.ex
  constructor
  · exact len
  · intro A outer s H args us vs Q E room env binds vals prom
    have nvs := len vs H Q E prom
    have kin : K.In s.heap := env.mod.kin.keeps fun b o q => (env.bs b o q).1
    have nolim : s.heap.NoLimit := env.mod.nolimit.keeps fun b o q => (env.bs b o q).1
    have kinds : ∀ q ∈ ps.zip us, scope.names.lookup q.1 = some .local ∨ (scope.names.lookup q.1 = some .cell ∧ ((cellsFrom (s.heap.objs.size + 1) scope.names []).lookup q.1).isSome = true) := by
      rintro ⟨n, v⟩ hq
      cases S.par n (List.of_mem_zip hq).1 with
      | inl z => exact .inl z
      | inr z => exact .inr ⟨z, PySem.W.cellsFrom_some _ _ _ (.inl z)⟩
    refine codeAny_call_function room.toRoom.depth (kin _ _ lk) rfl S.co S.gen rfl (PySem.W.codeRec_of kin code) (binds _ _ _ _ ?_)
    refine wpAny_newFunctionEnv_cells S.kind kinds ?_
    rintro _ rfl s1 made
    refine ⟨nolim.keeps made.toInCall.keep, codeAny_func ?_⟩
    obtain ⟨t, pss, start_⟩ := hb cdv A outer s H vs Q E ⟨room.toRoom.deeper _, room.gd⟩ prom
    have inv := inv_start (CX := cx) (E := E) S room.hd env nvs vals made
    have close : ∀ {τ : L2.St} {H2 : Hp} {v : V} {u : Value} {s2 : Shared}, Inv (cxOf cx P w K mg base N qual scope f cdv A outer s H E) [] τ H2 s2 → RelV v u → Q v H2 → CE outer P w H s Q u s2 := fun inv2 rel q => ⟨_, _, inv2.os, inv2.bare, inv2.base, inv2.hok, rel, q⟩
    refine wpAny_mono (pss.run [] s1 (start N vs) H _ inv start_) ?_ fun _ _ z => z
    intro flow s2 out
    cases flow with
    | next =>
      obtain ⟨τ, H2, inv2, q⟩ := out
      exact close (v := .non) (u := .none) inv2 rfl q
    | ret u =>
      obtain ⟨v, τ, H2, inv2, rel, q⟩ := out
      exact close inv2 rel q
    | brk =>
      obtain ⟨_, _, _, q⟩ := out
      exact q.elim
    | cont =>
      obtain ⟨_, _, _, q⟩ := out
      exact q.elim
/-- the same of a body that nothing leaves -/
theorem FnG.bodyN {x qual : Str} {params : Arguments} {body : List Stmt} {scope : Scope} {dvs : List V} {kws : List (Str × V)} {N : List Str} (F : FunD K x qual params body scope dvs kws f fd) (S : FnScope N ps scope) (len : ∀ vs H Q E, sp vs H Q E → vs.length = ps.length)
    (hb : ∀ (cdv : Value) (A : Around) (outer : List Env) (s : Shared) (H : Hp) (vs : List V) (Q : VK) (E : XK), RoomG k (A.deeper (envOfC qual scope s.heap.objs.size f cdv)) → sp vs H Q E →
      ∃ t, PSs (cxOf CX0 P w K mg base N qual scope f cdv A outer s H E).nox body t ∧ t { nx := fun _ H' => Q .non H', rt := Q } (start N vs) H) : FnG P w K mg base CX0 (k + 1) f fd ps sp :=
  FnG.body F S len fun cdv A outer s H vs Q E r p => by
    obtain ⟨t, h, q⟩ := hb cdv A outer s H vs Q E r p
    exact ⟨t, h.nox, q⟩
end
/-- where a law's call begins: an abstract heap that tells the script at most -/
theorem law_start {P : Program} {w : World} {K : PySem.W.Frag} {mg mb : Str → Option Value} {a : Addr} {s : Shared} {vs : List Value} {ns : List Int} (kin : K.In s.heap) (top : s.heap.Ns mainGlobals mg) (blt : s.heap.Ns builtinsNs mb) (boot : ∀ y : Str, y ≠ "__name__" → mb y = bootBuiltins y)
    (lim : s.heap.NoLimit) (gens : s.gens = #[]) (script : s.heap.get? a = some { cls := .type "list", data := .seq vs.toArray }) (whole : IntsAre vs ns) (short : ns.length ≤ sizeLine) :
    ∃ (H : Hp) (base : Heap), SqL K H a (ns.map V.int) ∧ K.In base ∧ base.Ns mainGlobals mg ∧ Env0 P w K mg base callerA [] s H ∧
      ∀ (Z : V → Prop) (u : Value) (s2 : Shared), CE [] P w H s (fun v _ => Z v) u s2 → (∃ v, RelV v u ∧ Z v) ∧ OldK s.heap s2.heap ∧ s2.os = s.os ∧ AllBare s2.gens := by
  have rel := vals_ints whole
  have lenV := whole.length
  -- any H that tells no more than the script, and that only where the written part does not hold it, will do
  have fits : ∀ H : Hp, (∀ b, H b = none ∨ ∃ o xs, H b = some (.frz o (.lst xs))) → SqL K H a (ns.map V.int) → HOk P w H s.heap → (∀ b, b ≠ a → H b = none) → (∀ o, K.lookup a = some o → H a = none) →
      ∃ (H : Hp) (base : Heap), SqL K H a (ns.map V.int) ∧ K.In base ∧ base.Ns mainGlobals mg ∧ Env0 P w K mg base callerA [] s H ∧
        ∀ (Z : V → Prop) (u : Value) (s2 : Shared), CE [] P w H s (fun v _ => Z v) u s2 → (∃ v, RelV v u ∧ Z v) ∧ OldK s.heap s2.heap ∧ s2.os = s.os ∧ AllBare s2.gens := by
    intro H only seq ok else_ apart
    have dictFree : ∀ (b : Addr) (o : Obj) (es : Array DictEntry) (n : Nat), s.heap.get? b = some o → o.data = .dict es n → H b = none := by
      intro b o es n e d
      by_cases z : b = a
      · subst z
        rw [script] at e
        injection e with e
        subst e
        cases d
      · exact else_ b z
    have nsOf : ∀ {b : Addr} {m : Str → Option Value}, s.heap.Ns b m → (hidT s.heap H).Ns b m := by
      rintro b m ⟨o, es, n, e, d, r⟩
      exact ⟨o, es, n, hidT_get e (dictFree b o es n e d), d, r⟩
    have kinB : K.In (hidT s.heap H) := by
      intro b o e
      refine hidT_get (kin b o e) ?_
      by_cases z : b = a
      · subst z
        exact apart o e
      · exact else_ b z
    obtain ⟨mc, lim1, lim2⟩ := lim
    refine ⟨H, hidT s.heap H, seq, kinB, nsOf top, ⟨rfl, ⟨kinB, nsOf top, ⟨mb, nsOf blt, boot⟩, mc, nsOf lim1, lim2⟩, fun b o e => of_hidT e, Nat.le_of_eq (hidT_size _ _), trivial, fun b hb => (nomatch (show b ∈ ([] : List Addr) from hb)), ok, .of_eq gens⟩, ?_⟩
    rintro Z u s2 ⟨v, H2, os, bare, un, ok2, r, z⟩
    refine ⟨⟨v, r, z⟩, OldK.of_keep fun b o e => ?_, os, bare⟩
    rcases only b with n | ⟨o1, xs, n⟩
    · exact un.keep b o e n (fun y => nomatch (show b ∈ ([] : List Addr) from y)) (fun y => nomatch y)
    · obtain ⟨e1, _⟩ := ok b _ n
      obtain ⟨e2, _⟩ := ok2 b _ (un.frzs b o1 _ n)
      rw [e] at e1
      injection e1 with e1
      subst e1
      exact e2
  cases kl : K.lookup a with
  | some o =>
    have e := kin a o kl
    rw [script] at e
    injection e with e
    subst e
    exact fits (fun _ => none) (fun _ => .inl rfl) (.inr ⟨_, vs.toArray, _, kl, rfl, rfl, rfl, by rw [List.size_toArray, lenV]; exact short, by simpa using rel⟩) (fun _ _ z => nomatch z) (fun _ _ => rfl) fun _ _ => rfl
  | none =>
    refine fits (fun b => if b = a then some (.frz { cls := .type "list", data := .seq vs.toArray } (.lst (ns.map V.int))) else none) ?_ (.inl (.inr ⟨_, if_pos rfl⟩)) ?_ (fun b n => if_neg n) fun o z => ?_
    · intro b
      by_cases z : b = a
      · exact .inr ⟨_, _, if_pos z⟩
      · exact .inl (if_neg z)
    · intro b u q
      by_cases z : b = a
      · subst z
        have q := (if_pos rfl).symm.trans q
        injection q with q
        subst q
        exact ⟨script, by rw [List.length_map]; exact short, vs, _, rel, script⟩
      · have q := (if_neg z).symm.trans q
        cases q
    · rw [kl] at z
      cases z
/-- the goal that the head leaves, from the law's promise; the script's numbers have at most 2 ^ 20 bits -/
theorem walkG {l : PySem.W.OpenLaw} {n k : Nat} {q : Program} {loose : List Str} {XP : (Str → Option Value) → Heap → Prop} {YP : World → Heap → Prop} {d : DefRec} {K : Params → PySem.W.Frag} {x : Str} (hn : l.most = some n) (hn2 : n ≤ sizeLine) (hdf : d.params.defaults = []) (room : Room k callerA)
    (hY : ∀ (w : World) (h : Heap), YP w h → (K w.params).In h)
    (F : ∀ (w : World) (mg : Str → Option Value) (fa : Addr) (h : Heap), (K w.params).In h → h.Ns mainGlobals mg → mg d.name = some (.ref fa) →
      ∃ fd : FuncData, (∀ (s : Shared) (u : Value), BindsTo s fd ⟨[u], []⟩ [(x, u)]) ∧ ∀ base : Heap, (K w.params).In base → base.Ns mainGlobals mg → FnG l.prog w (K w.params) mg base CX0 k fa fd [x] (fun vs H Q _ => ∃ (a : Addr) (ns : List Int), vs = [.ref a] ∧ SqL (K w.params) H a (ns.map V.int) ∧ ns.length ≤ n ∧ ∀ H', Q (.bl true) H')) :
    PySem.W.WalkO q loose XP YP l.row.toRowW d [] (fun f vs => PySem.call f vs) := by
  refine Att.attach_call hn hdf ?_
  intro w s₀ s₁ mg mb fa o pm cd doc a vs ns G Y _ _ _ hmg script whole short gens
  have kin := hY w _ Y
  obtain ⟨fd, bind, prom⟩ := F w mg fa _ kin G.T.g hmg
  obtain ⟨H, base, seq, kinB, nsB, env, fin⟩ := law_start (P := l.prog) (w := w) kin G.T.g G.T.b G.T.builtins G.T.nolimit gens script whole (Nat.le_trans short hn2)
  refine codeAny_mono ((prom base kinB nsB).run callerA [] s₁ H ⟨[.ref a], []⟩ [.ref a] [.ref a] (fun v _ => v = .bl true) (fun _ _ _ => False) ⟨room, rfl⟩ env (bind s₁ (.ref a)) (.cons rfl .nil) ⟨a, ns, rfl, seq, short, fun _ => rfl⟩) ?_
  intro r s2 out
  cases r with
  | error e => exact out.elim
  | ok flow =>
    cases flow with
    | ret u =>
      obtain ⟨⟨v, rv, z⟩, h1, h2, h3⟩ := fin (fun v => v = .bl true) u s2 out
      subst z
      obtain rfl : u = Value.bool true := rv
      exact ⟨rfl, h1, h2, h3⟩
    | next => exact out.elim
    | brk => exact out.elim
    | cont => exact out.elim
end Vx
/-! # third part: what a def computes, as a plain function with refusals -/
namespace Vx
open PySem PySem.Spec PyProof.Rows L2
inductive Rx (α : Type) where
  | ok (a : α)
  | er (e : Nat)
  | bad
def Rx.bind {α β : Type} (m : Rx α) (f : α → Rx β) : Rx β :=
  match m with
  | .ok a => f a
  | .er e => .er e
  | .bad => .bad
/-- what is wanted of an outcome -/
@[irreducible] def cW {α : Type} (m : Rx α) (K : α → Prop) (E : Nat → Prop) : Prop :=
  match m with
  | .ok a => K a
  | .er e => E e
  | .bad => False
def grd {α : Type} (p : Prop) [Decidable p] (m : Rx α) : Rx α := if p then m else .bad
/-- within a comprehension nothing may be raised -/
def noEr {α : Type} (m : Rx α) : Rx α :=
  match m with
  | .ok a => .ok a
  | _ => .bad
/-- what the clause does not name may not come -/
def tryR {α β : Type} (m : Rx α) (cs : List Nat) (f : α → Rx β) (h : Nat → Rx β) : Rx β :=
  match m with
  | .ok a => f a
  | .er e => if e ∈ cs then h e else .bad
  | .bad => .bad
def bnd {α β : Type} (a : α) (f : α → Rx β) : Rx β := f a
inductive Lp (σ ρ : Type) where
  | go (s : σ)
  | bk (s : σ)
  | rt (r : ρ)
def Lp.aft {σ ρ τ : Type} (l : Lp σ ρ) (kr : ρ → Rx τ) (k : σ → Rx τ) : Rx τ :=
  match l with
  | .go s => k s
  | .bk s => k s
  | .rt r => kr r
def forS {σ α : Type} : List α → σ → (σ → α → Rx σ) → Rx σ
  | [], s, _ => .ok s
  | x :: r, s, f => (f s x).bind fun s' => forS r s' f
def forR {σ α ρ : Type} : List α → σ → (σ → α → Rx (Lp σ ρ)) → Rx (Lp σ ρ)
  | [], s, _ => .ok (.go s)
  | x :: r, s, f => (f s x).bind fun l =>
    match l with
    | .go s' => forR r s' f
    | .bk s' => .ok (.go s')
    | .rt v => .ok (.rt v)
def whileR {σ ρ : Type} : Nat → σ → (σ → Rx (Lp σ ρ)) → Rx (Lp σ ρ)
  | 0, _, _ => .bad
  | n + 1, s, f => (f s).bind fun l =>
    match l with
    | .go s' => whileR n s' f
    | .bk s' => .ok (.go s')
    | .rt v => .ok (.rt v)
def mapA {α β : Type} : List α → List β → (α → Rx β) → Rx (List β)
  | [], acc, _ => .ok acc
  | x :: r, acc, f => grd (acc.length ≤ 1000000) ((f x).bind fun y => mapA r (acc ++ [y]) f)
def mapF {α β : Type} : List α → List β → (α → Rx (Option β)) → Rx (List β)
  | [], acc, _ => .ok acc
  | x :: r, acc, f => grd (acc.length ≤ 1000000) ((f x).bind fun y =>
    match y with
    | some z => mapF r (acc ++ [z]) f
    | none => mapF r acc f)
section
variable {α β γ σ ρ τ : Type} {K : α → Prop} {E : Nat → Prop}
theorem cW_ok {a : α} (h : cW (.ok a) K E) : K a := by
  unfold cW at h
  exact h
theorem cW_er {e : Nat} (h : cW (.er e : Rx α) K E) : E e := by
  unfold cW at h
  exact h
theorem cW_bad {C : Prop} (h : cW (.bad : Rx α) K E) : C := by
  unfold cW at h
  exact h.elim
theorem cW_mk {a : α} (h : K a) : cW (.ok a) K E := by
  unfold cW
  exact h
theorem cW_mkE {e : Nat} (h : E e) : cW (.er e : Rx α) K E := by
  unfold cW
  exact h
theorem cW_gen {m : Rx α} (h : cW m K E) : ∃ (K' : α → Prop) (E' : Nat → Prop), (∀ v, K' v → K v) ∧ (∀ e, E' e → E e) ∧ cW m K' E' := ⟨K, E, fun _ x => x, fun _ x => x, h⟩
theorem cW_grd {p : Prop} {dp : Decidable p} {m : Rx α} (h : cW (grd p m) K E) : p ∧ cW m K E := by
  unfold grd at h
  split at h
  · exact ⟨‹p›, h⟩
  · exact cW_bad h
theorem cW_pos {p : Prop} {dp : Decidable p} {a b : Rx α} (c : p) (h : cW (if p then a else b) K E) : cW a K E := by rwa [if_pos c] at h
theorem cW_neg {p : Prop} {dp : Decidable p} {a b : Rx α} (c : ¬ p) (h : cW (if p then a else b) K E) : cW b K E := by rwa [if_neg c] at h
theorem cW_call {m : Rx β} {f : β → Rx α} {K2 : β → Prop} {E2 : Nat → Prop} (h : cW (m.bind f) K E) (ho : ∀ v, cW (f v) K E → K2 v) (he : ∀ e, E e → E2 e) : cW m K2 E2 := by
  cases m with
  | ok a => exact cW_mk (ho a h)
  | er e => exact cW_mkE (he e (cW_er (α := α) h))
  | bad => exact cW_bad (α := α) h
theorem cW_push {m : Rx β} {f : β → Rx α} (h : cW (m.bind f) K E) : ∃ K2 : β → Prop, (∀ v, K2 v → cW (f v) K E) ∧ cW m K2 E := ⟨fun v => cW (f v) K E, fun _ x => x, cW_call h (fun _ x => x) fun _ x => x⟩
theorem cW_name {m : Rx α} (h : cW m K E) : ∃ K' : α → Prop, (∀ v, K' v → K v) ∧ cW m K' E := ⟨K, fun _ x => x, h⟩
theorem cW_noEr {m : Rx α} (h : cW (noEr m) K E) : cW m K (fun _ => False) := by
  cases m with
  | ok a => exact cW_mk (cW_ok (α := α) h)
  | er e => exact cW_bad (α := α) h
  | bad => exact cW_bad (α := α) h
theorem cW_try {m : Rx β} {cs : List Nat} {f : β → Rx α} {g : Nat → Rx α} {K2 : β → Prop} {E2 : Nat → Prop} (h : cW (tryR m cs f g) K E) (ho : ∀ v, cW (f v) K E → K2 v) (hc : ∀ e, e ∈ cs → cW (g e) K E → E2 e) : cW m K2 E2 := by
  cases m with
  | ok a => exact cW_mk (ho a h)
  | er e =>
    have h2 : cW (if e ∈ cs then g e else .bad) K E := h
    by_cases q : e ∈ cs
    · exact cW_mkE (hc e q (cW_pos q h2))
    · exact cW_bad (cW_neg q h2)
  | bad => exact cW_bad (α := α) h
theorem cW_bnd {a : β} {f : β → Rx α} (h : cW (bnd a f) K E) : cW (f a) K E := h
theorem cW_negB {b : Bool} {x y : Rx α} (c : b = false) (h : cW (if b = true then x else y) K E) : cW y K E := cW_neg (by rw [c]; decide) h
theorem cW_forS {xs : List β} {i : Nat} {x : β} {s : α} {f : α → β → Rx α} (hx : xs[i]? = some x) (h : cW (forS (xs.drop i) s f) K E) : cW (f s x) (fun s' => cW (forS (xs.drop (i + 1)) s' f) K E) E := by
  rw [List.drop_eq_getElem?_toList_append, hx] at h
  exact cW_call h (fun _ z => z) fun _ z => z
theorem cW_forS0 {xs : List β} {n : Nat} {s : α} {f : α → β → Rx α} (hn : n = xs.length) (h : cW (forS (xs.drop n) s f) K E) : K s := by
  subst hn
  rw [List.drop_length] at h
  exact cW_ok h
theorem cW_forR {K : Lp σ ρ → Prop} {xs : List β} {i : Nat} {x : β} {s : σ} {f : σ → β → Rx (Lp σ ρ)} (hx : xs[i]? = some x) (h : cW (forR (xs.drop i) s f) K E) :
    cW (f s x) (fun l => match l with | .go s' => cW (forR (xs.drop (i + 1)) s' f) K E | .bk s' => K (.go s') | .rt v => K (.rt v)) E := by
  rw [List.drop_eq_getElem?_toList_append, hx] at h
  refine cW_call h (fun l z => ?_) fun _ z => z
  cases l with
  | go s' => exact z
  | bk s' => exact cW_ok (K := K) (a := .go s') z
  | rt v => exact cW_ok (K := K) (a := .rt v) z
theorem cW_forR0 {K : Lp σ ρ → Prop} {xs : List β} {n : Nat} {s : σ} {f : σ → β → Rx (Lp σ ρ)} (hn : n = xs.length) (h : cW (forR (xs.drop n) s f) K E) : K (.go s) := by
  subst hn
  rw [List.drop_length] at h
  exact cW_ok h
theorem cW_whileR {K : Lp σ ρ → Prop} {m : Nat} {s : σ} {f : σ → Rx (Lp σ ρ)} (h : cW (whileR m s f) K E) :
    ∃ n, m = n + 1 ∧ cW (f s) (fun l => match l with | .go s' => cW (whileR n s' f) K E | .bk s' => K (.go s') | .rt v => K (.rt v)) E := by
  cases m with
  | zero => exact cW_bad h
  | succ n =>
    refine ⟨n, rfl, cW_call h (fun l z => ?_) fun _ z => z⟩
    cases l with
    | go s' => exact z
    | bk s' => exact cW_ok (K := K) (a := .go s') z
    | rt v => exact cW_ok (K := K) (a := .rt v) z
theorem cW_mapA {K : List α → Prop} {xs : List β} {acc : List α} {i : Nat} {x : β} {f : β → Rx α} (hx : xs[i]? = some x) (h : cW (mapA (xs.drop i) acc f) K E) :
    acc.length ≤ 1000000 ∧ cW (f x) (fun y => cW (mapA (xs.drop (i + 1)) (acc ++ [y]) f) K E) E := by
  rw [List.drop_eq_getElem?_toList_append, hx] at h
  obtain ⟨z, h⟩ := cW_grd h
  exact ⟨z, cW_call h (fun _ z => z) fun _ z => z⟩
theorem cW_mapA0 {K : List α → Prop} {xs : List β} {acc : List α} {n : Nat} {f : β → Rx α} (hn : n = xs.length) (h : cW (mapA (xs.drop n) acc f) K E) : K acc := by
  subst hn
  rw [List.drop_length] at h
  exact cW_ok h
theorem cW_mapF {K : List α → Prop} {xs : List β} {acc : List α} {i : Nat} {x : β} {f : β → Rx (Option α)} (hx : xs[i]? = some x) (h : cW (mapF (xs.drop i) acc f) K E) :
    acc.length ≤ 1000000 ∧ cW (f x) (fun y => match y with | some z => cW (mapF (xs.drop (i + 1)) (acc ++ [z]) f) K E | none => cW (mapF (xs.drop (i + 1)) acc f) K E) E := by
  rw [List.drop_eq_getElem?_toList_append, hx] at h
  obtain ⟨z, h⟩ := cW_grd h
  refine ⟨z, cW_call h (fun y z => ?_) fun _ z => z⟩
  cases y with
  | none => exact z
  | some w => exact z
theorem cW_mapF0 {K : List α → Prop} {xs : List β} {acc : List α} {n : Nat} {f : β → Rx (Option α)} (hn : n = xs.length) (h : cW (mapF (xs.drop n) acc f) K E) : K acc := by
  subst hn
  rw [List.drop_length] at h
  exact cW_ok h
end
/-- the numbers of a range -/
def rng (lo : Int) (n : Nat) : List Int := (List.range n).map fun (j : Nat) => lo + (j : Int)
theorem rng_get {lo : Int} {n i : Nat} (h : i < n) : (rng lo n)[i]? = some (lo + (i : Int)) := by
  unfold rng
  rw [List.getElem?_map, List.getElem?_range h] <;> rfl
theorem rng_len (lo : Int) (n : Nat) : (rng lo n).length = n := by
  unfold rng
  rw [List.length_map, List.length_range]

def rngD (lo : Int) (n : Nat) : List Int := (List.range n).map fun (j : Nat) => lo + (j : Int) * (-1)
theorem rngD_get {lo : Int} {n i : Nat} (h : i < n) : (rngD lo n)[i]? = some (lo + (i : Int) * (-1)) := by
  unfold rngD
  rw [List.getElem?_map, List.getElem?_range h] <;> rfl
theorem rngD_len (lo : Int) (n : Nat) : (rngD lo n).length = n := by
  unfold rngD
  rw [List.length_map, List.length_range]

/-! ### calls that may raise -/
/-- what a call with n values and keywords ks gives the parameters -/
structure Bnd (K : PySem.W.Frag) (fd : FuncData) (ps : List Str) (n : Nat) (ks : List Str) (g : List V → List V → List V) : Prop where
  to : ∀ (s : Shared) (us ws : List Value) (vs zs : List V), K.In s.heap → vs.length = n → zs.length = ks.length → Vals vs us → Vals zs ws → ∃ vv : List Value, BindsTo s fd ⟨us, ks.zip ws⟩ (ps.zip vv) ∧ Vals (g vs zs) vv
theorem Bnd.of_kbn {K : PySem.W.Frag} {fd : FuncData} {ps ks : List Str} {n : Nat} {g : List Value → List Value → List Value} {gV : List V → List V → List V} (b : KBn K fd ps n ks g gV) : Bnd K fd ps n ks gV :=
  ⟨fun s us ws vs zs X l1 l2 r rz => ⟨g us ws, b.to s us ws X (r.length.symm.trans l1) (rz.length.symm.trans l2), b.rel r rz⟩⟩
theorem Bnd.all {K : PySem.W.Frag} {fd : FuncData} {ps ks : List Str} {n : Nat} {g : List V → List V → List V} (h : ∀ (us ws : List Value) (vs zs : List V), vs.length = n → zs.length = ks.length → Vals vs us → Vals zs ws →
    ∃ vv : List Value, bindArgs fd ⟨us, ks.zip ws⟩ = pure (ps.zip vv) ∧ Vals (g vs zs) vv) : Bnd K fd ps n ks g :=
  ⟨fun s us ws vs zs _ l1 l2 r rz => by
    obtain ⟨vv, e, q⟩ := h us ws vs zs l1 l2 r rz
    exact ⟨vv, BindsTo.of_eq e, q⟩⟩
abbrev Pat := Nat × List Str × (List V → List V → List V)
def Bnd1 (K : PySem.W.Frag) (fd : FuncData) (ps : List Str) (p : Pat) : Prop := Bnd K fd ps p.1 p.2.1 p.2.2
section
variable {P : Program} {w : World} {K : PySem.W.Frag} {mg : Str → Option Value} {base : Heap}
/-- a def of the top, with the ways it is called -/
structure DefX (K : PySem.W.Frag) (mg : Str → Option Value) (x : Str) (st : Stmt) (ps : List Str) (pats : List Pat) : Prop where
  ex : ∃ (f : Addr) (fd : FuncData) (dvs : List V) (kws : List (Str × V)), FunD K x x (defArgs st) (defBody st) (defScope st) dvs kws f fd ∧ mg x = some (.ref f) ∧ ∀ p ∈ pats, Bnd1 K fd ps p
structure CalX (P : Program) (w : World) (K : PySem.W.Frag) (mg : Str → Option Value) (base : Heap) (k : Nat) (x : Str) (sp : Sp) (pats : List Pat) : Prop where
  ex : ∃ (f : Addr) (fd : FuncData) (ps : List Str), FnG P w K mg base (L2.CX P w) k f fd ps sp ∧ mg x = some (.ref f) ∧ PySem.W.keepIn K (.ref f) = true ∧ ∀ p ∈ pats, Bnd1 K fd ps p
abbrev BodyX (P : Program) (w : World) (K : PySem.W.Frag) (mg : Str → Option Value) (base : Heap) (x : Str) (st : Stmt) (N : List Str) (k : Nat) (sp : Sp) : Prop :=
  ∀ (f : Addr) (cdv : Value) (A : Around) (outer : List Env) (s : Shared) (H : Hp) (vs : List V) (Q : VK) (E : XK), RoomG k (A.deeper (envOfC x (defScope st) s.heap.objs.size f cdv)) → sp vs H Q E →
    ∃ t, PSs (cxOf (L2.CX P w) P w K mg base N x (defScope st) f cdv A outer s H E) (defBody st) t ∧ t { nx := fun _ H' => Q .non H', rt := Q } (start N vs) H
theorem DefX.ok {x : Str} {st : Stmt} {N ps : List Str} {pats : List Pat} {k : Nat} {sp : Sp} (D : DefX K mg x st ps pats) (S : FnScope N ps (defScope st)) (len : ∀ vs H Q E, sp vs H Q E → vs.length = ps.length)
    (hbody : BodyX P w K mg base x st N k sp) : CalX P w K mg base (k + 1) x sp pats := by
  obtain ⟨f, fd, dvs, kws, F, hm, b⟩ := D.ex
  exact ⟨f, fd, ps, FnG.body F S len (fun cdv A outer s H vs Q E hr h => hbody f cdv A outer s H vs Q E hr h), hm, F.kp, b⟩
end
section
variable {X : Cx} {k j n : Nat} {f : Addr} {fd : FuncData} {ps ks : List Str} {g : List V → List V → List V} {sp : Sp} {x : Str} {pos p : Pos} {e : Expr} {es : List Expr} {kws : List Keyword} {t tk : TA} {W : WX}
theorem run_X {pins : List (Addr × Obj)} {σ : L2.St} {H : Hp} {s : Shared} {Q : VK} {us ws : List Value} {vs zs : List V} (F : FnG X.prog X.w X.K X.mg X.base (L2.CX X.prog X.w) k f fd ps sp) (hr : RoomG k X.A) (hb : Bnd X.K fd ps n ks g) (tkW : Takes X W)
    (I : Inv X pins σ H s) (r : Vals vs us) (rz : Vals zs ws) (l1 : vs.length = n) (l2 : zs.length = ks.length) (h : sp (g vs zs) H Q (WE W σ)) :
    wpAny (model X.prog X.w) X.A (call (.ref f) us (ks.zip ws)) (EP X pins σ Q) X.xe s := by
  obtain ⟨vv, b, r2⟩ := hb.to s us ws vs zs I.kIn l1 l2 r rz
  refine wpAny_call (codeAny_mono (F.run X.A X.stack s H ⟨us, ks.zip ws⟩ vv (g vs zs) Q (WE W σ) hr I.env0 b r2 h) fun rr s' hq => ?_)
  cases rr with
  | error er => exact passAt tkW σ pins H s er s' I hq
  | ok fl =>
    cases fl with
    | ret u => exact I.after hq
    | next => exact hq.elim
    | brk => exact hq.elim
    | cont => exact hq.elim
/-- f(e, .., k = v, ..) -/
def tCallX (n m : Nat) (sp : Sp) (g : List V → List V → List V) (W : WX) (t tk : TA) : TE := fun σ H Q => t σ H fun vs H1 => tk σ H1 fun zs H2 => vs.length = n ∧ zs.length = m ∧ sp (g vs zs) H2 Q (WE W σ)
theorem vx_callX {pats : List Pat} (c : CalX X.prog X.w X.K X.mg X.base k x sp pats) (pt : Pat) (hpt : pt ∈ pats) (hr : RoomG j X.A) (hk : k ≤ j) (tkW : Takes X W) (hg : Gl X x) (ha : PA X (e :: es) t) (hkw : PK X kws tk)
    (hall : (backToKw pos (keywordEach kws X.env)).all (·.1.isSome) = true := by rfl) (hks : (backToKw pos (keywordEach kws X.env)).filterMap (·.1) = pt.2.1 := by rfl)
    (hdb : (x == ("__debug__" : Str)) = false := by decide) (he : starEach (e :: es) X.env = (false, eval e X.env) :: starEach es X.env := by rfl)
    (hpl : ((backTo pos (starEach (e :: es) X.env)).any (·.1) || (backToKw pos (keywordEach kws X.env)).any (·.1.isNone)) = false := by rfl) :
    PE X (.Call (.Name x p) (e :: es) kws pos) (tCallX pt.1 pt.2.1.length sp pt.2.2 W t tk) := by
  obtain ⟨f, fd, ps, F, hm, kp, b⟩ := c.ex
  refine ⟨fun pins s σ H Q I h => ?_⟩
  refine wpAny_Call_Name_kw (ld_glob I hg hm ?_ hdb)
  refine PySem.W.callWith_KW (h₀ := X.base) I.ok.mod.kin kp hall (thn (ha.run pos pins s σ H _ I h) fun us s1 ⟨vs, H1, I1, r, q⟩ => ?_) hpl he
  refine thn (hkw.run pos pins s1 σ H1 _ I1 q) fun ws s2 ⟨zs, H2, I2, rz, l1, l2, q2⟩ => ⟨I2.kIn, ?_⟩
  rw [hks]
  exact run_X F (hr.low hk) (b pt hpt) tkW I2 r rz l1 l2 q2
theorem vx_callX0 {pats : List Pat} (c : CalX X.prog X.w X.K X.mg X.base k x sp pats) (pt : Pat) (hpt : pt ∈ pats) (hr : RoomG j X.A) (hk : k ≤ j) (tkW : Takes X W) (hg : Gl X x) (hks : pt.2.1 = [] := by rfl)
    (hdb : (x == ("__debug__" : Str)) = false := by decide) : PE X (.Call (.Name x p) [] [] pos) (tCallX pt.1 pt.2.1.length sp pt.2.2 W tNil tNil) := by
  obtain ⟨f, fd, ps, F, hm, kp, b⟩ := c.ex
  refine ⟨fun pins s σ H Q I h => ?_⟩
  refine wpAny_Call_Name_kw (ld_glob I hg hm ?_ hdb)
  obtain ⟨l1, l2, q2⟩ := h
  have hz := run_X (us := []) (ws := []) F (hr.low hk) (b pt hpt) tkW I .nil .nil l1 l2 q2
  rw [hks] at hz
  exact PySem.W.callWith_K0 I.kIn kp hz
end
/-! ### borrowed things -/
theorem Sep.bM {M : List Addr} {H0 G0 G H : Hp} {O : List (Addr)} (S : Sep M H0 G0 G H O) : Same (hideL M H0) H := fun b o e => by
  by_cases h : b ∈ M
  · rw [hideL_in h] at e
    cases e
  · rw [hideL_out h] at e
    exact S.base b o e h
theorem b_ne {M : List Addr} {H0 G0 G H : Hp} {O : List Addr} {a b : Addr} {o : HO} (h : (hideL M H0) a = some o) (S : Sep M H0 G0 G H O) (hb : b ∈ O) : a ≠ b := fun z => by
  subst z
  rcases (S.ow a hb).2.2 with q | q
  · rw [hideL_in q] at h
    cases h
  · by_cases hM : a ∈ M
    · rw [hideL_in hM] at h
      cases h
    · rw [hideL_out hM, q] at h
      cases h
theorem hide0 {H : Hp} : hideL [] H = H := by
  funext b
  unfold hideL
  rw [if_neg List.not_mem_nil]
theorem hide_nil {H : Hp} {a : Addr} {o : HO} (h : H a = some o) : (hideL [] H) a = some o := by
  rw [hide0]
  exact h
theorem Rp.hide_nil {H : Hp} {v : V} {d : PyData} (h : Rp H v d) : Rp (hideL [] H) v d := by
  rw [hide0]
  exact h
theorem Sep.startM {M : List Addr} {G H : Hp} (e : Same G H) (hM : ∀ a ∈ M, H a ≠ none) (hG : ∀ a ∈ M, G a = none) : Sep M H G G H M :=
  ⟨fun _ _ e _ => e, hM, e, Same.refl _, fun _ _ e => e, fun a ha => ⟨hG a ha, hM a ha, .inl ha⟩⟩
theorem Sep.gno {M : List Addr} {H0 G0 G H : Hp} {O L : List Addr} (S : Sep M H0 G0 G H O) (h : ∀ a ∈ L, a ∈ O) : ∀ a ∈ L, G a = none := fun a ha => (S.ow a (h a ha)).1
theorem RpAll.ixD {α : Type} [Inhabited α] {f : α → PyData} {H : Hp} {vs : List V} {xs : List α} {k : Int} (r : RpAll H vs (xs.map f)) (h : -(xs.length : Int) ≤ k ∧ k < xs.length) : ∃ v, atI vs k = some v ∧ Rp H v (f (itD xs k)) := by
  obtain ⟨v, x, h1, h2, h3⟩ := RpAll.ix r h
  refine ⟨v, h1, ?_⟩
  unfold itD
  rw [h2]
  exact h3
theorem tru_all {α : Type} [DecidableEq α] {f : α → PyData} {H : Hp} {vs : List V} {xs : List α} (r : RpAll H vs (xs.map f)) : (!decide (xs = [])) = !vs.isEmpty := by
  have h := r.len
  rw [List.length_map] at h
  cases xs <;> cases vs <;> simp_all
theorem ix_nn {α : Type} {xs : List α} {k : Int} (h0 : 0 ≤ k) (h1 : k < xs.length) : -(xs.length : Int) ≤ k ∧ k < xs.length := ⟨by omega, h1⟩
theorem all_nilQ {α : Type} {P : α → Prop} : ∀ x ∈ ([] : List α), P x := fun x h => by cases h
theorem all_consQ {α : Type} {P : α → Prop} {a : α} {l : List α} (h : P a) (t : ∀ x ∈ l, P x) : ∀ x ∈ a :: l, P x := fun x hx => by
  rcases List.mem_cons.mp hx with rfl | hx
  · exact h
  · exact t x hx
theorem mem_one {a b : Nat} (h : a ∈ [b]) : a = b := by simpa using h
theorem mem_cons2 {a b : Nat} {l : List Nat} (h : a ∈ b :: l) : a = b ∨ a ∈ l := List.mem_cons.mp h
theorem len0 {α : Type} {l : List α} (h : l.length = 0) : l = [] := List.length_eq_zero_iff.mp h
theorem len1 {α : Type} {l : List α} (h : l.length = 1) : ∃ a, l = [a] := List.length_eq_one_iff.mp h
theorem len_s {α : Type} {l : List α} {n : Nat} (h : l.length = n + 1) : ∃ a r, l = a :: r ∧ r.length = n := by
  cases l with
  | nil => cases h
  | cons a r => exact ⟨a, r, rfl, Nat.succ.inj h⟩
theorem len2 {α : Type} {l : List α} (h : l.length = 2) : ∃ a b, l = [a, b] := by
  obtain ⟨a, r, rfl, h2⟩ := len_s h
  obtain ⟨b, rfl⟩ := len1 h2
  exact ⟨a, b, rfl⟩
theorem len3 {α : Type} {l : List α} (h : l.length = 3) : ∃ a b c, l = [a, b, c] := by
  obtain ⟨a, r, rfl, h2⟩ := len_s h
  obtain ⟨b, c, rfl⟩ := len2 h2
  exact ⟨a, b, c, rfl⟩
theorem len4 {α : Type} {l : List α} (h : l.length = 4) : ∃ a b c d, l = [a, b, c, d] := by
  obtain ⟨a, r, rfl, h2⟩ := len_s h
  obtain ⟨b, c, d, rfl⟩ := len3 h2
  exact ⟨a, b, c, d, rfl⟩
theorem len5 {α : Type} {l : List α} (h : l.length = 5) : ∃ a b c d e, l = [a, b, c, d, e] := by
  obtain ⟨a, r, rfl, h2⟩ := len_s h
  obtain ⟨b, c, d, e, rfl⟩ := len4 h2
  exact ⟨a, b, c, d, e, rfl⟩
theorem len6 {α : Type} {l : List α} (h : l.length = 6) : ∃ a b c d e f, l = [a, b, c, d, e, f] := by
  obtain ⟨a, r, rfl, h2⟩ := len_s h
  obtain ⟨b, c, d, e, f, rfl⟩ := len5 h2
  exact ⟨a, b, c, d, e, f, rfl⟩
theorem len7 {α : Type} {l : List α} (h : l.length = 7) : ∃ a b c d e f g, l = [a, b, c, d, e, f, g] := by
  obtain ⟨a, r, rfl, h2⟩ := len_s h
  obtain ⟨b, c, d, e, f, g, rfl⟩ := len6 h2
  exact ⟨a, b, c, d, e, f, g, rfl⟩
def rLenTK (K : PySem.W.Frag) : List V → Hp → VK → Prop := fun xs H Q => ∃ (p : Addr) (vs : List V) (n : Nat), xs = [.ref p] ∧ SqT K H p vs ∧ vs.length = n ∧ Q (.int (n : Int)) H
theorem call_lenTK {X : Cx} {K : PySem.W.Frag} (hK : X.K = K := by rfl) : CallR X (.builtin "len") (rLenTK K) := by
  subst hK
  intro pins s σ H xs us Q I r h
  obtain ⟨p, vs, n, rfl, hs, hn, q⟩ := h
  exact call_len_seq pins s σ H _ us Q I r ⟨p, _, rfl, Or.inr hs, by rw [hn]; exact q⟩
theorem exm_mk {K : PySem.W.Frag} {S C : Addr} (h1 : PySem.W.subIn K (.ref C) (.type "BaseException") = some true) (h2 : PySem.W.isClsIn K C = true) (h3 : PySem.W.typeIn K (.ref C) = some (.type "type")) (h4 : PySem.W.subIn K (.ref S) (.ref C) = some true) :
    PySem.W.exmOne K (.ref S) (.ref C) = some true := by
  unfold PySem.W.isClsIn at h2
  unfold PySem.W.exmOne
  unfold PySem.W.kitCls
  simp only [h1, h2, h3, h4, beq_self_eq_true, Bool.and_self, if_true]
theorem kit_mk {K : PySem.W.Frag} {S C : Addr} (h2 : PySem.W.isClsIn K C = true) (h3 : PySem.W.typeIn K (.ref C) = some (.type "type")) (h4 : PySem.W.subIn K (.ref S) (.ref C) = some true) :
    PySem.W.kitOne K (.ref S) (.ref C) = some true := by
  unfold PySem.W.isClsIn at h2
  unfold PySem.W.kitOne
  split
  · rfl
  · unfold PySem.W.kitCls
    simp only [h2, h3, h4, beq_self_eq_true, Bool.and_self, if_true]
/-- isinstance(e, C) of the exception in hand -/
def rIsX (K : PySem.W.Frag) (a : Addr) (cls : Value) (d : Option Addr) : List V → Hp → VK → Prop := fun xs H Q => ∃ (D C : Addr) (b : Bool), cls = .ref D ∧ d = none ∧ ExcC K D ∧ xs = [.ref a, .ref C] ∧ PySem.W.kitOne K (.ref D) (.ref C) = some b ∧ Q (.bl b) H
theorem call_isX {X : Cx} {K : PySem.W.Frag} {a : Addr} {cls : Value} {d : Option Addr} {oe : Obj} {pn : List (Addr × Obj)} (hz : Zc cls d oe) (hf : ∃ vs, oe.data = .fields vs) (hK : X.K = K := by rfl) : CallR (X.suite a ((a, oe) :: pn)) (.builtin "isinstance") (rIsX K a cls d) := by
  subst hK
  intro pins s σ H xs us Q I r h
  obtain ⟨D, C, b, rfl, rfl, c, rfl, e, q⟩ := h
  exact call_isE c hz hf pins s σ H _ us Q I r ⟨_, _, b, rfl, fun u z => z, e, q⟩
/-! ### unpacking a list -/
section
variable {X : Cx} {K : PySem.W.Frag} {pos : Pos}
theorem pg_seqK {es : List Expr} {k : Nat} {t : TGs} {n : Nat} (h : PGs X es t) (hc : X.calm = true := by rfl) (hK : X.K = K := by rfl)
    (hn : (assignEach es X.env).length = n := by rfl) (hst : (assignEach es X.env).findIdx? (·.1) = none := by rfl) : PG X (.Tuple es k pos) (gLst K n t) := hK ▸ pg_lst hc h hn hst
end
theorem SqL.cast {K : PySem.W.Frag} {H : Hp} {a : Addr} {xs ys : List V} (h : SqL K H a xs) (e : xs = ys) : SqL K H a ys := e ▸ h
section
variable {α : Type} [Inhabited α] {f : α → V}
theorem unp2 {xs : List α} (h : xs.length = 2) : xs.map f = [f (itD xs 0), f (itD xs 1)] := by
  obtain ⟨a, b, rfl⟩ := len2 h
  rfl
theorem unp3 {xs : List α} (h : xs.length = 3) : xs.map f = [f (itD xs 0), f (itD xs 1), f (itD xs 2)] := by
  obtain ⟨a, b, c, rfl⟩ := len3 h
  rfl
theorem unp4 {xs : List α} (h : xs.length = 4) : xs.map f = [f (itD xs 0), f (itD xs 1), f (itD xs 2), f (itD xs 3)] := by
  obtain ⟨a, b, c, d, rfl⟩ := len4 h
  rfl
theorem unp6 {xs : List α} (h : xs.length = 6) : xs.map f = [f (itD xs 0), f (itD xs 1), f (itD xs 2), f (itD xs 3), f (itD xs 4), f (itD xs 5)] := by
  obtain ⟨a, b, c, d, e, g, rfl⟩ := len6 h
  rfl
theorem unp8 {xs : List α} (h : xs.length = 8) : xs.map f = [f (itD xs 0), f (itD xs 1), f (itD xs 2), f (itD xs 3), f (itD xs 4), f (itD xs 5), f (itD xs 6), f (itD xs 7)] := by
  obtain ⟨a, r, rfl, h2⟩ := len_s h
  obtain ⟨b, c, d, e, g, i, j, rfl⟩ := len7 h2
  rfl
end
/-! ### classes -/
section
variable {P : Program} {w : World} {K : PySem.W.Frag} {mg : Str → Option Value} {base : Heap}
structure MethX (K : PySem.W.Frag) (C : Addr) (q m : Str) (st : Stmt) (ps : List Str) (pats : List Pat) : Prop where
  ex : ∃ (f : Addr) (fd : FuncData) (dvs : List V) (kws : List (Str × V)), FunD K m q (defArgs st) (defBody st) (defScope st) dvs kws f fd ∧ Meth K C m f ∧ ∀ p ∈ pats, Bnd1 K fd ps p
structure InitX (K : PySem.W.Frag) (mg : Str → Option Value) (C : Addr) (cn q : Str) (st : Stmt) (ps : List Str) (pats : List Pat) : Prop where
  ex : ∃ (f : Addr) (fd : FuncData) (dvs : List V) (kws : List (Str × V)), FunD K "__init__" q (defArgs st) (defBody st) (defScope st) dvs kws f fd ∧ Mk K C f ∧ mg cn = some (.ref C) ∧ ∀ p ∈ pats, Bnd1 K fd ps p
structure PropX (K : PySem.W.Frag) (C : Addr) (q m : Str) (st : Stmt) (ps : List Str) (pats : List Pat) : Prop where
  ex : ∃ (r f : Addr) (fd : FuncData) (dvs : List V) (kws : List (Str × V)), FunD K m q (defArgs st) (defBody st) (defScope st) dvs kws f fd ∧ PropOf K C m r f ∧ Binds K fd ps []
structure MetX (P : Program) (w : World) (K : PySem.W.Frag) (mg : Str → Option Value) (base : Heap) (k : Nat) (C : Addr) (m : Str) (sp : Sp) (pats : List Pat) : Prop where
  ex : ∃ (f : Addr) (fd : FuncData) (ps : List Str), Cls K C ∧ Meth K C m f ∧ FnG P w K mg base (L2.CX P w) k f fd ps sp ∧ ∀ p ∈ pats, Bnd1 K fd ps p
structure PropY (P : Program) (w : World) (K : PySem.W.Frag) (mg : Str → Option Value) (base : Heap) (k : Nat) (C : Addr) (m : Str) (sp : Sp) (pats : List Pat) : Prop where
  ex : ∃ (q f : Addr) (fd : FuncData) (ps : List Str), Cls K C ∧ PropOf K C m q f ∧ FnG P w K mg base (L2.CX P w) k f fd ps sp ∧ Binds K fd ps []
structure MakX (P : Program) (w : World) (K : PySem.W.Frag) (mg : Str → Option Value) (base : Heap) (k : Nat) (cn : Str) (C : Addr) (sp : Sp) (pats : List Pat) : Prop where
  ex : ∃ (f : Addr) (fd : FuncData) (ps : List Str), Mk K C f ∧ FnG P w K mg base (L2.CX P w) k f fd ps sp ∧ mg cn = some (.ref C) ∧ ∀ p ∈ pats, Bnd1 K fd ps p
theorem MethX.ok {C : Addr} {q m : Str} {st : Stmt} {N ps : List Str} {pats : List Pat} {k : Nat} {sp : Sp} (D : MethX K C q m st ps pats) (c : Cls K C) (S : FnScope N ps (defScope st)) (len : ∀ vs H Q E, sp vs H Q E → vs.length = ps.length)
    (hbody : BodyX P w K mg base q st N k sp) : MetX P w K mg base (k + 1) C m sp pats := by
  obtain ⟨f, fd, dvs, kws, F, me, b⟩ := D.ex
  exact ⟨f, fd, ps, c, me, FnG.body F S len (fun cdv A outer s H vs Q E hr h => hbody f cdv A outer s H vs Q E hr h), b⟩
theorem PropX.ok {C : Addr} {q m : Str} {st : Stmt} {N ps : List Str} {pats : List Pat} {k : Nat} {sp : Sp} (D : PropX K C q m st ps pats) (c : Cls K C) (S : FnScope N ps (defScope st)) (len : ∀ vs H Q E, sp vs H Q E → vs.length = ps.length)
    (hbody : BodyX P w K mg base q st N k sp) : PropY P w K mg base (k + 1) C m sp pats := by
  obtain ⟨r, f, fd, dvs, kws, F, me, b⟩ := D.ex
  exact ⟨r, f, fd, ps, c, me, FnG.body F S len (fun cdv A outer s H vs Q E hr h => hbody f cdv A outer s H vs Q E hr h), b⟩
theorem InitX.ok {C : Addr} {cn q : Str} {st : Stmt} {N ps : List Str} {pats : List Pat} {k : Nat} {sp : Sp} (D : InitX K mg C cn q st ps pats) (S : FnScope N ps (defScope st)) (len : ∀ vs H Q E, sp vs H Q E → vs.length = ps.length)
    (hbody : BodyX P w K mg base q st N k sp) : MakX P w K mg base (k + 1) cn C sp pats := by
  obtain ⟨f, fd, dvs, kws, F, me, hm, b⟩ := D.ex
  exact ⟨f, fd, ps, me, FnG.body F S len (fun cdv A outer s H vs Q E hr h => hbody f cdv A outer s H vs Q E hr h), hm, b⟩
end
theorem cW_callN {α β : Type} {m : Rx β} {f : β → Rx α} {K : α → Prop} {E : Nat → Prop} {K2 : β → Prop} {E2 : Nat → Prop} (h : cW ((noEr m).bind f) K E) (ho : ∀ v, cW (f v) K E → K2 v) (_ : True) : cW m K2 E2 := by
  cases m with
  | ok a => exact cW_mk (ho a h)
  | er e => exact cW_bad (α := α) h
  | bad => exact cW_bad (α := α) h
section
variable {X : Cx} {k j n : Nat} {f C : Addr} {fd : FuncData} {ps ks : List Str} {g : List V → List V → List V} {sp : Sp} {x m : Str} {pos p apos : Pos} {e o : Expr} {es : List Expr} {kws : List Keyword} {ta : TE} {t tk : TA} {W : WX}
theorem run_mkX {pins : List (Addr × Obj)} {σ : L2.St} {H : Hp} {s : Shared} {Q : VK} {us ws : List Value} {vs zs : List V} (M : Mk X.K C f) (F : FnG X.prog X.w X.K X.mg X.base (L2.CX X.prog X.w) k f fd ps sp) (hr : RoomG (k + 1) X.A) (hb : Bnd X.K fd ps n ks g) (tkW : Takes X W)
    (I : Inv X pins σ H s) (r : Vals vs us) (rz : Vals zs ws) (l1 : vs.length + 1 = n) (l2 : zs.length = ks.length)
    (h : ∀ x dx, H x = none → H dx = none → dx ≠ x → sp (g (.ref x :: vs) zs) (upd (upd H dx (.own x)) x (.ins C dx [])) (fun v H2 => v = .non ∧ Q (.ref x) H2) (WE W σ)) :
    wpAny (model X.prog X.w) X.A (call (.ref C) us (ks.zip ws)) (EP X pins σ Q) X.xe s := by
  have hq := h (s.heap.objs.size + 1) s.heap.objs.size (I.hok.fresh (Nat.le_succ _)) (I.hok.fresh (Nat.le_refl _)) (Nat.ne_of_lt (Nat.lt_succ_self _))
  have I2 := Inv.made (C := C) I
  have r1 : Vals (V.ref (s.heap.objs.size + 1) :: vs) (Value.ref (s.heap.objs.size + 1) :: us) := .cons rfl r
  obtain ⟨vv, b, r2⟩ := hb.to _ (Value.ref (s.heap.objs.size + 1) :: us) ws (V.ref (s.heap.objs.size + 1) :: vs) zs I2.kIn (by rw [List.length_cons, l1]) l2 r1 rz
  refine wpAny_call (make_map (f := f) I.kIn M.makes M.init (beq_iff_eq.mp M.fn) (codeAny_mono (F.run _ X.stack _ _ ⟨Value.ref (s.heap.objs.size + 1) :: us, ks.zip ws⟩ vv _ _ (WE W σ) (hr.made C us (ks.zip ws))
    (I2.env0.make C us (ks.zip ws)) b r2 hq) fun r s' hq' => ?_))
  cases r with
  | error e => exact passAt tkW σ pins _ _ e s' I2 hq'
  | ok fl =>
    cases fl with
    | ret u =>
      obtain ⟨v, H', I3, rv, ev, q3⟩ := I2.after hq'
      subst ev
      exact ⟨rv, ⟨V.ref (s.heap.objs.size + 1), H', I3, rfl, q3⟩⟩
    | next => exact False.elim hq'
    | brk => exact False.elim hq'
    | cont => exact False.elim hq'
/-- C(e, .., k = v, ..) -/
def tMakeX (C : Addr) (n m : Nat) (sp : Sp) (g : List V → List V → List V) (W : WX) (t tk : TA) : TE := fun σ H Q => t σ H fun vs H1 => tk σ H1 fun zs H2 => vs.length + 1 = n ∧ zs.length = m ∧ ∀ x dx, H2 x = none → H2 dx = none → dx ≠ x →
  sp (g (.ref x :: vs) zs) (upd (upd H2 dx (.own x)) x (.ins C dx [])) (fun v H3 => v = .non ∧ Q (.ref x) H3) (WE W σ)
theorem vx_makeX {pats : List Pat} (c : MakX X.prog X.w X.K X.mg X.base k x C sp pats) (pt : Pat) (hpt : pt ∈ pats) (hr : RoomG j X.A) (hk : k + 1 ≤ j) (tkW : Takes X W) (hg : Gl X x) (ha : PA X (e :: es) t) (hkw : PK X kws tk)
    (hall : (backToKw pos (keywordEach kws X.env)).all (·.1.isSome) = true := by rfl) (hks : (backToKw pos (keywordEach kws X.env)).filterMap (·.1) = pt.2.1 := by rfl) (hdb : (x == ("__debug__" : Str)) = false := by decide)
    (he : starEach (e :: es) X.env = (false, eval e X.env) :: starEach es X.env := by rfl) (hpl : ((backTo pos (starEach (e :: es) X.env)).any (·.1) || (backToKw pos (keywordEach kws X.env)).any (·.1.isNone)) = false := by rfl) :
    PE X (.Call (.Name x p) (e :: es) kws pos) (tMakeX C pt.1 pt.2.1.length sp pt.2.2 W t tk) := by
  obtain ⟨f, fd, ps, M, F, hm, b⟩ := c.ex
  refine ⟨fun pins s σ H Q I h => ?_⟩
  refine wpAny_Call_Name_kw (ld_glob I hg hm ?_ hdb)
  refine PySem.W.callWith_KW (h₀ := X.base) I.ok.mod.kin M.kp hall (thn (ha.run pos pins s σ H _ I h) fun us s1 ⟨vs, H1, I1, r, q⟩ => ?_) hpl he
  refine thn (hkw.run pos pins s1 σ H1 _ I1 q) fun ws s2 ⟨zs, H2, I2, rz, l1, l2, q2⟩ => ⟨I2.kIn, ?_⟩
  rw [hks]
  exact run_mkX M F (hr.low hk) (b pt hpt) tkW I2 r rz l1 l2 q2
theorem vx_makeX0 {pats : List Pat} (c : MakX X.prog X.w X.K X.mg X.base k x C sp pats) (pt : Pat) (hpt : pt ∈ pats) (hr : RoomG j X.A) (hk : k + 1 ≤ j) (tkW : Takes X W) (hg : Gl X x) (hks : pt.2.1 = [] := by rfl)
    (hdb : (x == ("__debug__" : Str)) = false := by decide) : PE X (.Call (.Name x p) [] [] pos) (tMakeX C pt.1 pt.2.1.length sp pt.2.2 W tNil tNil) := by
  obtain ⟨f, fd, ps, M, F, hm, b⟩ := c.ex
  refine ⟨fun pins s σ H Q I h => ?_⟩
  refine wpAny_Call_Name_kw (ld_glob I hg hm ?_ hdb)
  obtain ⟨l1, l2, q2⟩ := h
  have hz := run_mkX (us := []) (ws := []) M F (hr.low hk) (b pt hpt) tkW I .nil .nil l1 l2 q2
  rw [hks] at hz
  exact PySem.W.callWith_K0 I.kIn M.kp hz
/-- o.m(e, .., k = v, ..) -/
def tMethX (C : Addr) (m : Str) (n mm : Nat) (sp : Sp) (g : List V → List V → List V) (W : WX) (ta : TE) (t tk : TA) : TE := fun σ H Q => ta σ H fun x H1 => ∃ a dx fs, x = .ref a ∧ H1 a = some (.ins C dx fs) ∧ fs.lookup m = none ∧
  t σ H1 fun vs H2 => tk σ H2 fun zs H3 => (x :: vs).length = n ∧ zs.length = mm ∧ sp (g (x :: vs) zs) H3 Q (WE W σ)
theorem vx_methX {pats : List Pat} {pl : Sem Bool} (c : MetX X.prog X.w X.K X.mg X.base k C m sp pats) (pt : Pat) (hpt : pt ∈ pats) (hr : RoomG j X.A) (hk : k ≤ j) (tkW : Takes X W) (he : PE X o ta) (ha : PA X (e :: es) t) (hkw : PK X kws tk)
    (hall : (backToKw pos (keywordEach kws X.env)).all (·.1.isSome) = true := by rfl) (hks : (backToKw pos (keywordEach kws X.env)).filterMap (·.1) = pt.2.1 := by rfl)
    (hst : starEach (e :: es) X.env = (false, eval e X.env) :: starEach es X.env := by rfl) (hpl : ((backTo pos (starEach (e :: es) X.env)).any (·.1) || (backToKw pos (keywordEach kws X.env)).any (·.1.isNone)) = false := by rfl)
    (ht : eval (.Call (.Attribute o m apos) (e :: es) kws pos) X.env = (do
      let ov ← eval o X.env
      standAt apos.atName
      let (f, first) ← holding [ov] (getMethod ov m pl)
      callWith pos f first (backTo pos (starEach (e :: es) X.env)) (backToKw pos (keywordEach kws X.env))) := by rfl) :
    PE X (.Call (.Attribute o m apos) (e :: es) kws pos) (tMethX C m pt.1 pt.2.1.length sp pt.2.2 W ta t tk) := by
  obtain ⟨f, fd, ps, hc, hm, F, b⟩ := c.ex
  refine ⟨fun pins s σ H Q I h => ?_⟩
  refine PySem.W.methodCall_KW (pl := pl) (thn (he.run pins s σ H _ I h) fun u s1 ⟨x, H1, I1, rx, a, dx, fs, ex, ea, l, q⟩ => ?_) ht
  subst ex
  obtain rfl : u = Value.ref a := rx
  refine getmeth_ok I1 ea hc hm l ?_
  refine PySem.W.callWith_KW (first := [.ref a]) (h₀ := X.base) I.ok.mod.kin hm.kp hall (thn (ha.run pos pins s1 σ H1 _ I1 q) fun us s2 ⟨vs, H2, I2, r, q2⟩ => ?_) hpl hst
  refine thn (hkw.run pos pins s2 σ H2 _ I2 q2) fun ws s3 ⟨zs, H3, I3, rz, l1, l2, q3⟩ => ⟨I3.kIn, ?_⟩
  rw [hks]
  exact run_X (us := .ref a :: us) (vs := .ref a :: vs) F (hr.low hk) (b pt hpt) tkW I3 (.cons rfl r) rz l1 l2 q3
theorem vx_methX0 {pats : List Pat} {pl : Sem Bool} (c : MetX X.prog X.w X.K X.mg X.base k C m sp pats) (pt : Pat) (hpt : pt ∈ pats) (hr : RoomG j X.A) (hk : k ≤ j) (tkW : Takes X W) (he : PE X o ta) (hks : pt.2.1 = [] := by rfl)
    (ht : eval (.Call (.Attribute o m apos) [] [] pos) X.env = (do
      let ov ← eval o X.env
      standAt apos.atName
      let (f, first) ← holding [ov] (getMethod ov m pl)
      callWith pos f first (backTo pos (starEach [] X.env)) (backToKw pos (keywordEach [] X.env))) := by rfl) :
    PE X (.Call (.Attribute o m apos) [] [] pos) (tMethX C m pt.1 pt.2.1.length sp pt.2.2 W ta tNil tNil) := by
  obtain ⟨f, fd, ps, hc, hm, F, b⟩ := c.ex
  refine ⟨fun pins s σ H Q I h => ?_⟩
  refine PySem.W.methodCall_KW (pl := pl) (thn (he.run pins s σ H _ I h) fun u s1 ⟨x, H1, I1, rx, a, dx, fs, ex, ea, l, q⟩ => ?_) ht
  subst ex
  obtain rfl : u = Value.ref a := rx
  refine getmeth_ok I1 ea hc hm l ?_
  obtain ⟨l1, l2, q3⟩ := q
  have hz := run_X (us := [.ref a]) (vs := [.ref a]) (ws := []) F (hr.low hk) (b pt hpt) tkW I1 (.cons rfl .nil) .nil l1 l2 q3
  rw [hks] at hz
  exact PySem.W.callWith_K0 (first := [.ref a]) I1.kIn hm.kp hz
theorem vx_propX {pats : List Pat} (c : PropY X.prog X.w X.K X.mg X.base k C m sp pats) (hr : RoomG j X.A) (hk : k + 1 ≤ j) (he : PE X o ta) (hab : attributeBase o m X.env (eval o X.env) = eval o X.env := by rfl) : PE X (.Attribute o m pos) (tProp C sp [] E0 ta) := by
  obtain ⟨q, f, fd, ps, cls, prop, F, bind⟩ := c.ex
  constructor
  intro pins s σ H Q I h
  refine attr_of hab (thn (he.run pins s σ H _ I h) ?_)
  rintro u s1 ⟨x, H1, I1, rx, a, dx, fs, rfl, ea, prom⟩
  cases rx
  obtain ⟨mA, O, _⟩ := ins_get I1.hok ea
  obtain ⟨od, J, _⟩ := O.look
  obtain ⟨rest, rec_⟩ := prop.rec_
  have short : [Value.ref a].length = ps.length := (F.len _ _ _ _ prom).symm ▸ rfl
  have isCls : (PySem.W.clsIn X.K C).isSome = true := by
    obtain ⟨cd, e, _⟩ := PySem.W.any_some cls.hd
    rw [e]
    rfl
  refine PySem.W.get_bind I1.kIn J (PySem.W.plainGet_of (cls.get m)).1 (PySem.W.findObj_data isCls prop.at_ prop.get prop.tak) (PySem.W.plainGet_of (cls.get m)).2 (wpAny_call (PySem.W.prop_get (s := { s1 with toks := s1.toks + 1 }) I1.kIn rec_ ?_))
  have I2 := I1.tok (s1.toks + 1)
  refine codeAny_mono (F.run X.A.in1 X.stack _ H1 ⟨[.ref a], []⟩ [.ref a] [.ref a] Q E0 (hr.low hk).one I2.env0.in1 (by simpa using bind _ [.ref a] I2.kIn (by simpa using short)) (.cons rfl .nil) prom) ?_
  intro r s2 out
  cases r with
  | error er => exact (passL (X := X.nox) pins σ H1 _ er s2 (I2.wish _) out).elim
  | ok flow =>
    cases flow with
    | ret v =>
      obtain ⟨y, H2, I3, ry, qy⟩ := I2.after out
      have given := PySem.W.handedOut_of (handed_of ry)
      show wpAny _ _ (handedOut v) _ _ s2
      rw [given]
      exact wpAny_pure ⟨y, H2, I3, ry, qy⟩
    | next => exact out.elim
    | brk => exact out.elim
    | cont => exact out.elim
end
theorem Sep.news {M : List Addr} {H0 G0 G H H' : Hp} {O : List Addr} (S : Sep M H0 G0 G H O) (e : Same H H') (L : List Addr) (hL : ∀ a ∈ L, H a = none ∧ H' a ≠ none ∧ H0 a = none) : Sep M H0 G0 G H' (L ++ O) := by
  have S2 := S.same e
  refine ⟨S2.base, S2.pm, S2.sG, S2.g0, S2.gn, fun a ha => ?_⟩
  rcases List.mem_append.mp ha with h | h
  · obtain ⟨h1, h2, h3⟩ := hL a h
    exact ⟨S.gfree h1, h2, .inr h3⟩
  · exact S2.ow a h
theorem vv_chain {r r' : R2} {ta tb tc : TE} {σ : L2.St} {H : Hp} {x y z : V} {a b : Bool} (ha : Val ta σ H x) (hb : Val tb σ H y) (hc : Val tc σ H z) (h1 : ∀ Q : VK, Q (.bl a) H → r x y H Q) (h2 : ∀ Q : VK, Q (.bl b) H → r' y z H Q) :
    Val (tChain r r' ta tb tc) σ H (.bl (a && b)) := fun Q q => ha _ (hb _ (h1 _ ⟨a, rfl, by
  cases a with
  | true =>
    rw [if_pos rfl]
    exact hc _ (h2 _ q)
  | false =>
    rw [if_neg Bool.false_ne_true]
    exact q⟩))
/-! ### constants that are tuples, lists backwards, zip -/
theorem inV_ints (x : Int) : ∀ xs : List Int, inV (V.int x) (xs.map V.int) = decide (x ∈ xs)
  | [] => by simp [inV]
  | y :: r => by
    have h := inV_ints x r
    unfold inV at h ⊢
    rw [List.map_cons, List.any_cons, h]
    by_cases c : x = y
    · subst c
      simp [eqV]
    · simp [eqV, c, Ne.symm c]
theorem flat_ints : ∀ xs : List Int, (xs.map V.int).all flatV = true
  | [] => rfl
  | _ :: r => flat_ints r
def rInI (K : PySem.W.Frag) : R2 := fun x y H Q => ∃ (i : Int) (p : Addr) (xs : List Int), x = .int i ∧ y = .ref p ∧ (SqL K H p (xs.map V.int) ∨ SqT K H p (xs.map V.int)) ∧ Q (.bl (decide (i ∈ xs))) H
def rNotInI (K : PySem.W.Frag) : R2 := fun x y H Q => ∃ (i : Int) (p : Addr) (xs : List Int), x = .int i ∧ y = .ref p ∧ (SqL K H p (xs.map V.int) ∨ SqT K H p (xs.map V.int)) ∧ Q (.bl (!decide (i ∈ xs))) H
theorem op_inI {X : Cx} {K : PySem.W.Frag} (hK : X.K = K := by rfl) : OpR X (compareOp .In) (rInI K) := by
  subst hK
  intro pins s σ H x y v u Q I rx ry h
  obtain ⟨i, p, xs, rfl, rfl, hs, q⟩ := h
  refine op_in_seq pins s σ H _ _ v u Q I rx ry ⟨p, _, rfl, hs, rfl, flat_ints xs, ?_⟩
  rw [if_neg Bool.false_ne_true, inV_ints]
  exact q
theorem op_notInI {X : Cx} {K : PySem.W.Frag} (hK : X.K = K := by rfl) : OpR X (compareOp .NotIn) (rNotInI K) := by
  subst hK
  intro pins s σ H x y v u Q I rx ry h
  obtain ⟨i, p, xs, rfl, rfl, hs, q⟩ := h
  refine op_notIn_seq pins s σ H _ _ v u Q I rx ry ⟨p, _, rfl, hs, rfl, flat_ints xs, ?_⟩
  rw [if_pos rfl, inV_ints]
  exact q
theorem pe_revLK {X : Cx} {K : PySem.W.Frag} {e : Expr} {te : TE} {k : Nat} {p1 p2 p3 pos : Pos} (he : PE X e te) (hK : X.K = K := by rfl) : PE X (.Subscript e (.Slice none none (some (.UnaryOp .USub (.Constant (.int 1) k p1) p2)) p3) pos) (tRevL K te) := hK ▸ pe_revL he
theorem rev_map {α : Type} {f : α → V} {xs : List α} {H : Hp} {p : Addr} (h : H p = some (.lst (xs.map f).reverse)) : H p = some (.lst (xs.reverse.map f)) := by
  rw [List.map_reverse]
  exact h
theorem RpAll.rev {G : Hp} : ∀ {vs : List V} {ds : List PyData}, RpAll G vs ds → RpAll G vs.reverse ds.reverse
  | _, _, .nil => .nil
  | _, _, .cons h t => by
    rw [List.reverse_cons, List.reverse_cons]
    exact (RpAll.rev t).append (.one h)
theorem rev_all {α : Type} {f : α → PyData} {xs : List α} {G : Hp} {vs : List V} (a : RpAll G vs (xs.map f)) : RpAll G vs.reverse (xs.reverse.map f) := by
  rw [List.map_reverse]
  exact a.rev
theorem pi_zipK {X : Cx} {K : PySem.W.Frag} {e e2 : Expr} {ta : TA} {p pos tpos : Pos} {elts : List Expr} {kk : Nat} (hg : Gl X "zip") (hm : X.mg "zip" = none) (ha : PA X [e, e2] ta) (hK : X.K = K := by rfl)
    (hs : starEach [e, e2] X.env = (false, eval e X.env) :: starEach [e2] X.env := by rfl) (hpl : (backTo pos (starEach [e2] X.env)).any (·.1) = false := by rfl) :
    PI X (.Tuple elts kk tpos) (.Call (.Name "zip" p) [e, e2] [] pos) (RZ.iZipA K ta) := hK ▸ RZ.pi_zipA hg hm ha hs hpl
/-- a comprehension over zip of two lists of one length -/
theorem lc_zipL {K : PySem.W.Frag} {a b : Addr} {xs ys : List V} {g : TG} {tt : TT} {te : TE} {vs : List Nat} {σ : L2.St} {H1 : Hp} {D : Addr} {Qd : Hp → Prop} (hl : xs.length = ys.length) (Pv : Nat → Hp → Prop) (h0 : Pv 0 (upd H1 D (.lst []))) (hq : ∀ i H, i ≤ xs.length → Pv i H → SqL K H a xs ∧ SqL K H b ys)
    (hs : ∀ (i : Nat) (x y : V) (T : Addr) (H : Hp), xs[i]? = some x → ys[i]? = some y → H T = none → Pv i H → g (.ref T) (wipe σ vs) (upd H T (.tup [x, y])) fun σ2 H2 => wipe σ2 vs = wipe σ vs ∧ tt σ2 H2 fun b H3 =>
      if b = true then te σ2 H3 fun y H4 => ∃ acc, H4 D = some (.lst acc) ∧ acc.length < sizeLine ∧ Pv (i + 1) (upd H4 D (.lst (acc ++ [y]))) else Pv (i + 1) H3) (hd : ∀ H, Pv xs.length H → Qd H) :
    ∃ W : Nat → Nat → Hp → Prop, (∃ m, W 0 m (upd H1 D (.lst []))) ∧ ∀ i m H, W i m H →
      ((Itz K a b).stop i H ∧ Qd H) ∨ ((Itz K a b).go i H ∧ ∃ Nx : Hp → Prop, (∀ H', Nx H' → ∃ m', m' < m ∧ W (i + 1) m' H') ∧ ∀ x H', (Itz K a b).yld i H x H' → g x (wipe σ vs) H' fun σ2 H2 => wipe σ2 vs = wipe σ vs ∧ tt σ2 H2 fun b H3 =>
        if b = true then te σ2 H3 fun y H4 => ∃ acc, H4 D = some (.lst acc) ∧ acc.length < sizeLine ∧ Nx (upd H4 D (.lst (acc ++ [y]))) else Nx H3) := by
  refine ⟨fun i m H => m = xs.length - i ∧ i ≤ xs.length ∧ Pv i H, ⟨xs.length, by simp, Nat.zero_le _, h0⟩, ?_⟩
  rintro i m H ⟨rfl, hi, p⟩
  obtain ⟨qx, qy⟩ := hq i H hi p
  by_cases hlt : i < xs.length
  · have hlt2 : i < ys.length := by omega
    refine .inr ⟨⟨xs, ys, xs[i], ys[i], qx, qy, List.getElem?_eq_getElem hlt, List.getElem?_eq_getElem hlt2⟩, Pv (i + 1), fun H' p' => ⟨xs.length - (i + 1), by omega, rfl, hlt, p'⟩, fun v H' y => ?_⟩
    obtain ⟨T, x', y', rfl, hT, rfl, f1, f2⟩ := y
    exact hs i x' y' T H (f1 xs qx) (f2 ys qy) hT p
  · have e : i = xs.length := by omega
    subst e
    exact .inl ⟨⟨xs, ys, qx, qy, Or.inl (Nat.le_refl _)⟩, hd H p⟩
theorem zip_get {α β : Type} {xs : List α} {ys : List β} {i : Nat} {x : α} {y : β} (h1 : xs[i]? = some x) (h2 : ys[i]? = some y) : (xs.zip ys)[i]? = some (x, y) := by
  rw [List.getElem?_zip_eq_some]
  exact ⟨h1, h2⟩
theorem zip_len {α β : Type} {xs : List α} {ys : List β} {n : Nat} (h : xs.length = ys.length) (e : n = xs.length) : n = (xs.zip ys).length := by
  rw [List.length_zip, ← h, Nat.min_self]
  exact e
theorem zlen {α β : Type} {vs ws : List V} {xs : List α} {ys : List β} (a : vs.length = xs.length) (b : ws.length = ys.length) (h : xs.length = ys.length) : vs.length = ws.length := by rw [a, b, h]
section
variable {t : TT} {ta tb : TE} {σ : L2.St} {H : Hp}
theorem vv_ifP {p : Prop} [Decidable p] {a b : Int} (ht : Ans t σ H (decide p)) (hx : p → Val ta σ H (.int a)) (hy : ¬ p → Val tb σ H (.int b)) : Val (tIf t ta tb) σ H (.int (if p then a else b)) := by
  by_cases h : p
  · have := vv_if (p := p) (a := a) (b := a) ht (hx h) (tb := ta) (hx h)
    intro Q q
    refine ht _ ?_
    rw [decide_eq_true h, if_pos rfl]
    rw [if_pos h] at q
    exact hx h _ q
  · intro Q q
    refine ht _ ?_
    rw [decide_eq_false h, if_neg Bool.false_ne_true]
    rw [if_neg h] at q
    exact hy h _ q
theorem vv_ifQ {c : Bool} {a b : Int} (ht : Ans t σ H c) (hx : c = true → Val ta σ H (.int a)) (hy : c = false → Val tb σ H (.int b)) : Val (tIf t ta tb) σ H (.int (if c = true then a else b)) := by
  intro Q q
  refine ht _ ?_
  cases c with
  | true =>
    rw [if_pos rfl]
    rw [if_pos rfl] at q
    exact hx rfl _ q
  | false =>
    rw [if_neg Bool.false_ne_true]
    rw [if_neg Bool.false_ne_true] at q
    exact hy rfl _ q
end
theorem kit_mk0 {K : PySem.W.Frag} {S C : Addr} (h1 : (Value.ref S == Value.ref C) = false) (h2 : PySem.W.isClsIn K C = true) (h3 : PySem.W.typeIn K (.ref C) = some (.type "type")) (h4 : PySem.W.subIn K (.ref S) (.ref C) = some false) :
    PySem.W.kitOne K (.ref S) (.ref C) = some false := by
  unfold PySem.W.isClsIn at h2
  unfold PySem.W.kitOne
  rw [if_neg (by rw [h1]; exact Bool.false_ne_true)]
  unfold PySem.W.kitCls
  simp only [h2, h3, h4, beq_self_eq_true, Bool.and_self, if_true]
theorem vv_call2 {ta tb : TE} {σ : L2.St} {H : Hp} {x y z : V} {r : List V → Hp → VK → Prop} (ha : Val ta σ H x) (hb : Val tb σ H y) (hr : ∀ Q : VK, Q z H → r [x, y] H Q) : Val (tCB r (tCons ta (tCons tb tNil))) σ H z := fun Q q => ha _ (hb _ (hr Q q))
/-! ### lists of data that the caller owns; values that are a truth value or a number -/
theorem Sep.stepnew {M : List Addr} {H0 G0 G H H' : Hp} {O : List Addr} {p : Addr} {o : HO} (S : Sep M H0 G0 G H O) {G' : Hp} (e : Same H H') (eG : Same G G') (sG : Same G' H') (hn : ∀ b, H b ≠ none → G b = none → G' b = none) (_n : H p = none) (h : H' p = some o) (g : G' p = none) (hm : H0 p = none) : Sep M H0 G0 G' H' (p :: O) := by
  have S2 := S.step e eG sG hn
  refine ⟨S2.base, S2.pm, S2.sG, S2.g0, S2.gn, fun a ha => ?_⟩
  rcases List.mem_cons.mp ha with rfl | ha
  · exact ⟨g, (fun z => by rw [z] at h; cases h), .inr hm⟩
  · exact S2.ow a ha
inductive Bi where
  | b (x : Bool)
  | n (i : Int)
deriving DecidableEq
def biV : Bi → V
  | .b x => .bl x
  | .n i => .int i
def Bi.el {α : Type} (v : Bi) (f : Bool → α) (g : Int → α) : α :=
  match v with
  | .b x => f x
  | .n i => g i
theorem cW_elb {α : Type} {x : Bool} {f : Bool → Rx α} {g : Int → Rx α} {K : α → Prop} {E : Nat → Prop} (h : cW (Bi.el (.b x) f g) K E) : cW (f x) K E := h
theorem cW_eln {α : Type} {x : Int} {f : Bool → Rx α} {g : Int → Rx α} {K : α → Prop} {E : Nat → Prop} (h : cW (Bi.el (.n x) f g) K E) : cW (g x) K E := h
theorem rp_tup4 {α β γ δ : Type} {f : α → PyData} {g : β → PyData} {h : γ → PyData} {i : δ → PyData} {H : Hp} {v : V} {x : α × β × γ × δ} (r : Rp H v (encT4 f g h i x)) : ∃ a v1 v2 v3 v4, v = .ref a ∧ H a = some (.tup [v1, v2, v3, v4]) ∧ Rp H v1 (f x.1) ∧ Rp H v2 (g x.2.1) ∧ Rp H v3 (h x.2.2.1) ∧ Rp H v4 (i x.2.2.2) := by
  unfold encT4 at r
  cases r with
  | tup h1 h2 =>
    cases h2 with
    | cons a b =>
      cases b with
      | cons b c =>
        cases c with
        | cons c d =>
          cases d with
          | cons d e =>
            cases e
            exact ⟨_, _, _, _, _, rfl, h1, a, b, c, d⟩
theorem rp_mk4 {α β γ δ : Type} {f : α → PyData} {g : β → PyData} {h : γ → PyData} {i : δ → PyData} {H : Hp} {a : Addr} {v1 v2 v3 v4 : V} {x : α} {y : β} {z : γ} {w : δ} (h1 : H a = some (.tup [v1, v2, v3, v4])) (r1 : Rp H v1 (f x)) (r2 : Rp H v2 (g y)) (r3 : Rp H v3 (h z)) (r4 : Rp H v4 (i w)) : Rp H (.ref a) (encT4 f g h i (x, y, z, w)) := .tup h1 (.cons r1 (.cons r2 (.cons r3 (.cons r4 .nil))))
theorem Sep.b0M {M : List Addr} {H0 G0 G H : Hp} {O : List Addr} (S : Sep M H0 G0 G H O) (h : ∀ a ∈ M, H a = H0 a) : Same H0 H := fun b o e => by
  by_cases z : b ∈ M
  · rw [h b z]
    exact e
  · exact S.base b o e z
section
variable {X : Cx} {k j n : Nat} {f C : Addr} {fd : FuncData} {ps ks : List Str} {g : List V → List V → List V} {sp : Sp} {x m : Str} {pos p apos : Pos} {e o : Expr} {es : List Expr} {kws : List Keyword} {ta : TE} {t tk : TA} {W : WX}
/-- keywords alone -/
theorem vx_makeXK {pats : List Pat} (c : MakX X.prog X.w X.K X.mg X.base k x C sp pats) (pt : Pat) (hpt : pt ∈ pats) (hr : RoomG j X.A) (hk : k + 1 ≤ j) (tkW : Takes X W) (hg : Gl X x) (hkw : PK X kws tk)
    (hall : (backToKw pos (keywordEach kws X.env)).all (·.1.isSome) = true := by rfl) (hks : (backToKw pos (keywordEach kws X.env)).filterMap (·.1) = pt.2.1 := by rfl) (hdb : (x == ("__debug__" : Str)) = false := by decide)
    (hpl : ((backTo pos (starEach [] X.env)).any (·.1) || (backToKw pos (keywordEach kws X.env)).any (·.1.isNone)) = false := by rfl) :
    PE X (.Call (.Name x p) [] kws pos) (tMakeX C pt.1 pt.2.1.length sp pt.2.2 W tNil tk) := by
  obtain ⟨f, fd, ps, M, F, hm, b⟩ := c.ex
  refine ⟨fun pins s σ H Q I h => ?_⟩
  refine wpAny_Call_Name_kw (ld_glob I hg hm ?_ hdb)
  refine PySem.W.callWith_KW0 (h₀ := X.base) I.ok.mod.kin M.kp hall ?_ hpl
  refine thn (hkw.run pos pins s σ H _ I h) fun ws s2 ⟨zs, H2, I2, rz, l1, l2, q2⟩ => ⟨I2.kIn, ?_⟩
  rw [hks]
  exact run_mkX (us := []) (vs := []) M F (hr.low hk) (b pt hpt) tkW I2 .nil rz l1 l2 q2
theorem vx_callXK {pats : List Pat} (c : CalX X.prog X.w X.K X.mg X.base k x sp pats) (pt : Pat) (hpt : pt ∈ pats) (hr : RoomG j X.A) (hk : k ≤ j) (tkW : Takes X W) (hg : Gl X x) (hkw : PK X kws tk)
    (hall : (backToKw pos (keywordEach kws X.env)).all (·.1.isSome) = true := by rfl) (hks : (backToKw pos (keywordEach kws X.env)).filterMap (·.1) = pt.2.1 := by rfl) (hdb : (x == ("__debug__" : Str)) = false := by decide)
    (hpl : ((backTo pos (starEach [] X.env)).any (·.1) || (backToKw pos (keywordEach kws X.env)).any (·.1.isNone)) = false := by rfl) :
    PE X (.Call (.Name x p) [] kws pos) (tCallX pt.1 pt.2.1.length sp pt.2.2 W tNil tk) := by
  obtain ⟨f, fd, ps, F, hm, kp, b⟩ := c.ex
  refine ⟨fun pins s σ H Q I h => ?_⟩
  refine wpAny_Call_Name_kw (ld_glob I hg hm ?_ hdb)
  refine PySem.W.callWith_KW0 (h₀ := X.base) I.ok.mod.kin kp hall ?_ hpl
  refine thn (hkw.run pos pins s σ H _ I h) fun ws s2 ⟨zs, H2, I2, rz, l1, l2, q2⟩ => ⟨I2.kIn, ?_⟩
  rw [hks]
  exact run_X (us := []) (vs := []) F (hr.low hk) (b pt hpt) tkW I2 .nil rz l1 l2 q2
theorem vx_methXK {pats : List Pat} {pl : Sem Bool} (c : MetX X.prog X.w X.K X.mg X.base k C m sp pats) (pt : Pat) (hpt : pt ∈ pats) (hr : RoomG j X.A) (hk : k ≤ j) (tkW : Takes X W) (he : PE X o ta) (hkw : PK X kws tk)
    (hall : (backToKw pos (keywordEach kws X.env)).all (·.1.isSome) = true := by rfl) (hks : (backToKw pos (keywordEach kws X.env)).filterMap (·.1) = pt.2.1 := by rfl)
    (hpl : ((backTo pos (starEach [] X.env)).any (·.1) || (backToKw pos (keywordEach kws X.env)).any (·.1.isNone)) = false := by rfl)
    (ht : eval (.Call (.Attribute o m apos) [] kws pos) X.env = (do
      let ov ← eval o X.env
      standAt apos.atName
      let (f, first) ← holding [ov] (getMethod ov m pl)
      callWith pos f first (backTo pos (starEach [] X.env)) (backToKw pos (keywordEach kws X.env))) := by rfl) :
    PE X (.Call (.Attribute o m apos) [] kws pos) (tMethX C m pt.1 pt.2.1.length sp pt.2.2 W ta tNil tk) := by
  obtain ⟨f, fd, ps, hc, hm, F, b⟩ := c.ex
  refine ⟨fun pins s σ H Q I h => ?_⟩
  refine PySem.W.methodCall_KW (pl := pl) (thn (he.run pins s σ H _ I h) fun u s1 ⟨x, H1, I1, rx, a, dx, fs, ex, ea, l, q⟩ => ?_) ht
  subst ex
  obtain rfl : u = Value.ref a := rx
  refine getmeth_ok I1 ea hc hm l ?_
  refine PySem.W.callWith_KW0 (first := [.ref a]) (h₀ := X.base) I.ok.mod.kin hm.kp hall ?_ hpl
  refine thn (hkw.run pos pins s1 σ H1 _ I1 q) fun ws s3 ⟨zs, H3, I3, rz, l1, l2, q3⟩ => ⟨I3.kIn, ?_⟩
  rw [hks]
  exact run_X (us := [.ref a]) (vs := [.ref a]) F (hr.low hk) (b pt hpt) tkW I3 (.cons rfl .nil) rz l1 l2 q3
end
end Vx
/-! # lists within lists that are owned as a whole -/
namespace Vx
open PySem PySem.Spec PyProof.Rows L2
inductive Kd where
  | lst
  | tup
  | ins (C dx : Addr) (ns : List Str)
def Kd.ho : Kd → List V → HO
  | .lst, vs => .lst vs
  | .tup, vs => .tup vs
  | .ins C dx ns, vs => .ins C dx (ns.zip vs)
/-- what stands in the heap as a tree: values as they are, data that stay, nodes of its own -/
inductive Dt where
  | val (v : V)
  | frz (d : PyData)
  | nod (k : Kd) (xs : List Dt)
mutual
inductive Ow (G H : Hp) : List Addr → V → Dt → Prop
  | val (v : V) : Ow G H [] v (.val v)
  | frz {v : V} {d : PyData} : Rp G v d → Ow G H [] v (.frz d)
  | nod {a : Addr} {k : Kd} {vs : List V} {ds : List Dt} {L : List Addr} : H a = some (k.ho vs) → OwAll G H L vs ds → a ∉ L → Ow G H (a :: L) (.ref a) (.nod k ds)
inductive OwAll (G H : Hp) : List Addr → List V → List Dt → Prop
  | nil : OwAll G H [] [] []
  | cons {L1 L2 : List Addr} {v : V} {vs : List V} {d : Dt} {ds : List Dt} : Ow G H L1 v d → OwAll G H L2 vs ds → (∀ b ∈ L1, b ∉ L2) → OwAll G H (L1 ++ L2) (v :: vs) (d :: ds)
end
def Keeps (L : List Addr) (H H' : Hp) : Prop := ∀ b ∈ L, ∀ o, H b = some o → H' b = some o
mutual
theorem Ow.mono {G G' H H' : Hp} (e : Same G G') : ∀ {L : List Addr} {v : V} {d : Dt}, Keeps L H H' → Ow G H L v d → Ow G' H' L v d
  | _, _, _, _, .val v => .val v
  | _, _, _, _, .frz r => .frz (r.mono e)
  | _, _, _, k, .nod h r n => .nod (k _ List.mem_cons_self _ h) (OwAll.mono e (fun b hb => k b (List.mem_cons_of_mem _ hb)) r) n
theorem OwAll.mono {G G' H H' : Hp} (e : Same G G') : ∀ {L : List Addr} {vs : List V} {ds : List Dt}, Keeps L H H' → OwAll G H L vs ds → OwAll G' H' L vs ds
  | _, _, _, _, .nil => .nil
  | _, _, _, k, .cons a r d => .cons (Ow.mono e (fun b hb => k b (List.mem_append_left _ hb)) a) (OwAll.mono e (fun b hb => k b (List.mem_append_right _ hb)) r) d
end
mutual
theorem Ow.there {G H : Hp} : ∀ {L : List Addr} {v : V} {d : Dt}, Ow G H L v d → ∀ b ∈ L, H b ≠ none
  | _, _, _, .val _, _, hb => nomatch hb
  | _, _, _, .frz _, _, hb => nomatch hb
  | _, _, _, .nod h r n, b, hb => by
    rcases List.mem_cons.mp hb with rfl | hb
    · exact some_ne h
    · exact OwAll.there r b hb
theorem OwAll.there {G H : Hp} : ∀ {L : List Addr} {vs : List V} {ds : List Dt}, OwAll G H L vs ds → ∀ b ∈ L, H b ≠ none
  | _, _, _, .nil, _, hb => nomatch hb
  | _, _, _, .cons a r d, b, hb => by
    rcases List.mem_append.mp hb with hb | hb
    · exact Ow.there a b hb
    · exact OwAll.there r b hb
end
theorem OwAll.len {G H : Hp} : ∀ {L : List Addr} {vs : List V} {ds : List Dt}, OwAll G H L vs ds → vs.length = ds.length
  | _, _, _, .nil => rfl
  | _, _, _, .cons _ r _ => congrArg Nat.succ r.len
theorem OwAll.snoc {G H : Hp} {L1 : List Addr} {v : V} {d : Dt} (h : Ow G H L1 v d) : ∀ {L : List Addr} {vs : List V} {ds : List Dt}, OwAll G H L vs ds → (∀ b ∈ L, b ∉ L1) → OwAll G H (L ++ L1) (vs ++ [v]) (ds ++ [d])
  | _, _, _, .nil, _ => by
    have z : OwAll G H (L1 ++ []) [v] [d] := .cons h .nil (fun _ _ z => nomatch z)
    rw [List.append_nil] at z
    exact z
  | _, _, _, .cons (L1 := La) (L2 := Lb) a r n, k => by
    have z := OwAll.cons a (OwAll.snoc h r fun b hb => k b (List.mem_append_right _ hb)) (fun b hb q => by
      rcases List.mem_append.mp q with q | q
      · exact n b hb q
      · exact k b (List.mem_append_left _ hb) q)
    rw [← List.append_assoc] at z
    exact z
theorem OwAll.app {G H : Hp} {L2 : List Addr} {ws : List V} {es : List Dt} (h : OwAll G H L2 ws es) : ∀ {L : List Addr} {vs : List V} {ds : List Dt}, OwAll G H L vs ds → (∀ b ∈ L, b ∉ L2) → OwAll G H (L ++ L2) (vs ++ ws) (ds ++ es)
  | _, _, _, .nil, _ => h
  | _, _, _, .cons (L1 := La) (L2 := Lb) a r n, k => by
    have z := OwAll.cons a (OwAll.app h r fun b hb => k b (List.mem_append_right _ hb)) (fun b hb q => by
      rcases List.mem_append.mp q with q | q
      · exact n b hb q
      · exact k b (List.mem_append_left _ hb) q)
    rw [← List.append_assoc] at z
    exact z
/-! ### trees that are data -/
mutual
inductive Dd : Dt → PyData → Prop
  | non : Dd (.val .non) .none
  | bl (b : Bool) : Dd (.val (.bl b)) (.bool b)
  | int (i : Int) : Dd (.val (.int i)) (.int i)
  | str (x : Str) : Dd (.val (.str x)) (.str x)
  | frz (d : PyData) : Dd (.frz d) d
  | lst {xs : List Dt} {ds : List PyData} : DdAll xs ds → Dd (.nod .lst xs) (.list ds)
  | tup {xs : List Dt} {ds : List PyData} : DdAll xs ds → Dd (.nod .tup xs) (.tuple ds)
inductive DdAll : List Dt → List PyData → Prop
  | nil : DdAll [] []
  | cons {x : Dt} {xs : List Dt} {d : PyData} {ds : List PyData} : Dd x d → DdAll xs ds → DdAll (x :: xs) (d :: ds)
end
mutual
/-- read in any heap that holds its nodes -/
theorem Ow.rp {G H I : Hp} (e : Same G I) : ∀ {L : List Addr} {v : V} {d : Dt} {p : PyData}, Keeps L H I → Ow G H L v d → Dd d p → Rp I v p
  | _, _, _, _, _, .val _, .non => .non
  | _, _, _, _, _, .val _, .bl b => .bl b
  | _, _, _, _, _, .val _, .int i => .int i
  | _, _, _, _, _, .val _, .str x => .str x
  | _, _, _, _, _, .frz r, .frz _ => r.mono e
  | _, _, _, _, k, .nod h r _, .lst q => .lst (k _ List.mem_cons_self _ h) (OwAll.rp e (fun b hb => k b (List.mem_cons_of_mem _ hb)) r q)
  | _, _, _, _, k, .nod h r _, .tup q => .tup (k _ List.mem_cons_self _ h) (OwAll.rp e (fun b hb => k b (List.mem_cons_of_mem _ hb)) r q)
theorem OwAll.rp {G H I : Hp} (e : Same G I) : ∀ {L : List Addr} {vs : List V} {ds : List Dt} {ps : List PyData}, Keeps L H I → OwAll G H L vs ds → DdAll ds ps → RpAll I vs ps
  | _, _, _, _, _, .nil, .nil => .nil
  | _, _, _, _, k, .cons a r _, .cons x xs => .cons (Ow.rp e (fun b hb => k b (List.mem_append_left _ hb)) a x) (OwAll.rp e (fun b hb => k b (List.mem_append_right _ hb)) r xs)
end
def oI (i : Int) : Dt := .val (.int i)
def oB (b : Bool) : Dt := .val (.bl b)
def oF {α : Type} (f : α → PyData) (x : α) : Dt := .frz (f x)
def oL {α : Type} (f : α → Dt) (xs : List α) : Dt := .nod .lst (xs.map f)
def EncO {α : Type} (f : α → Dt) (g : α → PyData) : Prop := ∀ x, Dd (f x) (g x)
theorem encO_I : EncO oI PyData.int := fun i => .int i
theorem encO_B : EncO oB PyData.bool := fun i => .bl i
theorem encO_F {α : Type} {f : α → PyData} : EncO (oF f) f := fun _ => .frz _
theorem EncO.all {α : Type} {f : α → Dt} {g : α → PyData} (h : EncO f g) : ∀ xs : List α, DdAll (xs.map f) (xs.map g)
  | [] => .nil
  | x :: xs => .cons (h x) (EncO.all h xs)
theorem encO_L {α : Type} {f : α → Dt} {g : α → PyData} (h : EncO f g) : EncO (oL f) (encL g) := fun xs => .lst (h.all xs)
theorem keeps_same {L : List Addr} {H H' : Hp} (e : Same H H') : Keeps L H H' := fun b _ o q => e b o q
theorem keeps_refl {L : List Addr} {H : Hp} : Keeps L H H := fun _ _ _ q => q
theorem keeps_mut {L : List Addr} {H H' : Hp} {m : Addr} (x : SameX m H H') (n : ∀ b ∈ L, b ≠ m) : Keeps L H H' := fun b hb o q => x b o q (n b hb)
theorem keeps_muts {L M : List Addr} {H H' : Hp} (x : SameXs M H H') (n : ∀ b ∈ L, b ∉ M) : Keeps L H H' := fun b hb o q => x b o q (n b hb)
theorem keeps_hide {L M : List Addr} {H : Hp} (n : ∀ b ∈ L, b ∉ M) : Keeps L H (hideL M H) := fun b hb o q => by
  rw [hideL_out (n b hb)]
  exact q
section
variable {α : Type} {f : α → Dt} {g : α → PyData} {G H I : Hp} {L : List Addr} {vs : List V} {xs : List α}
theorem OwAll.rpA (w : OwAll G H L vs (xs.map f)) (h : EncO f g) (e : Same G H) : RpAll H vs (xs.map g) := OwAll.rp e keeps_refl w (h.all xs)
theorem OwAll.rpH (w : OwAll G H L vs (xs.map f)) (h : EncO f g) (e : Same G I) (k : Keeps L H I) : RpAll I vs (xs.map g) := OwAll.rp e k w (h.all xs)
theorem OwAll.lenM (w : OwAll G H L vs (xs.map f)) : vs.length = xs.length := by rw [w.len, List.length_map]
theorem OwAll.snocM {L1 : List Addr} {v : V} {y : α} (w : OwAll G H L vs (xs.map f)) (h : Ow G H L1 v (f y)) (n : ∀ b ∈ L, b ∉ L1) : OwAll G H (L ++ L1) (vs ++ [v]) ((xs ++ [y]).map f) := by
  rw [List.map_append]
  exact OwAll.snoc h w n
theorem Ow.ints {a : Addr} {ys : List Int} (h : H a = some (.lst (ys.map V.int))) : Ow G H [a] (.ref a) (oL oI ys) := by
  have z : ∀ ys : List Int, OwAll G H [] (ys.map V.int) (ys.map oI) := fun ys => by
    induction ys with
    | nil => exact .nil
    | cons y r ih => exact .cons (L1 := []) (L2 := []) (.val _) ih (fun _ z => nomatch z)
  exact .nod (k := .lst) h (z ys) (fun z => nomatch z)
theorem Ow.list {a : Addr} {xs : List α} {L : List Addr} {vs : List V} (h : H a = some (.lst vs)) (w : OwAll G H L vs (xs.map f)) (n : ∀ b ∈ L, b ≠ a) : Ow G H (a :: L) (.ref a) (oL f xs) := .nod (k := .lst) h w (fun z => n a z rfl)
theorem Ow.toList {v : V} {L : List Addr} {xs : List α} (w : Ow G H L v (oL f xs)) : ∃ a vs L', v = .ref a ∧ L = a :: L' ∧ H a = some (.lst vs) ∧ OwAll G H L' vs (xs.map f) ∧ ∀ b ∈ L', b ≠ a := by
  unfold oL at w
  cases w with
  | nod h r n => exact ⟨_, _, _, rfl, rfl, h, r, fun b hb z => n (z ▸ hb)⟩
theorem OwAll.toInts : ∀ {L : List Addr} {vs : List V} {xs : List Int}, OwAll G H L vs (xs.map oI) → L = [] ∧ vs = xs.map V.int
  | _, _, [], .nil => ⟨rfl, rfl⟩
  | _, _, x :: xs, .cons a r _ => by
    obtain ⟨h1, h2⟩ := OwAll.toInts r
    cases a
    exact ⟨by rw [h1] <;> rfl, by rw [h2] <;> rfl⟩
theorem Ow.toInts {v : V} {L : List Addr} {xs : List Int} (w : Ow G H L v (oL oI xs)) : ∃ a, v = .ref a ∧ L = [a] ∧ H a = some (.lst (xs.map V.int)) := by
  obtain ⟨a, vs, L', rfl, rfl, h, r, _⟩ := w.toList
  obtain ⟨rfl, rfl⟩ := r.toInts
  exact ⟨a, rfl, rfl, h⟩
/-- the part at a place, and how a change of it alone changes the whole -/
theorem OwAll.part : ∀ {L : List Addr} {vs : List V} {ds : List Dt} {i : Nat} {d : Dt}, OwAll G H L vs ds → ds[i]? = some d → ∃ v L1, vs[i]? = some v ∧ Ow G H L1 v d ∧ (∀ b ∈ L1, b ∈ L) ∧
    ∀ H' d', (∀ b ∈ L, b ∉ L1 → ∀ o, H b = some o → H' b = some o) → Ow G H' L1 v d' → OwAll G H' L vs (ds.set i d')
  | _, _, _, _, _, .nil, h => by simp at h
  | _, _, _, 0, _, .cons (L1 := La) (L2 := Lb) a r n, h => by
    simp at h
    subst h
    refine ⟨_, La, rfl, a, fun b hb => List.mem_append_left _ hb, fun H' d' k w => ?_⟩
    exact .cons w (OwAll.mono (Same.refl G) (fun b hb => k b (List.mem_append_right _ hb) fun z => n b z hb) r) n
  | _, _, _, i + 1, _, .cons (L1 := La) (L2 := Lb) a r n, h => by
    obtain ⟨v, L1, h1, h2, h3, h4⟩ := OwAll.part (i := i) r (by simpa using h)
    refine ⟨v, L1, by simpa using h1, h2, fun b hb => List.mem_append_right _ (h3 b hb), fun H' d' k w => ?_⟩
    refine .cons (Ow.mono (Same.refl G) (fun b hb => k b (List.mem_append_left _ hb) fun z => n b hb (h3 b z)) a) (h4 H' d' (fun b hb nb => k b (List.mem_append_right _ hb) nb) w) n
/-- the same, where the part grows: its new footprint is the old one and what is new -/
theorem OwAll.part2 : ∀ {L : List Addr} {vs : List V} {ds : List Dt} {i : Nat} {d : Dt}, OwAll G H L vs ds → ds[i]? = some d → ∃ v L1, vs[i]? = some v ∧ Ow G H L1 v d ∧ (∀ b ∈ L1, b ∈ L) ∧
    (∀ H' d', (∀ b ∈ L, b ∉ L1 → ∀ o, H b = some o → H' b = some o) → Ow G H' L1 v d' → OwAll G H' L vs (ds.set i d')) ∧
    ∀ H' d' Fv L1', (∀ b ∈ L, b ∉ L1 → ∀ o, H b = some o → H' b = some o) → (∀ b ∈ L1', b ∈ L1 ++ Fv) → (∀ b ∈ Fv, b ∉ L) → Ow G H' L1' v d' → ∃ L', (∀ b ∈ L', b ∈ L ++ Fv) ∧ OwAll G H' L' vs (ds.set i d')
  | _, _, _, _, _, .nil, h => by simp at h
  | _, _, _, 0, _, .cons (L1 := La) (L2 := Lb) a r n, h => by
    simp at h
    subst h
    refine ⟨_, La, rfl, a, fun b hb => List.mem_append_left _ hb, fun H' d' k w => ?_, fun H' d' Fv L1' k s nf w => ⟨L1' ++ Lb, fun b hb => ?_, ?_⟩⟩
    · exact .cons w (OwAll.mono (Same.refl G) (fun b hb => k b (List.mem_append_right _ hb) fun z => n b z hb) r) n
    · rcases List.mem_append.mp hb with hb | hb
      · rcases List.mem_append.mp (s b hb) with q | q
        · exact List.mem_append_left _ (List.mem_append_left _ q)
        · exact List.mem_append_right _ q
      · exact List.mem_append_left _ (List.mem_append_right _ hb)
    · refine .cons w (OwAll.mono (Same.refl G) (fun b hb => k b (List.mem_append_right _ hb) fun z => n b z hb) r) fun b hb q => ?_
      rcases List.mem_append.mp (s b hb) with z | z
      · exact n b z q
      · exact nf b z (List.mem_append_right _ q)
  | _, _, _, i + 1, _, .cons (L1 := La) (L2 := Lb) a r n, h => by
    obtain ⟨v, L1, h1, h2, h3, h4, h5⟩ := OwAll.part2 (i := i) r (by simpa using h)
    refine ⟨v, L1, by simpa using h1, h2, fun b hb => List.mem_append_right _ (h3 b hb), fun H' d' k w => ?_, fun H' d' Fv L1' k s nf w => ?_⟩
    · refine .cons (Ow.mono (Same.refl G) (fun b hb => k b (List.mem_append_left _ hb) fun z => n b hb (h3 b z)) a) (h4 H' d' (fun b hb nb => k b (List.mem_append_right _ hb) nb) w) n
    · obtain ⟨L', s2, z⟩ := h5 H' d' Fv L1' (fun b hb nb => k b (List.mem_append_right _ hb) nb) s (fun b hb q => nf b hb (List.mem_append_right _ q)) w
      refine ⟨La ++ L', fun b hb => ?_, .cons (Ow.mono (Same.refl G) (fun b hb => k b (List.mem_append_left _ hb) fun z => n b hb (h3 b z)) a) z fun b hb q => ?_⟩
      · rcases List.mem_append.mp hb with hb | hb
        · exact List.mem_append_left _ (List.mem_append_left _ hb)
        · rcases List.mem_append.mp (s2 b hb) with q | q
          · exact List.mem_append_left _ (List.mem_append_right _ q)
          · exact List.mem_append_right _ q
      · rcases List.mem_append.mp (s2 b q) with y | y
        · exact n b hb y
        · exact nf b y (List.mem_append_left _ hb)
theorem OwAll.partM [Inhabited α] {k : Int} (w : OwAll G H L vs (xs.map f)) (h : -(xs.length : Int) ≤ k ∧ k < xs.length) : ∃ v L1, atI vs k = some v ∧ Ow G H L1 v (f (itD xs k)) ∧ (∀ b ∈ L1, b ∈ L) ∧
    (∀ H' y, (∀ b ∈ L, b ∉ L1 → ∀ o, H b = some o → H' b = some o) → Ow G H' L1 v (f y) → OwAll G H' L vs ((setL xs k y).map f)) ∧
    ∀ H' y Fv L1', (∀ b ∈ L, b ∉ L1 → ∀ o, H b = some o → H' b = some o) → (∀ b ∈ L1', b ∈ L1 ++ Fv) → (∀ b ∈ Fv, b ∉ L) → Ow G H' L1' v (f y) → ∃ L', (∀ b ∈ L', b ∈ L ++ Fv) ∧ OwAll G H' L' vs ((setL xs k y).map f) := by
  obtain ⟨j, e, hj⟩ := ixN_some h
  have hx := List.getElem?_eq_getElem hj
  obtain ⟨v, L1, h1, h2, h3, h4, h5⟩ := OwAll.part2 (i := j) (d := f xs[j]) w (by rw [List.getElem?_map, hx] <;> rfl)
  have ei : itD xs k = xs[j] := by
    unfold itD atI
    rw [e]
    show (xs[j]?).getD default = _
    rw [hx] <;> rfl
  refine ⟨v, L1, ?_, by rw [ei]; exact h2, h3, fun H' y q w2 => ?_, fun H' y Fv L1' q s nf w2 => ?_⟩
  · unfold atI
    rw [w.lenM, e]
    exact h1
  · have z := h4 H' (f y) q w2
    unfold setL
    rw [e, List.map_set]
    exact z
  · obtain ⟨L', s2, z⟩ := h5 H' (f y) Fv L1' q s nf w2
    refine ⟨L', s2, ?_⟩
    unfold setL
    rw [e, List.map_set]
    exact z
theorem grow_keeps {L L1 : List Addr} {m : Addr} {H H1 H2 : Hp} (e : Same H H1) (x : SameX m H1 H2) (hm : m ∈ L1) : ∀ b ∈ L, b ∉ L1 → ∀ o, H b = some o → H2 b = some o := fun b _ n o q => x b o (e b o q) (fun z => n (z ▸ hm))
theorem grow_sub {a : Addr} {L' Lr Fv : List Addr} (h : ∀ b ∈ L', b ∈ Lr ++ Fv) : ∀ b ∈ a :: L', b ∈ (a :: Lr) ++ Fv := fun b hb => by
  rcases List.mem_cons.mp hb with rfl | hb
  · exact List.mem_cons_self
  · exact List.mem_cons_of_mem _ (h b hb)
/-- the item of a turn -/
theorem OwAll.turn {i : Nat} {v : V} (w : OwAll G H L vs (xs.map f)) (h : vs[i]? = some v) : ∃ x L1, xs[i]? = some x ∧ Ow G H L1 v (f x) ∧ ∀ b ∈ L1, b ∈ L := by
  have hl := get_len h
  have e := w.lenM
  have hx := List.getElem?_eq_getElem (show i < xs.length by omega)
  obtain ⟨v2, L1, h1, h2, h3, _⟩ := OwAll.part (i := i) (d := f xs[i]) w (by rw [List.getElem?_map, hx] <;> rfl)
  rw [h] at h1
  cases h1
  exact ⟨_, L1, hx, h2, h3⟩
end
/-! ### what is owned, in pieces -/
theorem all_app {P : Addr → Prop} {L l : List Addr} (h : ∀ x ∈ L, P x) (t : ∀ x ∈ l, P x) : ∀ x ∈ L ++ l, P x := fun x hx => by
  rcases List.mem_append.mp hx with q | q
  · exact h x q
  · exact t x q
theorem nm_nil {a : Addr} : a ∉ ([] : List Addr) := fun z => nomatch z
theorem nm_cons {a m : Addr} {l : List Addr} (h : a ≠ m) (t : a ∉ l) : a ∉ m :: l := fun z => by
  rcases List.mem_cons.mp z with q | q
  · exact h q
  · exact t q
theorem nm_app {a : Addr} {L l : List Addr} (h : a ∉ L) (t : a ∉ l) : a ∉ L ++ l := fun z => by
  rcases List.mem_append.mp z with q | q
  · exact h q
  · exact t q
theorem there_ne {H : Hp} {L : List Addr} {x : Addr} (t : ∀ b ∈ L, H b ≠ none) (n : H x = none) : ∀ b ∈ L, b ≠ x := fun b hb z => t b hb (z ▸ n)
theorem new_ne {H : Hp} {L : List Addr} {x : Addr} {o : HO} (n : ∀ b ∈ L, H b = none) (h : H x = some o) : ∀ b ∈ L, b ≠ x := fun b hb z => by
  have := n b hb
  rw [z, h] at this
  cases this
theorem new_nl {H : Hp} {L L2 : List Addr} (n : ∀ b ∈ L, H b = none) (t : ∀ b ∈ L2, H b ≠ none) : ∀ b ∈ L, b ∉ L2 := fun b hb z => t b z (n b hb)
theorem nl_symm {L L2 : List Addr} (h : ∀ b ∈ L, b ∉ L2) : ∀ b ∈ L2, b ∉ L := fun b hb z => h b z hb
theorem none_of_same {H H' : Hp} {x : Addr} (e : Same H H') (n : H' x = none) : H x = none := by
  cases q : H x with
  | none => rfl
  | some o =>
    rw [e x o q] at n
    cases n
section
variable {M : List Addr} {H0 G0 G H H' : Hp} {O L : List Addr} {p m : Addr} {o : HO}
theorem Sep.h0 (S : Sep M H0 G0 G H O) {b : Addr} (hb : b ∈ O) (hM : b ∉ M) : H0 b = none := (S.ow b hb).2.2.elim (fun z => (hM z).elim) id
theorem g_nl {a : Addr} {o : HO} (h : G a = some o) (S : Sep M H0 G0 G H O) (hL : ∀ b ∈ L, b ∈ O) : ∀ b ∈ L, b ≠ a := fun b hb => (g_ne h S (hL b hb)).symm
theorem b_nl {a : Addr} {o : HO} (h : (hideL M H0) a = some o) (S : Sep M H0 G0 G H O) (hL : ∀ b ∈ L, b ∈ O) : ∀ b ∈ L, b ≠ a := fun b hb => (b_ne h S (hL b hb)).symm
/-- a whole tree that is to stay as it is -/
theorem Sep.freezeL (S : Sep M H0 G0 G H O) {O' : List Addr} (hL : ∀ b ∈ L, b ∈ O) (h0 : ∀ b ∈ L, H0 b = none) (hO : ∀ b ∈ O', b ∈ O ∧ b ∉ L) : ∃ G', Same G G' ∧ Keeps L H G' ∧ Sep M H0 G0 G' H O' := by
  have gn : ∀ b ∈ L, G b = none := fun b hb => (S.ow b (hL b hb)).1
  refine ⟨fun b => if b ∈ L then H b else G b, fun b u q => ?_, fun b hb u q => ?_, S.base, S.pm, fun b u q => ?_, fun b u q => ?_, fun b hb gb => ?_, fun a ha => ?_⟩
  · have n : b ∉ L := fun z => by
      rw [gn b z] at q
      cases q
    show (if b ∈ L then H b else G b) = _
    rw [if_neg n]
    exact q
  · show (if b ∈ L then H b else G b) = _
    rw [if_pos hb]
    exact q
  · by_cases z : b ∈ L
    · exact (if_pos z).symm.trans q
    · exact S.sG b u ((if_neg z).symm.trans q)
  · have z : b ∉ L := fun z => by
      have := S.g0 b u q
      rw [gn b z] at this
      cases this
    show (if b ∈ L then H b else G b) = _
    rw [if_neg z]
    exact S.g0 b u q
  · have z : b ∉ L := fun z => hb (h0 b z)
    show (if b ∈ L then H b else G b) = _
    rw [if_neg z]
    exact S.gn b hb gb
  · obtain ⟨h1, h2⟩ := hO a ha
    refine ⟨?_, (S.ow a h1).2⟩
    show (if a ∈ L then H a else G a) = _
    rw [if_neg h2]
    exact (S.ow a h1).1
/-- a callee hands over a list of lists of its own making -/
theorem Sep.steptree (S : Sep M H0 G0 G H O) {G' : Hp} (e : Same H H') (eG : Same G G') (sG : Same G' H') (hn : ∀ b, H b ≠ none → G b = none → G' b = none) (L : List Addr) (hL : ∀ b ∈ L, H b = none ∧ G' b = none ∧ H' b ≠ none) : Sep M H0 G0 G' H' (L ++ O) := by
  have S2 := S.step e eG sG hn
  refine ⟨S2.base, S2.pm, S2.sG, S2.g0, S2.gn, all_app (fun b hb => ⟨(hL b hb).2.1, (hL b hb).2.2, .inr (S.free (hL b hb).1)⟩) S2.ow⟩
end
theorem Rp.list_of {α : Type} {g : α → PyData} {H : Hp} {a : Addr} {vs : List V} {xs : List α} (h : H a = some (.lst vs)) (r : RpAll H vs (xs.map g)) : Rp H (.ref a) (encL g xs) := .lst h r
/-! ### repr of data -/
mutual
def nodes : PyData → Nat
  | .list xs => 1 + nodesAll xs
  | .tuple xs => 1 + nodesAll xs
  | _ => 1
def nodesAll : List PyData → Nat
  | [] => 0
  | x :: xs => nodes x + nodesAll xs
end
mutual
def smallD : PyData → Bool
  | .none => true
  | .bool _ => true
  | .int i => decide (i.natAbs < 10 ^ 19)
  | .str x => decide ((reprText x).length ≤ 20)
  | .list xs => smallAll xs
  | .tuple xs => smallAll xs
  | _ => false
def smallAll : List PyData → Bool
  | [] => true
  | x :: xs => smallD x && smallAll xs
end
theorem piled_list (ts : List Str) : (listText ts).length ≤ piled ts + 2 := by
  cases ts with
  | nil => exact Nat.le_refl 2
  | cons t r =>
    have e : (listText (t :: r)).length = (textFrom 1 ("[" ++ ("" : String) ++ t) r).length + 1 := by
      show (textFrom 0 "[" (t :: r) ++ "]").length = _
      rw [strLen_append]
      rfl
    rw [e, textFrom_length_pos r 1 _ (by decide), piled_cons, strLen_append, strLen_append]
    have h1 : (("[" : String) : Str).length = 1 := rfl
    have h2 : (("" : String) : Str).length = 0 := rfl
    omega
theorem piled_tup (ts : List Str) : (tupleText ts).length ≤ piled ts + 3 := by
  unfold tupleText
  rw [strLen_append, strLen_append]
  have h1 : (("(" : String) : Str).length = 1 := rfl
  have h2 : (((if ts.length == 1 then ",)" else ")" : String) : Str)).length ≤ 2 := by split <;> decide
  by_cases h : ts = []
  · subst h
    exact Nat.le_of_lt (by decide)
  · have := join_length_add ts h
    omega
mutual
theorem small_shown : ∀ d : PyData, smallD d = true → d.shown.length + 4 ≤ 26 * nodes d ∧ d.showable = true ∧ d.hasDict = false
  | .none, _ => ⟨by simp only [PyData.shown, nodes]; decide, by simp [PyData.showable], by simp [PyData.hasDict]⟩
  | .bool b, _ => ⟨by cases b <;> simp only [PyData.shown, nodes] <;> decide, by simp [PyData.showable], by simp [PyData.hasDict]⟩
  | .int i, h => by
    have h : i.natAbs < 10 ^ 19 := by simpa [smallD] using h
    refine ⟨?_, ?_, by simp [PyData.hasDict]⟩
    · have := int_text_length_le10 (k := 19) (by decide) h
      simp only [PyData.shown, nodes]
      rw [PySem.ofString_length]
      omega
    · simp only [PyData.showable, decide_eq_true_eq]
      have : i.natAbs < 2 ^ 64 := by omega
      rcases Nat.eq_zero_or_pos i.natAbs with z | z
      · rw [z]
        decide
      · have := (Nat.log2_lt (by omega)).mpr this
        omega
  | .str x, h => by
    have h : (reprText x).length ≤ 20 := by simpa [smallD] using h
    refine ⟨by simp only [PyData.shown, nodes]; omega, by simp [PyData.showable], by simp [PyData.hasDict]⟩
  | .list xs, h => by
    obtain ⟨h1, h2, h3⟩ := small_shownAll xs (by simpa [smallD] using h)
    refine ⟨?_, by simpa [PyData.showable] using h2, by simpa [PyData.hasDict] using h3⟩
    have := piled_list (PyData.shownAll xs)
    simp only [PyData.shown, nodes]
    omega
  | .tuple xs, h => by
    obtain ⟨h1, h2, h3⟩ := small_shownAll xs (by simpa [smallD] using h)
    refine ⟨?_, by simpa [PyData.showable] using h2, by simpa [PyData.hasDict] using h3⟩
    have := piled_tup (PyData.shownAll xs)
    simp only [PyData.shown, nodes]
    omega
  | .dict kvs, h => by simp [smallD] at h
theorem small_shownAll : ∀ ds : List PyData, smallAll ds = true → piled (PyData.shownAll ds) ≤ 26 * nodesAll ds ∧ PyData.showableAll ds = true ∧ PyData.hasDictAll ds = false
  | [], _ => ⟨by simp [PyData.shownAll, nodesAll, piled], by simp [PyData.showableAll], by simp [PyData.hasDictAll]⟩
  | d :: ds, h => by
    have h : smallD d = true ∧ smallAll ds = true := by simpa [smallAll] using h
    obtain ⟨a1, a2, a3⟩ := small_shown d h.1
    obtain ⟨b1, b2, b3⟩ := small_shownAll ds h.2
    refine ⟨?_, by simp [PyData.showableAll, a2, b2], by simp [PyData.hasDictAll, a3, b3]⟩
    simp only [PyData.shownAll, nodesAll, piled_cons]
    omega
end
/-- data that repr may show -/
def ShowOk (d : PyData) : Prop := smallD d = true ∧ nodes d ≤ 600000 ∧ d.depth ≤ 60
instance (d : PyData) : Decidable (ShowOk d) := by unfold ShowOk; infer_instance
def rRepr : List V → Hp → VK → Prop := fun xs H Q => ∃ (a : Addr) (d : PyData), xs = [.ref a] ∧ Rp H (.ref a) d ∧ ShowOk d ∧ Q (.str d.shown) H
theorem call_reprD {X : Cx} (hg : X.A.guards = some []) (hu : X.A.units + 64 < cLine) : CallR X (.builtin "repr") rRepr := by
  intro pins s σ H xs us Q I r h
  obtain ⟨a, d, rfl, rp, ⟨ok, nd, dp⟩, q⟩ := h
  obtain ⟨h1, h2, h3⟩ := small_shown d ok
  cases r with
  | cons ra rn =>
    cases rn
    cases ra
    obtain ⟨as, reads⟩ := Dp.reads I d _ _ rp.dp rfl
    refine repr_of_reads' reads h2 (PyData.noDict_hsm h3) hg (by omega) (fun _ _ e => e) (fun h' u tk k => ⟨.str d.shown, H, I.kept k, ⟨u, rfl⟩, q⟩) ?_
    show d.shown.length ≤ 2 ^ 24
    omega
/-- small data: nodes, depth -/
def Sm (n k : Nat) (d : PyData) : Prop := smallD d = true ∧ nodes d ≤ n ∧ d.depth ≤ k
theorem Sm.imp {n k n' k' : Nat} {d : PyData} (h : Sm n k d) (a : n ≤ n') (b : k ≤ k') : Sm n' k' d := ⟨h.1, Nat.le_trans h.2.1 a, Nat.le_trans h.2.2 b⟩
theorem Sm.show {n k : Nat} {d : PyData} (h : Sm n k d) (a : n ≤ 600000 := by decide) (b : k ≤ 60 := by decide) : ShowOk d := h.imp a b
theorem sm_non : Sm 1 0 .none := ⟨by simp [smallD], by simp [nodes], by simp [PyData.depth]⟩
theorem sm_bool (b : Bool) : Sm 1 0 (.bool b) := ⟨by simp [smallD], by simp [nodes], by simp [PyData.depth]⟩
theorem sm_int {i : Int} (h : -10000000000000000000 < i ∧ i < 10000000000000000000) : Sm 1 0 (.int i) := ⟨by simp only [smallD, decide_eq_true_eq]; omega, by simp [nodes], by simp [PyData.depth]⟩
theorem sm_all {α : Type} {f : α → PyData} {n k : Nat} : ∀ {xs : List α}, (∀ x ∈ xs, Sm n k (f x)) → smallAll (xs.map f) = true ∧ nodesAll (xs.map f) ≤ xs.length * n ∧ PyData.depthAll (xs.map f) ≤ k
  | [], _ => ⟨by simp [smallAll], by simp [nodesAll], by simp [PyData.depthAll]⟩
  | x :: xs, h => by
    obtain ⟨a1, a2, a3⟩ := h x List.mem_cons_self
    obtain ⟨b1, b2, b3⟩ := sm_all fun y hy => h y (List.mem_cons_of_mem _ hy)
    refine ⟨by simp [smallAll, a1, b1], ?_, ?_⟩
    · simp only [List.map_cons, nodesAll, List.length_cons, Nat.succ_mul]
      omega
    · simp only [List.map_cons, PyData.depthAll]
      omega
theorem sm_L {α : Type} {f : α → PyData} {n k m : Nat} {xs : List α} (h : ∀ x ∈ xs, Sm n k (f x)) (hm : xs.length ≤ m) : Sm (1 + m * n) (k + 1) (encL f xs) := by
  obtain ⟨a1, a2, a3⟩ := sm_all h
  refine ⟨by simp [encL, smallD, a1], ?_, ?_⟩
  · have := Nat.mul_le_mul_right n hm
    simp only [encL, nodes]
    omega
  · simp only [encL, PyData.depth]
    omega
theorem sm_ints {xs : List Int} {m : Nat} (h : ∀ x ∈ xs, -10000000000000000000 < x ∧ x < 10000000000000000000) (hm : xs.length ≤ m) : Sm (1 + m * 1) 1 (encL PyData.int xs) := sm_L (fun x hx => sm_int (h x hx)) hm
theorem sm_T2 {α β : Type} {f : α → PyData} {g : β → PyData} {n k m j : Nat} {p : α × β} (h1 : Sm n k (f p.1)) (h2 : Sm m j (g p.2)) : Sm (1 + n + m) (max k j + 1) (encT2 f g p) := by
  obtain ⟨a1, a2, a3⟩ := h1
  obtain ⟨b1, b2, b3⟩ := h2
  refine ⟨by simp [encT2, smallD, smallAll, a1, b1], ?_, ?_⟩
  · simp only [encT2, nodes, nodesAll]
    omega
  · simp only [encT2, PyData.depth, PyData.depthAll]
    omega
theorem sm_T3 {α β γ : Type} {f : α → PyData} {g : β → PyData} {h : γ → PyData} {n k m j l i : Nat} {p : α × β × γ} (h1 : Sm n k (f p.1)) (h2 : Sm m j (g p.2.1)) (h3 : Sm l i (h p.2.2)) : Sm (1 + n + m + l) (max k (max j i) + 1) (encT3 f g h p) := by
  obtain ⟨a1, a2, a3⟩ := h1
  obtain ⟨b1, b2, b3⟩ := h2
  obtain ⟨c1, c2, c3⟩ := h3
  refine ⟨by simp [encT3, smallD, smallAll, a1, b1, c1], ?_, ?_⟩
  · simp only [encT3, nodes, nodesAll]
    omega
  · simp only [encT3, PyData.depth, PyData.depthAll]
    omega
end Vx
namespace Vx
open PySem PySem.Spec PyProof.Rows L2
theorem new_ne2 {H : Hp} {L : List Addr} {x : Addr} (n : ∀ b ∈ L, H b = none) (h : H x ≠ none) : ∀ b ∈ L, b ≠ x := fun b hb z => h (z ▸ n b hb)
theorem upd_tree {α : Type} {f : α → Dt} {G H H' : Hp} {L L1 : List Addr} {vs : List V} {xs : List α} {k : Int} {v : V} {m : Addr} {y : α} (up : ∀ H' y, (∀ b ∈ L, b ∉ L1 → ∀ o, H b = some o → H' b = some o) → Ow G H' L1 v (f y) → OwAll G H' L vs ((setL xs k y).map f)) (x : SameX m H H') (hm : m ∈ L1) (w : Ow G H' L1 v (f y)) :
    OwAll G H' L vs ((setL xs k y).map f) := up H' y (fun c _ n o q => x c o q (fun z => n (z ▸ hm))) w
theorem Ow.toFrz {α : Type} {f : α → PyData} {G H : Hp} {L : List Addr} {v : V} {x : α} (w : Ow G H L v (oF f x)) : L = [] ∧ Rp G v (f x) := by
  unfold oF at w
  cases w with
  | frz r => exact ⟨rfl, r⟩
section
variable {α : Type} {f : α → Dt} {G H : Hp} {L : List Addr} {vs : List V} {xs : List α}
theorem OwAll.pin {i : Nat} {v : V} {x : α} (w : OwAll G H L vs (xs.map f)) (h : vs[i]? = some v) (hx : xs[i]? = some x) : ∃ L1, Ow G H L1 v (f x) ∧ ∀ b ∈ L1, b ∈ L := by
  obtain ⟨y, L1, h1, h2, h3⟩ := OwAll.turn w h
  rw [hx] at h1
  cases h1
  exact ⟨L1, h2, h3⟩
theorem OwAll.pinInts {i : Nat} {b : Addr} {xs : List (List Int)} {x : List Int} (w : OwAll G H L vs (xs.map (oL oI))) (h : vs[i]? = some (.ref b)) (hx : xs[i]? = some x) : H b = some (.lst (x.map V.int)) ∧ b ∈ L := by
  obtain ⟨L1, w1, h1⟩ := OwAll.pin w h hx
  obtain ⟨c, e, rfl, h2⟩ := Ow.toInts w1
  cases e
  exact ⟨h2, h1 _ List.mem_cons_self⟩
end
end Vx
namespace Vx
open PySem PySem.Spec PyProof.Rows L2
theorem lookup_relab {c : Str → Bool} {y : Str} : ∀ l : List (Str × NameKind), (l.lookup y = some .cell ∨ l.lookup y = some .free) →
    ((l.map fun (n, k) => if (k == .free && c n) then (n, NameKind.cell) else (n, k)).lookup y = some .cell ∨ (l.map fun (n, k) => if (k == .free && c n) then (n, NameKind.cell) else (n, k)).lookup y = some .free)
  | [], h => by simp at h
  | (n, k) :: r, h => by
    rw [List.map_cons]
    dsimp only
    by_cases e : y == n
    · have hk : k = .cell ∨ k = .free := by
        rw [List.lookup_cons, e] at h
        simpa using h
      by_cases q : (k == .free && c n) = true
      · left
        rw [if_pos q, List.lookup_cons, e]
      · rw [if_neg q, List.lookup_cons, e]
        simpa using hk
    · have e : (y == n) = false := by simpa using e
      rw [List.lookup_cons, e] at h
      have ih := lookup_relab (c := c) r h
      by_cases q : (k == .free && c n) = true
      · rw [if_pos q, List.lookup_cons, e]
        exact ih
      · rw [if_neg q, List.lookup_cons, e]
        exact ih
theorem blk_relabel {N : List Str} {sc scope : Scope} {env : Env} {own : List (Str × Nat)} (h : BlkOk N sc scope own) : BlkOk N (relabel sc env) scope own := by
  refine ⟨h.kind, h.uniq, h.ix, fun y hy e => ?_, h.own⟩
  have z := lookup_relab (c := fun n => env.scope.kind == .function && env.kindOf n == some .cell) (y := y.1) sc.names (h.free y hy e)
  unfold relabel
  simpa only [Bool.and_assoc] using z
end Vx
namespace Vx
open PySem PySem.Spec PyProof.Rows L2
theorem FnG.low {P : Program} {w : World} {K : PySem.W.Frag} {mg : Str → Option Value} {base : Heap} {cx : CXT} {j k : Nat} {f : Addr} {fd : FuncData} {ps : List Str} {sp : Sp} (F : FnG P w K mg base cx j f fd ps sp) (h : j ≤ k) : FnG P w K mg base cx k f fd ps sp := ⟨F.len, fun A o s H a us vs Q E r => F.run A o s H a us vs Q E (r.low h)⟩
/-! ### a local name that holds one of several defs -/
structure HeldX (P : Program) (w : World) (K : PySem.W.Frag) (mg : Str → Option Value) (base : Heap) (k n : Nat) (f : Addr) (sp : Sp) : Prop where
  ex : ∃ (fd : FuncData) (ps : List Str), FnG P w K mg base (L2.CX P w) k f fd ps sp ∧ PySem.W.keepIn K (.ref f) = true ∧ Bnd K fd ps n [] (fun vs _ => vs)
theorem HeldX.of {P : Program} {w : World} {K : PySem.W.Frag} {mg : Str → Option Value} {base : Heap} {j k n : Nat} {x : Str} {sp : Sp} {pats : List Pat} {a : Addr} (c : CalX P w K mg base j x sp pats) (hx : mg x = some (.ref a)) (hp : (n, [], fun vs _ => vs) ∈ pats) (hj : j ≤ k) : HeldX P w K mg base k n a sp := by
  obtain ⟨f, fd, ps, F, hm, kp, b⟩ := c.ex
  rw [hx] at hm
  injection hm with hm
  injection hm with hm
  subst hm
  exact ⟨fd, ps, F.low hj, kp, b _ hp⟩
def tCallF (i n : Nat) (L : List (Addr × Sp)) (W : WX) (t : TA) : TE := fun σ H Q => ∃ f sp, σ[i]? = some (some (.ref f)) ∧ (f, sp) ∈ L ∧ t σ H fun vs H1 => vs.length = n ∧ ([] : List V).length = 0 ∧ sp vs H1 Q (WE W σ)
theorem vx_callF {X : Cx} {k j i n : Nat} {x : Str} {p pos : Pos} {e : Expr} {es : List Expr} {t : TA} {W : WX} (L : List (Addr × Sp)) (A : ∀ q ∈ L, HeldX X.prog X.w X.K X.mg X.base k n q.1 q.2) (hr : RoomG j X.A) (hk : k ≤ j) (tkW : Takes X W) (hN : X.N[i]? = some x) (hv : Vis X.env.scope x) (ha : PA X (e :: es) t)
    (hdb : (x == ("__debug__" : Str)) = false := by decide) (hcd : (x == ("__classdict__" : Str)) = false := by decide) (he : starEach (e :: es) X.env = (false, eval e X.env) :: starEach es X.env := by rfl) (hpl : (backTo pos (starEach es X.env)).any (·.1) = false := by rfl) :
    PE X (.Call (.Name x p) (e :: es) [] pos) (tCallF i n L W t) := by
  constructor
  intro pins s σ H Q I h
  obtain ⟨f, sp, slot, mem, rest⟩ := h
  obtain ⟨fd, ps, F, kp, b⟩ := (A _ mem).ex
  refine wpAny_Call_Name_kw (thn ((pe_var (pos := p) hN hv hdb hcd).run pins s σ H (fun v H1 => v = .ref f ∧ H1 = H) I ⟨.ref f, slot, rfl, rfl⟩) ?_)
  rintro u s1 ⟨v, H1, I1, r1, rfl, rfl⟩
  cases r1
  refine PySem.W.callWith_K (h₀ := X.base) I.ok.mod.kin kp (thn (ha.run pos pins s1 σ _ _ I1 rest) ?_) he hpl
  rintro us s2 ⟨vs, H2, I2, r, l1, l2, q⟩
  exact ⟨I2.kIn, run_X (us := us) (ws := []) (zs := []) F (hr.low hk) b tkW I2 r .nil l1 l2 q⟩
/-! ### the least of a list, the place of an item -/
def minL : List Int → Int
  | [] => 0
  | [x] => x
  | x :: y :: r => if x ≤ minL (y :: r) then x else minL (y :: r)
theorem minL_spec : ∀ (xs : List Int), xs ≠ [] → minL xs ∈ xs ∧ ∀ y ∈ xs, minL xs ≤ y
  | [], h => absurd rfl h
  | [x], _ => ⟨List.mem_cons_self, fun y hy => by rw [List.mem_singleton.mp hy]; exact Int.le_refl x⟩
  | x :: y :: r, _ => by
    obtain ⟨h1, h2⟩ := minL_spec (y :: r) (fun z => nomatch z)
    unfold minL
    split
    · refine ⟨List.mem_cons_self, fun z hz => ?_⟩
      rcases List.mem_cons.mp hz with rfl | hz
      · exact Int.le_refl _
      · have := h2 z hz
        omega
    · refine ⟨List.mem_cons_of_mem _ h1, fun z hz => ?_⟩
      rcases List.mem_cons.mp hz with rfl | hz
      · omega
      · exact h2 z hz
def maxL (xs : List Int) : Int := -(minL (xs.map fun x => -x))
theorem maxL_spec (xs : List Int) (h : xs ≠ []) : maxL xs ∈ xs ∧ ∀ y ∈ xs, y ≤ maxL xs := by
  obtain ⟨h1, h2⟩ := minL_spec (xs.map fun x => -x) (by simpa using h)
  obtain ⟨z, hz, e⟩ := List.mem_map.mp h1
  unfold maxL
  refine ⟨by rw [← e, Int.neg_neg]; exact hz, fun y hy => ?_⟩
  have := h2 _ (List.mem_map_of_mem hy)
  omega
section
variable {X : Cx} {K : PySem.W.Frag}
def rMinL (K : PySem.W.Frag) : List V → Hp → VK → Prop := fun vs H Q => ∃ (a : Addr) (ns : List Int), vs = [V.ref a] ∧ SqL K H a (ns.map V.int) ∧ ns ≠ [] ∧ Q (.int (minL ns)) H
def rMaxL (K : PySem.W.Frag) : List V → Hp → VK → Prop := fun vs H Q => ∃ (a : Addr) (ns : List Int), vs = [V.ref a] ∧ SqL K H a (ns.map V.int) ∧ ns ≠ [] ∧ Q (.int (maxL ns)) H
theorem cr_minL (hc : X.calm = true) (hK : X.K = K := by rfl) : CallR X (.builtin "min") (rMinL K) := by
  subst hK
  intro pins s σ H vs us Q I r h
  obtain ⟨a, ns, rfl, hs, hn, q⟩ := h
  refine cr_min hc pins s σ H _ us Q I r ⟨a, ns, rfl, hs, List.length_pos_iff.mpr hn, fun m hm hle => ?_⟩
  obtain ⟨h1, h2⟩ := minL_spec ns hn
  have e : m = minL ns := Int.le_antisymm (by have := hle _ h1; omega) (h2 m hm)
  rw [e]
  exact q
theorem cr_maxL (hc : X.calm = true) (hK : X.K = K := by rfl) : CallR X (.builtin "max") (rMaxL K) := by
  subst hK
  intro pins s σ H vs us Q I r h
  obtain ⟨a, ns, rfl, hs, hn, q⟩ := h
  refine cr_max hc pins s σ H _ us Q I r ⟨a, ns, rfl, hs, List.length_pos_iff.mpr hn, fun m hm hle => ?_⟩
  obtain ⟨h1, h2⟩ := maxL_spec ns hn
  have e : m = maxL ns := Int.le_antisymm (h2 m hm) (by have := hle _ h1; omega)
  rw [e]
  exact q
end
end Vx
namespace Vx
open PySem PySem.Spec PyProof.Rows L2
def idxL (ns : List Int) (i : Int) : Int := (ns.idxOf i : Nat)
def rIndexI (K : PySem.W.Frag) : V → List V → Hp → VK → Prop := fun x xs H Q => ∃ (a : Addr) (ns : List Int) (i : Int), x = V.ref a ∧ xs = [.int i] ∧ SqL K H a (ns.map V.int) ∧ i ∈ ns ∧ Q (.int (idxL ns i)) H
theorem mt_indexI {X : Cx} {K : PySem.W.Frag} (hK : X.K = K := by rfl) : MtR X "list.index" (rIndexI K) := by
  subst hK
  intro pins s σ H x xs v us Q I rx rxs h
  obtain ⟨a, ns, i, rfl, rfl, hs, hi, q⟩ := h
  have hl := List.idxOf_lt_length_of_mem hi
  refine mt_index pins s σ H _ _ v us Q I rx rxs ⟨a, _, .int i, ns.idxOf i, .int i, rfl, rfl, hs, rfl, flat_ints ns, ?_, by simp [eqV], fun m z hm hz => ?_, q⟩
  · rw [List.getElem?_map, List.getElem?_eq_getElem hl, List.getElem_idxOf hl] <;> rfl
  · rw [List.getElem?_map] at hz
    cases e : ns[m]? with
    | none => rw [e] at hz; cases hz
    | some y =>
      rw [e] at hz
      cases hz
      have hml : m < ns.length := by omega
      have hy : ns[m] = y := by
        rw [List.getElem?_eq_getElem hml] at e
        exact Option.some.inj e
      have := List.not_of_lt_findIdx (p := (· == i)) (xs := ns) (i := m) hm
      simp only [beq_iff_eq, hy] at this
      simp [eqV, this]
theorem cW_aftgo {σ ρ τ : Type} {s : σ} {kr : ρ → Rx τ} {k : σ → Rx τ} {K : τ → Prop} {E : Nat → Prop} (h : cW ((Lp.go s : Lp σ ρ).aft kr k) K E) : cW (k s) K E := h
end Vx
/-! # fourth part: reckoning with functions that may refuse -/
namespace Vx
open PySem PySem.Spec PyProof.Rows L2
section
variable {α β σ ρ τ : Type}
theorem bind_ok (a : α) (f : α → Rx β) : (Rx.ok a).bind f = f a := rfl
theorem bind_er (e : Nat) (f : α → Rx β) : (Rx.er e : Rx α).bind f = .er e := rfl
theorem grd_pos {p : Prop} {dp : Decidable p} {m : Rx α} (h : p) : grd p m = m := if_pos h
theorem bnd_eq (a : α) (f : α → Rx β) : bnd a f = f a := rfl
theorem noEr_ok (a : α) : noEr (.ok a : Rx α) = .ok a := rfl
theorem tryR_ok {cs : List Nat} (a : α) (f : α → Rx β) (g : Nat → Rx β) : tryR (.ok a) cs f g = f a := rfl
theorem tryR_er {cs : List Nat} {e : Nat} (h : e ∈ cs) (f : α → Rx β) (g : Nat → Rx β) : tryR (.er e) cs f g = g e := if_pos h
theorem aft_go (s : σ) (kr : ρ → Rx τ) (k : σ → Rx τ) : (Lp.go s : Lp σ ρ).aft kr k = k s := rfl
theorem aft_rt (r : ρ) (kr : ρ → Rx τ) (k : σ → Rx τ) : (Lp.rt r : Lp σ ρ).aft kr k = kr r := rfl
/-- gives a value of which P holds -/
def Gv (m : Rx α) (P : α → Prop) : Prop := ∃ v, m = .ok v ∧ P v
theorem Gv.ok {a : α} {P : α → Prop} (h : P a) : Gv (.ok a) P := ⟨a, rfl, h⟩
theorem Gv.of_eq {m : Rx α} {a : α} {P : α → Prop} (e : m = .ok a) (h : P a) : Gv m P := ⟨a, e, h⟩
theorem Gv.bind {m : Rx α} {f : α → Rx β} {P : α → Prop} {Q : β → Prop} (h : Gv m P) (k : ∀ v, P v → Gv (f v) Q) : Gv (m.bind f) Q := by
  obtain ⟨v, rfl, p⟩ := h
  exact k v p
theorem Gv.bind_eq {m : Rx α} {f : α → Rx β} {a : α} {Q : β → Prop} (h : m = .ok a) (k : Gv (f a) Q) : Gv (m.bind f) Q := by
  subst h
  exact k
theorem Gv.grd {p : Prop} {dp : Decidable p} {m : Rx α} {Q : α → Prop} (h : p) (k : Gv m Q) : Gv (Vx.grd p m) Q := by
  rw [grd_pos h]
  exact k
theorem Gv.bnd {a : α} {f : α → Rx β} {Q : β → Prop} (k : ∀ x, x = a → Gv (f x) Q) : Gv (Vx.bnd a f) Q := k a rfl
theorem Gv.ite {p : Prop} {dp : Decidable p} {a b : Rx α} {Q : α → Prop} (h1 : p → Gv a Q) (h2 : ¬ p → Gv b Q) : Gv (if p then a else b) Q := by
  split
  · exact h1 ‹_›
  · exact h2 ‹_›
theorem Gv.pos {p : Prop} {dp : Decidable p} {a b : Rx α} {Q : α → Prop} (h : p) (k : Gv a Q) : Gv (if p then a else b) Q := by rwa [if_pos h]
theorem Gv.neg {p : Prop} {dp : Decidable p} {a b : Rx α} {Q : α → Prop} (h : ¬ p) (k : Gv b Q) : Gv (if p then a else b) Q := by rwa [if_neg h]
theorem Gv.imp {m : Rx α} {P Q : α → Prop} (h : Gv m P) (k : ∀ v, P v → Q v) : Gv m Q := by
  obtain ⟨v, e, p⟩ := h
  exact ⟨v, e, k v p⟩
theorem Gv.noEr {m : Rx α} {P : α → Prop} (h : Gv m P) : Gv (Vx.noEr m) P := by
  obtain ⟨v, rfl, p⟩ := h
  exact ⟨v, rfl, p⟩
theorem Gv.tryOk {m : Rx α} {cs : List Nat} {f : α → Rx β} {g : Nat → Rx β} {P : α → Prop} {Q : β → Prop} (h : Gv m P) (k : ∀ v, P v → Gv (f v) Q) : Gv (tryR m cs f g) Q := by
  obtain ⟨v, rfl, p⟩ := h
  exact k v p
theorem Gv.tryEr {m : Rx α} {cs : List Nat} {e : Nat} {f : α → Rx β} {g : Nat → Rx β} {Q : β → Prop} (h : m = .er e) (hm : e ∈ cs) (k : Gv (g e) Q) : Gv (tryR m cs f g) Q := by
  subst h
  rw [tryR_er hm]
  exact k
theorem Gv.get {m : Rx α} {a : α} (h : Gv m (fun v => v = a)) : m = .ok a := by
  obtain ⟨v, e, rfl⟩ := h
  exact e
theorem Gv.eq {m : Rx α} {P : α → Prop} (h : Gv m P) : ∃ v, m = .ok v ∧ P v := h
/-- a loop that keeps P -/
theorem Gv.forS {P : Nat → σ → Prop} {xs : List α} {s : σ} {f : σ → α → Rx σ} (h0 : P 0 s) (hs : ∀ i x s, xs[i]? = some x → P i s → Gv (f s x) (P (i + 1))) : Gv (Vx.forS xs s f) (P xs.length) := by
  induction xs generalizing s P with
  | nil => exact .ok h0
  | cons x r ih =>
    refine Gv.bind (hs 0 x s rfl h0) fun s' p => ?_
    exact ih (P := fun i => P (i + 1)) p fun i y s hy q => hs (i + 1) y s (by simpa using hy) q
theorem Gv.forR {P : Nat → σ → Prop} {xs : List α} {s : σ} {f : σ → α → Rx (Lp σ ρ)} (h0 : P 0 s) (hs : ∀ i x s, xs[i]? = some x → P i s → Gv (f s x) (fun l => ∃ s', l = .go s' ∧ P (i + 1) s')) : Gv (Vx.forR xs s f) (fun l => ∃ s', l = .go s' ∧ P xs.length s') := by
  induction xs generalizing s P with
  | nil => exact .ok ⟨s, rfl, h0⟩
  | cons x r ih =>
    refine Gv.bind (hs 0 x s rfl h0) ?_
    rintro _ ⟨s', rfl, p⟩
    exact ih (P := fun i => P (i + 1)) p fun i y s hy q => hs (i + 1) y s (by simpa using hy) q
/-- a loop that carries nothing -/
theorem forR_unit {xs : List α} {f : Unit → α → Rx (Lp Unit ρ)} (h : ∀ x ∈ xs, f () x = .ok (.go ())) : Vx.forR xs () f = .ok (.go ()) := by
  induction xs with
  | nil => rfl
  | cons x r ih =>
    show (f () x).bind _ = _
    rw [h x List.mem_cons_self]
    exact ih fun y hy => h y (List.mem_cons_of_mem _ hy)
theorem forS_pure {xs : List α} {s : σ} {f : σ → α → Rx σ} {g : σ → α → σ} (h : ∀ s x, x ∈ xs → f s x = .ok (g s x)) : Vx.forS xs s f = .ok (xs.foldl g s) := by
  induction xs generalizing s with
  | nil => rfl
  | cons x r ih =>
    show (f s x).bind _ = _
    rw [h s x List.mem_cons_self]
    exact ih fun s y hy => h s y (List.mem_cons_of_mem _ hy)
theorem mapA_pure {xs : List α} {acc : List β} {f : α → Rx β} {g : α → β} (h : ∀ x ∈ xs, f x = .ok (g x)) (hl : acc.length + xs.length ≤ 1000000) : mapA xs acc f = .ok (acc ++ xs.map g) := by
  induction xs generalizing acc with
  | nil => simp [mapA]
  | cons x r ih =>
    rw [List.length_cons] at hl
    unfold mapA
    rw [grd_pos (by omega), h x List.mem_cons_self, bind_ok, ih (fun y hy => h y (List.mem_cons_of_mem _ hy)) (by rw [List.length_append, List.length_cons, List.length_nil]; omega)]
    simp
theorem mapA_pure0 {xs : List α} {f : α → Rx β} {g : α → β} (h : ∀ x ∈ xs, f x = .ok (g x)) (hl : xs.length ≤ 1000000) : mapA xs [] f = .ok (xs.map g) := by
  rw [mapA_pure h (by simpa using hl)]
  rfl
theorem mapF_pure {xs : List α} {acc : List β} {f : α → Rx (Option β)} {g : α → Option β} (h : ∀ x ∈ xs, f x = .ok (g x)) (hl : acc.length + xs.length ≤ 1000000) : mapF xs acc f = .ok (acc ++ xs.filterMap g) := by
  induction xs generalizing acc with
  | nil => simp [mapF]
  | cons x r ih =>
    rw [List.length_cons] at hl
    unfold mapF
    rw [grd_pos (by omega), h x List.mem_cons_self, bind_ok]
    cases e : g x with
    | none =>
      show mapF r acc f = _
      rw [ih (fun y hy => h y (List.mem_cons_of_mem _ hy)) (by omega), List.filterMap_cons, e]
    | some z =>
      show mapF r (acc ++ [z]) f = _
      rw [ih (fun y hy => h y (List.mem_cons_of_mem _ hy)) (by rw [List.length_append, List.length_cons, List.length_nil]; omega), List.filterMap_cons, e]
      simp
/-- a while that ends: m falls -/
theorem Gv.whileR {P : σ → Prop} {R : σ → Prop} (m : σ → Nat) {f : σ → Rx (Lp σ ρ)} (hs : ∀ s, P s → Gv (f s) (fun l => (∃ s', l = .go s' ∧ P s' ∧ m s' < m s) ∨ ∃ s', l = .bk s' ∧ R s')) : ∀ {n : Nat} {s : σ}, P s → m s < n → Gv (Vx.whileR n s f) (fun l => ∃ s', l = .go s' ∧ R s') := by
  intro n
  induction n with
  | zero => intro s _ h; exact absurd h (Nat.not_lt_zero _)
  | succ n ih =>
    intro s p h
    refine Gv.bind (hs s p) ?_
    rintro _ (⟨s', rfl, p', l⟩ | ⟨s', rfl, r⟩)
    · exact ih p' (by omega)
    · exact .ok ⟨s', rfl, r⟩
end
theorem rng_mem {lo x : Int} {n : Nat} (h : x ∈ rng lo n) : lo ≤ x ∧ x < lo + n := by
  unfold rng at h
  obtain ⟨j, hj, rfl⟩ := List.mem_map.mp h
  have := List.mem_range.mp hj
  omega
theorem rng_at {lo x : Int} {n i : Nat} (h : (rng lo n)[i]? = some x) : x = lo + i ∧ i < n := by
  have hl := get_len h
  rw [rng_len] at hl
  rw [rng_get hl] at h
  exact ⟨(Option.some.inj h).symm, hl⟩
end Vx
namespace Vx
open PySem PySem.Spec PyProof.Rows L2
structure St_Encoder where
  probs : (List Int)
  front : (List Int)
  low : Int
  span : Int
deriving DecidableEq
structure St_SymbolWriter where
  enc : St_Encoder
deriving DecidableEq
def F_Encoder___init__  : Rx St_Encoder :=
  grd (-(2 ^ 63) ≤ (256 : Int) ∧ (256 : Int) < 2 ^ 63 ∧ ([2048]).length * Int.toNat (256) ≤ 1000000) <| bnd ((4294967296 - 1)) fun _span_49 => .ok (⟨repL ([2048]) (256), ([] : (List Int)), 0, _span_49⟩ : St_Encoder)

def F_SymbolWriter___init__ (encoder' : St_Encoder) : Rx St_SymbolWriter :=
  .ok (⟨encoder'⟩ : St_SymbolWriter)

def F__law_moved (p' : Int) (decision' : Int) : Rx Int :=
  (if (decision' : Int) = 0 then .ok ((p' + ((4096 - p') / 32))) else .ok ((p' - (p' / 32))))

def F__law_code_b4 (low_180 : Int) (span_181 : Int) (count_182 : Int) (it185 : Int) : Rx (Int × Int × Int) :=
  (if span_181 < 16777216 then bnd ((low_180 * 256)) fun low_187 => bnd ((span_181 * 256)) fun span_188 => bnd ((count_182 + 1)) fun count_189 => .ok ((low_187), (span_188), (count_189)) else .ok ((low_180), (span_181), (count_182)))

def F__law_code_r4 (chances_167 : (List Int)) (low_195 : Int) (span_196 : Int) (count_197 : Int) : Rx (Int × Int × Int × (List Int)) :=
  .ok ((low_195), (span_196), (count_197), (chances_167))

def F__law_code_k3 (count_151 : Int) (chances_152 : (List Int)) (low_153 : Int) (span_154 : Int) : Rx (Int × Int × Int × (List Int)) :=
  Rx.bind (forS (rng (0) (Int.toNat (4))) ((low_153), (span_154), (count_151)) (fun s x => F__law_code_b4  (s.1) (s.2.1) (s.2.2) x)) fun s => F__law_code_r4 (chances_152) (s.1) (s.2.1) (s.2.2)

def F__law_code_k2 (low_126 : Int) (span_127 : Int) (count_128 : Int) (item_129 : (Int × Int)) (part_130 : Int) (chances_131 : (List Int)) : Rx (Int × Int × Int × (List Int)) :=
  Rx.bind (((if (item_129.2 : Int) = 0 then .ok ((low_126), (part_130)) else bnd ((low_126 + part_130)) fun low_160 => bnd ((span_127 - part_130)) fun span_161 => .ok ((low_160), (span_161))) : Rx (Int × Int))) fun s => F__law_code_k3 (count_128) (chances_131) (s.1) (s.2)

def F__law_code_b1 (low_116 : Int) (span_117 : Int) (count_118 : Int) (chances_119 : (List Int)) (it122 : (Int × Int)) : Rx (Int × Int × Int × (List Int)) :=
  grd (-((chances_119).length : Int) ≤ it122.1 ∧ it122.1 < ((chances_119).length : Int)) <| grd ((-(2 ^ 64) < ((span_117 / 4096) : Int) ∧ ((span_117 / 4096) : Int) < 2 ^ 64) ∨ (-(2 ^ 64) < ((itD (chances_119) (it122.1)) : Int) ∧ ((itD (chances_119) (it122.1)) : Int) < 2 ^ 64)) <| bnd (((span_117 / 4096) * (itD (chances_119) (it122.1)))) fun part_125 => Rx.bind (((if 0 ≤ it122.1 then grd (-((chances_119).length : Int) ≤ it122.1 ∧ it122.1 < ((chances_119).length : Int)) <| Rx.bind (F__law_moved ((itD (chances_119) (it122.1))) it122.2) fun v137 => grd (-((chances_119).length : Int) ≤ it122.1 ∧ it122.1 < ((chances_119).length : Int)) <| bnd (setL (chances_119) (it122.1) (v137)) fun y145 => .ok (y145) else .ok (chances_119)) : Rx ((List Int)))) fun s => F__law_code_k2 (low_116) (span_117) (count_118) (it122) (part_125) s

def F__law_code_c5 (low_208 : Int) (count_209 : Int) (it240 : Int) : Rx Int :=
  grd ((0 : Int) ≤ (8 * ((count_209 + 3) - it240))) <| .ok ((PySem.Builtin.bitAnd ((low_208 / 2 ^ Int.toNat ((8 * ((count_209 + 3) - it240))))) (255)))

def F__law_code_b6 (octets_275 : (List Int)) (it278 : Int) : Rx ((List Int)) :=
  (if 0 < (((octets_275) : (List Int)).length : Int) then grd (-((octets_275).length : Int) ≤ (-1) ∧ (-1) < ((octets_275).length : Int)) <| (if ((itD (octets_275) ((-1))) : Int) = 0 then grd ((octets_275) ≠ []) <| bnd ((octets_275).dropLast) fun y289 => .ok (y289) else .ok (octets_275)) else .ok (octets_275))

def F__law_code_r6 (chances_263 : (List Int)) (octets_297 : (List Int)) : Rx ((List Int) × (List Int)) :=
  .ok ((octets_297, cutL (chances_263) none (some (256))))

def F__law_code_r1 (low_203 : Int) (span_204 : Int) (count_205 : Int) (chances_206 : (List Int)) : Rx ((List Int) × (List Int)) :=
  grd (-(2 ^ 62) ≤ (count_205 + 4) ∧ (count_205 + 4) < 2 ^ 62) <| Rx.bind (mapA (rng (0) (Int.toNat ((count_205 + 4)))) [] (fun x => noEr (F__law_code_c5 (low_203) (count_205) x))) fun v210 => grd (-(2 ^ 62) ≤ (count_205 + 4) ∧ (count_205 + 4) < 2 ^ 62) <| Rx.bind (forS (rng (0) (Int.toNat ((count_205 + 4)))) (v210) (fun s x => F__law_code_b6  s x)) fun s => F__law_code_r6 (chances_206) s

def F__law_code (items' : (List (Int × Int))) : Rx ((List Int) × (List Int)) :=
  bnd ((4294967296 - 1)) fun span_69 => grd (-(2 ^ 63) ≤ (257 : Int) ∧ (257 : Int) < 2 ^ 63 ∧ ([2048]).length * Int.toNat (257) ≤ 1000000) <| Rx.bind (forS (items') ((0), (span_69), (0), (repL ([2048]) (257))) (fun s x => F__law_code_b1  (s.1) (s.2.1) (s.2.2.1) (s.2.2.2) x)) fun s => F__law_code_r1  (s.1) (s.2.1) (s.2.2.1) (s.2.2.2)

def F__law_named  : Rx Bool :=
  grd (([0, 3, 6, 8, 16, 20, 24, 25, 41, 57, 58, 64, 128, 192]).length + ([224]).length ≤ 1000000) <| .ok (decide ((([0, 3, 6, 8, 16, 20, 24, 25, 41, 57, 58, 64, 128, 192]) ++ ([224]) : (List Int)) = [0, 3, 6, 8, 16, 20, 24, 25, 41, 57, 58, 64, 128, 192, 224]))

def F__law_draws_b1 (free_382 : Bool) (found_400 : (List Int)) (rest_401 : Int) (state_402 : Int) (it405 : Int) : Rx ((List Int) × Int × Int) :=
  (if free_382 = true then (if 1 < rest_401 then grd (0 < (it405 : Int)) <| grd ((found_400).length ≤ 1000000) <| bnd ((found_400) ++ [(rest_401 % it405)]) fun y416 => grd (0 < (it405 : Int) ∧ (it405 : Int) < 2 ^ 128) <| bnd ((rest_401 / it405)) fun rest_418 => .ok ((y416), (rest_418), (state_402)) else bnd ((((state_402 * 48271) + 11) % 2147483647)) fun state_419 => bnd ((((state_419 * 69621) + 7) % 2147483647)) fun state_420 => grd (0 < (it405 : Int)) <| grd ((found_400).length ≤ 1000000) <| bnd ((found_400) ++ [((state_420 / 13) % it405)]) fun y429 => .ok ((y429), (rest_401), (state_420))) else bnd ((((state_402 * 48271) + 11) % 2147483647)) fun state_430 => bnd ((((state_430 * 69621) + 7) % 2147483647)) fun state_431 => grd (0 < (it405 : Int)) <| grd ((found_400).length ≤ 1000000) <| bnd ((found_400) ++ [((state_431 / 13) % it405)]) fun y440 => .ok ((y440), (rest_401), (state_431)))

def F__law_draws_r1 (found_446 : (List Int)) (rest_447 : Int) (state_448 : Int) : Rx (List Int) :=
  .ok (found_446)

def F__law_draws (cell' : Int) (limits' : (List Int)) : Rx (List Int) :=
  bnd ((if cell' < 0 then -cell' else cell')) fun rest_377 => bnd ((rest_377 % 2147483647)) fun state_378 => bnd ((decide (cell' < 0) || decide (((10 : Int) ^ Int.toNat 18) ≤ cell'))) fun free_381 => Rx.bind (forS (limits') ((([] : (List Int))), (rest_377), (state_378)) (fun s x => F__law_draws_b1 (free_381) (s.1) (s.2.1) (s.2.2) x)) fun s => F__law_draws_r1  (s.1) (s.2.1) (s.2.2)

def F__law_symbol_k1 (draws_518 : (List Int)) (kind_519 : Int) (count_520 : Int) (base_521 : Int) : Rx (Int × Int × Int × Int) :=
  (if (count_520 : Int) = 1 then grd (-((draws_518).length : Int) ≤ 2 ∧ 2 < ((draws_518).length : Int)) <| .ok ((1, (((itD (draws_518) (2)) % 901) - 300), 0, 1)) else grd (-((draws_518).length : Int) ≤ 2 ∧ 2 < ((draws_518).length : Int)) <| grd (0 < (count_520 : Int)) <| grd (-((draws_518).length : Int) ≤ 1 ∧ 1 < ((draws_518).length : Int)) <| grd (-(([0, (count_520 - 1), ((itD (draws_518) (2)) % count_520)]).length : Int) ≤ ((itD (draws_518) (1)) % 3) ∧ ((itD (draws_518) (1)) % 3) < (([0, (count_520 - 1), ((itD (draws_518) (2)) % count_520)]).length : Int)) <| .ok ((1, (if 255 < base_521 then 255 else base_521), (itD ([0, (count_520 - 1), ((itD (draws_518) (2)) % count_520)]) (((itD (draws_518) (1)) % 3))), count_520)))

def F__law_symbol_k2 (draws_579 : (List Int)) (kind_580 : Int) (most_581 : Int) (base_582 : Int) : Rx (Int × Int × Int × Int) :=
  grd (-((draws_579).length : Int) ≤ 2 ∧ 2 < ((draws_579).length : Int)) <| grd (0 < ((most_581 + 1) : Int)) <| grd (-((draws_579).length : Int) ≤ 1 ∧ 1 < ((draws_579).length : Int)) <| grd (-(([0, most_581, ((itD (draws_579) (2)) % (most_581 + 1))]).length : Int) ≤ ((itD (draws_579) (1)) % 3) ∧ ((itD (draws_579) (1)) % 3) < (([0, most_581, ((itD (draws_579) (2)) % (most_581 + 1))]).length : Int)) <| .ok ((2, base_582, (itD ([0, most_581, ((itD (draws_579) (2)) % (most_581 + 1))]) (((itD (draws_579) (1)) % 3))), most_581))

def F__law_symbol_k3 (kind_651 : Int) (base_652 : Int) (value_653 : Int) : Rx (Int × Int × Int × Int) :=
  .ok ((kind_651, base_652, value_653, 0))

def F__law_symbol (cell' : Int) : Rx (Int × Int × Int × Int) :=
  Rx.bind (F__law_draws cell' ([6, 6, (1048576 + 1), 6, 256, 65, 2])) fun v458 => grd (-((v458).length : Int) ≤ 0 ∧ 0 < ((v458).length : Int)) <| bnd ((itD (v458) (0))) fun kind_468 => (if (kind_468 : Int) = 5 then grd (-((v458).length : Int) ≤ 6 ∧ 6 < ((v458).length : Int)) <| .ok ((5, 0, (itD (v458) (6)), 0)) else (if (kind_468 : Int) = 0 then grd (-((v458).length : Int) ≤ 4 ∧ 4 < ((v458).length : Int)) <| grd (-((v458).length : Int) ≤ 4 ∧ 4 < ((v458).length : Int)) <| grd (-((v458).length : Int) ≤ 3 ∧ 3 < ((v458).length : Int)) <| grd (-(([0, 255, 128, 3, (itD (v458) (4)), (itD (v458) (4))]).length : Int) ≤ (itD (v458) (3)) ∧ (itD (v458) (3)) < (([0, 255, 128, 3, (itD (v458) (4)), (itD (v458) (4))]).length : Int)) <| grd (-((v458).length : Int) ≤ 6 ∧ 6 < ((v458).length : Int)) <| .ok ((0, (itD ([0, 255, 128, 3, (itD (v458) (4)), (itD (v458) (4))]) ((itD (v458) (3)))), (itD (v458) (6)), 0)) else (if (kind_468 : Int) = 1 then grd (-((v458).length : Int) ≤ 5 ∧ 5 < ((v458).length : Int)) <| bnd ((1 + ((itD (v458) (5)) % 16))) fun count_513 => bnd (((PySem.Builtin.Int.intBits ((count_513 - 1)) : Nat) : Int)) fun width_514 => grd (-((v458).length : Int) ≤ 4 ∧ 4 < ((v458).length : Int)) <| grd (0 < ((258 - 16) : Int)) <| bnd (((itD (v458) (4)) % (258 - 16))) fun base_517 => Rx.bind ((grd (-((v458).length : Int) ≤ 3 ∧ 3 < ((v458).length : Int)) <| (if ((itD (v458) (3)) : Int) = 0 then grd ((0 : Int) ≤ width_514 ∧ (width_514 : Int) ≤ 4096 ∧ -(2 ^ 4096) < (1 : Int) ∧ (1 : Int) < 2 ^ 4096) <| bnd ((257 - (1 * 2 ^ Int.toNat (width_514)))) fun base_528 => .ok (base_528) else .ok (base_517)) : Rx (Int))) fun s => F__law_symbol_k1 (v458) (kind_468) (count_513) s else (if (kind_468 : Int) = 2 then grd (-((v458).length : Int) ≤ 5 ∧ 5 < ((v458).length : Int)) <| bnd ((itD (v458) (5))) fun most_576 => grd (-((v458).length : Int) ≤ 4 ∧ 4 < ((v458).length : Int)) <| bnd ((if (255 - (if 7 < (if 0 > (most_576 - 1) then 0 else (most_576 - 1)) then 7 else (if 0 > (most_576 - 1) then 0 else (most_576 - 1)))) < (itD (v458) (4)) then (255 - (if 7 < (if 0 > (most_576 - 1) then 0 else (most_576 - 1)) then 7 else (if 0 > (most_576 - 1) then 0 else (most_576 - 1)))) else (itD (v458) (4)))) fun base_578 => Rx.bind (((if (most_576 : Int) = 0 then grd (-((v458).length : Int) ≤ 2 ∧ 2 < ((v458).length : Int)) <| bnd ((((itD (v458) (2)) % 901) - 300)) fun base_588 => .ok (base_588) else .ok (base_578)) : Rx (Int))) fun s => F__law_symbol_k2 (v458) (kind_468) (most_576) s else grd (-((v458).length : Int) ≤ 4 ∧ 4 < ((v458).length : Int)) <| grd (-((v458).length : Int) ≤ 4 ∧ 4 < ((v458).length : Int)) <| grd (-((v458).length : Int) ≤ 3 ∧ 3 < ((v458).length : Int)) <| grd (-(([0, 240, 25, 41, ((itD (v458) (4)) % 241), ((itD (v458) (4)) % 241)]).length : Int) ≤ (itD (v458) (3)) ∧ (itD (v458) (3)) < (([0, 240, 25, 41, ((itD (v458) (4)) % 241), ((itD (v458) (4)) % 241)]).length : Int)) <| bnd ((itD ([0, 240, 25, 41, ((itD (v458) (4)) % 241), ((itD (v458) (4)) % 241)]) ((itD (v458) (3))))) fun base_634 => grd (-((v458).length : Int) ≤ 2 ∧ 2 < ((v458).length : Int)) <| grd (-((v458).length : Int) ≤ 2 ∧ 2 < ((v458).length : Int)) <| grd (-((v458).length : Int) ≤ 2 ∧ 2 < ((v458).length : Int)) <| grd (-((v458).length : Int) ≤ 1 ∧ 1 < ((v458).length : Int)) <| grd (-(([0, 1048576, (1048576 - 1), ((itD (v458) (2)) % 40), ((itD (v458) (2)) % 1000), (itD (v458) (2))]).length : Int) ≤ (itD (v458) (1)) ∧ (itD (v458) (1)) < (([0, 1048576, (1048576 - 1), ((itD (v458) (2)) % 40), ((itD (v458) (2)) % 1000), (itD (v458) (2))]).length : Int)) <| bnd ((itD ([0, 1048576, (1048576 - 1), ((itD (v458) (2)) % 40), ((itD (v458) (2)) % 1000), (itD (v458) (2))]) ((itD (v458) (1))))) fun value_650 => Rx.bind (((if (kind_468 : Int) = 4 then grd (-((v458).length : Int) ≤ 6 ∧ 6 < ((v458).length : Int)) <| (if ((itD (v458) (6)) : Int) = 1 then bnd ((-value_650)) fun value_660 => .ok (value_660) else .ok (value_650)) else .ok (value_650)) : Rx (Int))) fun s => F__law_symbol_k3 (kind_468) (base_634) s))))

def F__check_contexts (base' : Int) (count' : Int) : Rx Unit :=
  (if 0 < count' then (if 0 ≤ base' then (if base' ≤ (256 - count') then .ok (()) else .er 1) else .er 1) else .ok (()))

def F__check_context (context' : Int) : Rx Unit :=
  (if 0 ≤ context' then (if context' < 256 then .ok (()) else .er 1) else .er 1)

def F__check_decision (decision' : Int) : Rx Unit :=
  (if 0 ≤ decision' then (if decision' ≤ 1 then .ok (()) else .er 1) else .er 1)

def F__adapted (chance' : Int) (decision' : Int) : Rx Int :=
  (if (decision' : Int) = 0 then .ok ((chance' + ((4096 - chance') / 32))) else .ok ((chance' - (chance' / 32))))

def F_Encoder__carry_r1 (self_716 : St_Encoder) (place_717 : Int) : Rx St_Encoder :=
  grd ((0 : Int) ≤ place_717 ∧ place_717 < 2 ^ 62 ∧ place_717 < ((self_716.front).length : Int)) <| grd (-((self_716.front).length : Int) ≤ place_717 ∧ place_717 < ((self_716.front).length : Int)) <| bnd (setL (self_716.front) (place_717) (((itD (self_716.front) (place_717)) + 1))) fun y726 => .ok (⟨self_716.probs, y726, self_716.low, self_716.span⟩ : St_Encoder)

def F_Encoder__carry_b1 (self_699 : St_Encoder) (place_700 : Int) : Rx (Lp (St_Encoder × Int) St_Encoder) :=
  grd (-((self_699.front).length : Int) ≤ place_700 ∧ place_700 < ((self_699.front).length : Int)) <| (if ((itD (self_699.front) (place_700)) : Int) = 255 then grd (-((self_699.front).length : Int) ≤ place_700 ∧ place_700 < ((self_699.front).length : Int)) <| bnd (setL (self_699.front) (place_700) (0)) fun y712 => bnd ((place_700 - 1)) fun place_713 => .ok (.go (((⟨self_699.probs, y712, self_699.low, self_699.span⟩ : St_Encoder)), (place_713))) else .ok (.bk ((self_699), (place_700))))

def F_Encoder__carry (self' : St_Encoder) : Rx St_Encoder :=
  bnd (((((self'.front) : (List Int)).length : Int) - 1)) fun place_686 => Rx.bind ((whileR 1000000 ((self'), (place_686)) (fun s => F_Encoder__carry_b1  (s.1) (s.2)) : Rx (Lp (St_Encoder × Int) St_Encoder))) fun l => l.aft Rx.ok fun s => F_Encoder__carry_r1  (s.1) (s.2)

def F_Encoder__narrow_r2 (self_830 : St_Encoder) : Rx St_Encoder :=
  .ok self_830

def F_Encoder__narrow_b2 (self_799 : St_Encoder) : Rx (Lp (St_Encoder) St_Encoder) :=
  (if self_799.span < 16777216 then grd ((self_799.front).length ≤ 1000000) <| bnd ((self_799.front) ++ [(self_799.low / 16777216)]) fun y810 => grd ((0 : Int) ≤ 8 ∧ (8 : Int) ≤ 4096 ∧ -(2 ^ 4096) < (self_799.low : Int) ∧ (self_799.low : Int) < 2 ^ 4096) <| bnd ((PySem.Builtin.bitAnd ((self_799.low * 2 ^ Int.toNat (8))) ((4294967296 - 1)))) fun _low_813 => grd ((0 : Int) ≤ 8 ∧ (8 : Int) ≤ 4096 ∧ -(2 ^ 4096) < (self_799.span : Int) ∧ (self_799.span : Int) < 2 ^ 4096) <| bnd ((self_799.span * 2 ^ Int.toNat (8))) fun _span_821 => .ok (.go ((⟨self_799.probs, y810, _low_813, _span_821⟩ : St_Encoder))) else .ok (.bk (self_799)))

def F_Encoder__narrow_k1 (self_731 : St_Encoder) : Rx St_Encoder :=
  Rx.bind ((whileR 1000000 (self_731) (fun s => F_Encoder__narrow_b2  s) : Rx (Lp (St_Encoder) St_Encoder))) fun l => l.aft Rx.ok fun s => F_Encoder__narrow_r2  s

def F_Encoder__narrow (self' : St_Encoder) (chance' : Int) (decision' : Int) : Rx St_Encoder :=
  grd ((-(2 ^ 64) < ((self'.span / 4096) : Int) ∧ ((self'.span / 4096) : Int) < 2 ^ 64) ∨ (-(2 ^ 64) < (chance' : Int) ∧ (chance' : Int) < 2 ^ 64)) <| bnd (((self'.span / 4096) * chance')) fun part_730 => Rx.bind (((if (decision' : Int) = 0 then .ok ((⟨self'.probs, self'.front, self'.low, part_730⟩ : St_Encoder)) else bnd ((self'.span - part_730)) fun _span_744 => bnd ((self'.low + part_730)) fun _low_751 => (if 4294967296 ≤ _low_751 then bnd ((_low_751 - 4294967296)) fun _low_759 => Rx.bind (noEr (F_Encoder__carry ((⟨self'.probs, self'.front, _low_759, _span_744⟩ : St_Encoder)))) fun v768 => .ok (v768) else .ok ((⟨self'.probs, self'.front, _low_751, _span_744⟩ : St_Encoder)))) : Rx (St_Encoder))) fun s => F_Encoder__narrow_k1  s

def F_Encoder_code (self' : St_Encoder) (context' : Int) (decision' : Int) : Rx St_Encoder :=
  Rx.bind (F__check_context context') fun v831 => Rx.bind (F__check_decision decision') fun v832 => grd (-((self'.probs).length : Int) ≤ context' ∧ context' < ((self'.probs).length : Int)) <| bnd ((itD (self'.probs) (context'))) fun chance_834 => Rx.bind (F_Encoder__narrow (self') chance_834 decision') fun v835 => Rx.bind (noEr (F__adapted chance_834 decision')) fun v846 => grd (-((v835.probs).length : Int) ≤ context' ∧ context' < ((v835.probs).length : Int)) <| bnd (setL (v835.probs) (context') (v846)) fun y854 => .ok (⟨y854, v835.front, v835.low, v835.span⟩ : St_Encoder)

def F_SymbolWriter_flag (self' : St_SymbolWriter) (base' : Int) (value' : Bool) : Rx St_SymbolWriter :=
  Rx.bind (F__check_contexts base' 1) fun v857 => Rx.bind (F_Encoder_code (self'.enc) base' ((if value' = true then 1 else 0))) fun v861 => .ok (⟨v861⟩ : St_SymbolWriter)

def F__choice_digits (base' : Int) (count' : Int) : Rx Int :=
  (if 1 ≤ count' then (if count' ≤ 16 then bnd (((PySem.Builtin.Int.intBits ((count' - 1)) : Nat) : Int)) fun digits_875 => grd ((0 : Int) ≤ digits_875 ∧ (digits_875 : Int) ≤ 4096 ∧ -(2 ^ 4096) < (1 : Int) ∧ (1 : Int) < 2 ^ 4096) <| Rx.bind (F__check_contexts base' (((1 * 2 ^ Int.toNat (digits_875)) - 1))) fun v877 => .ok (digits_875) else .er 1) else .er 1)

def F_SymbolWriter_choice_b1 (base_885 : Int) (value_886 : Int) (self_906 : St_SymbolWriter) (path_907 : Int) (it910 : Int) : Rx (St_SymbolWriter × Int) :=
  grd ((0 : Int) ≤ it910) <| bnd ((PySem.Builtin.bitAnd ((value_886 / 2 ^ Int.toNat (it910))) (1))) fun digit_912 => Rx.bind (noEr (F_Encoder_code (self_906.enc) (((base_885 + path_907) - 1)) digit_912)) fun v913 => bnd (((2 * path_907) + digit_912)) fun path_924 => .ok (((⟨v913⟩ : St_SymbolWriter)), (path_924))

def F_SymbolWriter_choice_r1 (self_934 : St_SymbolWriter) (path_935 : Int) : Rx St_SymbolWriter :=
  .ok self_934

def F_SymbolWriter_choice (self' : St_SymbolWriter) (base' : Int) (value' : Int) (count' : Int) : Rx St_SymbolWriter :=
  Rx.bind (F__choice_digits base' count') fun v878 => (if 0 ≤ value' then (if value' < count' then grd (-(2 ^ 62) ≤ ((v878 - 1) : Int) ∧ ((v878 - 1) : Int) < 2 ^ 62 ∧ -(2 ^ 62) ≤ ((-1) : Int) ∧ ((-1) : Int) < 2 ^ 62) <| Rx.bind (forS (rngD ((v878 - 1)) (Int.toNat ((v878 - 1) - (-1)))) ((self'), (1)) (fun s x => F_SymbolWriter_choice_b1 (base') (value') (s.1) (s.2) x)) fun s => F_SymbolWriter_choice_r1  (s.1) (s.2) else .er 1) else .er 1)

def F__check_unary (base' : Int) (most' : Int) : Rx Unit :=
  (if 0 ≤ most' then (if most' ≤ 64 then Rx.bind (F__check_contexts base' ((if 8 < most' then 8 else most'))) fun v938 => .ok (()) else .er 1) else .er 1)

def F_SymbolWriter_unary_b1 (base_943 : Int) (self_960 : St_SymbolWriter) (it963 : Int) : Rx (St_SymbolWriter) :=
  Rx.bind (noEr (F_Encoder_code (self_960.enc) ((base_943 + (if (8 - 1) < it963 then (8 - 1) else it963))) 1)) fun v964 => .ok ((⟨v964⟩ : St_SymbolWriter))

def F_SymbolWriter_unary_r1 (base_944 : Int) (value_945 : Int) (most_946 : Int) (self_984 : St_SymbolWriter) : Rx St_SymbolWriter :=
  (if value_945 < most_946 then Rx.bind (noEr (F_Encoder_code (self_984.enc) ((base_944 + (if (8 - 1) < value_945 then (8 - 1) else value_945))) 0)) fun v986 => .ok (⟨v986⟩ : St_SymbolWriter) else .ok self_984)

def F_SymbolWriter_unary (self' : St_SymbolWriter) (base' : Int) (value' : Int) (most' : Int) : Rx St_SymbolWriter :=
  Rx.bind (F__check_unary base' most') fun v939 => (if 0 ≤ value' then (if value' ≤ most' then grd (-(2 ^ 62) ≤ value' ∧ value' < 2 ^ 62) <| Rx.bind (forS (rng (0) (Int.toNat (value'))) (self') (fun s x => F_SymbolWriter_unary_b1 (base') s x)) fun s => F_SymbolWriter_unary_r1 (base') (value') (most') s else .er 1) else .er 1)

def F__digit_context (base' : Int) (digits' : Int) : Rx Int :=
  .ok (((base' + 8) + (if (8 - 1) < (digits' - 1) then (8 - 1) else (digits' - 1))))

def F_Encoder_code_even (self' : St_Encoder) (decision' : Int) : Rx St_Encoder :=
  Rx.bind (F__check_decision decision') fun v998 => Rx.bind (F_Encoder__narrow (self') 2048 decision') fun v999 => .ok v999

def F_SymbolWriter_number_b1 (base_1027 : Int) (value_1028 : Int) (digits_1029 : Int) (self_1044 : St_SymbolWriter) (it1047 : Int) : Rx (St_SymbolWriter) :=
  grd ((0 : Int) ≤ it1047) <| bnd ((PySem.Builtin.bitAnd (((value_1028 + 1) / 2 ^ Int.toNat (it1047))) (1))) fun digit_1049 => (if (it1047 : Int) = (digits_1029 - 1) then Rx.bind (noEr (F__digit_context base_1027 digits_1029)) fun v1051 => Rx.bind (noEr (F_Encoder_code (self_1044.enc) v1051 digit_1049)) fun v1052 => .ok ((⟨v1052⟩ : St_SymbolWriter)) else Rx.bind (noEr (F_Encoder_code_even (self_1044.enc) digit_1049)) fun v1064 => .ok ((⟨v1064⟩ : St_SymbolWriter)))

def F_SymbolWriter_number_r1 (self_1084 : St_SymbolWriter) : Rx St_SymbolWriter :=
  .ok self_1084

def F_SymbolWriter_number (self' : St_SymbolWriter) (base' : Int) (value' : Int) : Rx St_SymbolWriter :=
  Rx.bind (F__check_contexts base' ((2 * 8))) fun v1010 => (if 0 ≤ value' then (if value' ≤ 1048576 then bnd ((((PySem.Builtin.Int.intBits ((value' + 1)) : Nat) : Int) - 1)) fun digits_1013 => Rx.bind (F_SymbolWriter_unary (self') base' digits_1013 20) fun v1014 => grd (-(2 ^ 62) ≤ ((digits_1013 - 1) : Int) ∧ ((digits_1013 - 1) : Int) < 2 ^ 62 ∧ -(2 ^ 62) ≤ ((-1) : Int) ∧ ((-1) : Int) < 2 ^ 62) <| Rx.bind (forS (rngD ((digits_1013 - 1)) (Int.toNat ((digits_1013 - 1) - (-1)))) (v1014) (fun s x => F_SymbolWriter_number_b1 (base') (value') (digits_1013) s x)) fun s => F_SymbolWriter_number_r1  s else .er 1) else .er 1)

def F_SymbolWriter_signed (self' : St_SymbolWriter) (base' : Int) (value' : Int) : Rx St_SymbolWriter :=
  Rx.bind (F_SymbolWriter_number (self') base' ((if value' < 0 then -value' else value'))) fun v1085 => (if (value' : Int) = 0 then .ok v1085 else Rx.bind (noEr (F_Encoder_code_even (v1085.enc) ((if value' < 0 then 1 else 0)))) fun v1101 => .ok (⟨v1101⟩ : St_SymbolWriter))

def F_SymbolWriter_even (self' : St_SymbolWriter) (decision' : Int) : Rx St_SymbolWriter :=
  Rx.bind (F_Encoder_code_even (self'.enc) decision') fun v1113 => .ok (⟨v1113⟩ : St_SymbolWriter)

def F__law_put (writer' : St_SymbolWriter) (symbol' : (Int × Int × Int × Int)) : Rx St_SymbolWriter :=
  (if (symbol'.1 : Int) = 0 then Rx.bind (F_SymbolWriter_flag (writer') symbol'.2.1 (decide ((symbol'.2.2.1 : Int) = 1))) fun v1136 => (if (symbol'.1 : Int) = 1 then Rx.bind (noEr (F_SymbolWriter_choice (v1136) symbol'.2.1 symbol'.2.2.1 symbol'.2.2.2)) fun v1149 => (if (symbol'.1 : Int) = 2 then Rx.bind (noEr (F_SymbolWriter_unary (v1149) symbol'.2.1 symbol'.2.2.1 symbol'.2.2.2)) fun v1162 => (if (symbol'.1 : Int) = 3 then Rx.bind (noEr (F_SymbolWriter_number (v1162) symbol'.2.1 symbol'.2.2.1)) fun v1175 => (if (symbol'.1 : Int) = 4 then Rx.bind (noEr (F_SymbolWriter_signed (v1175) symbol'.2.1 symbol'.2.2.1)) fun v1188 => (if (symbol'.1 : Int) = 5 then Rx.bind (noEr (F_SymbolWriter_even (v1188) symbol'.2.2.1)) fun v1201 => .ok v1201 else .ok v1188) else (if (symbol'.1 : Int) = 5 then Rx.bind (noEr (F_SymbolWriter_even (v1175) symbol'.2.2.1)) fun v1214 => .ok v1214 else .ok v1175)) else (if (symbol'.1 : Int) = 4 then Rx.bind (noEr (F_SymbolWriter_signed (v1162) symbol'.2.1 symbol'.2.2.1)) fun v1227 => (if (symbol'.1 : Int) = 5 then Rx.bind (noEr (F_SymbolWriter_even (v1227) symbol'.2.2.1)) fun v1240 => .ok v1240 else .ok v1227) else (if (symbol'.1 : Int) = 5 then Rx.bind (noEr (F_SymbolWriter_even (v1162) symbol'.2.2.1)) fun v1253 => .ok v1253 else .ok v1162))) else (if (symbol'.1 : Int) = 3 then Rx.bind (noEr (F_SymbolWriter_number (v1149) symbol'.2.1 symbol'.2.2.1)) fun v1266 => (if (symbol'.1 : Int) = 4 then Rx.bind (noEr (F_SymbolWriter_signed (v1266) symbol'.2.1 symbol'.2.2.1)) fun v1279 => (if (symbol'.1 : Int) = 5 then Rx.bind (noEr (F_SymbolWriter_even (v1279) symbol'.2.2.1)) fun v1292 => .ok v1292 else .ok v1279) else (if (symbol'.1 : Int) = 5 then Rx.bind (noEr (F_SymbolWriter_even (v1266) symbol'.2.2.1)) fun v1305 => .ok v1305 else .ok v1266)) else (if (symbol'.1 : Int) = 4 then Rx.bind (noEr (F_SymbolWriter_signed (v1149) symbol'.2.1 symbol'.2.2.1)) fun v1318 => (if (symbol'.1 : Int) = 5 then Rx.bind (noEr (F_SymbolWriter_even (v1318) symbol'.2.2.1)) fun v1331 => .ok v1331 else .ok v1318) else (if (symbol'.1 : Int) = 5 then Rx.bind (noEr (F_SymbolWriter_even (v1149) symbol'.2.2.1)) fun v1344 => .ok v1344 else .ok v1149)))) else (if (symbol'.1 : Int) = 2 then Rx.bind (noEr (F_SymbolWriter_unary (v1136) symbol'.2.1 symbol'.2.2.1 symbol'.2.2.2)) fun v1357 => (if (symbol'.1 : Int) = 3 then Rx.bind (noEr (F_SymbolWriter_number (v1357) symbol'.2.1 symbol'.2.2.1)) fun v1370 => (if (symbol'.1 : Int) = 4 then Rx.bind (noEr (F_SymbolWriter_signed (v1370) symbol'.2.1 symbol'.2.2.1)) fun v1383 => (if (symbol'.1 : Int) = 5 then Rx.bind (noEr (F_SymbolWriter_even (v1383) symbol'.2.2.1)) fun v1396 => .ok v1396 else .ok v1383) else (if (symbol'.1 : Int) = 5 then Rx.bind (noEr (F_SymbolWriter_even (v1370) symbol'.2.2.1)) fun v1409 => .ok v1409 else .ok v1370)) else (if (symbol'.1 : Int) = 4 then Rx.bind (noEr (F_SymbolWriter_signed (v1357) symbol'.2.1 symbol'.2.2.1)) fun v1422 => (if (symbol'.1 : Int) = 5 then Rx.bind (noEr (F_SymbolWriter_even (v1422) symbol'.2.2.1)) fun v1435 => .ok v1435 else .ok v1422) else (if (symbol'.1 : Int) = 5 then Rx.bind (noEr (F_SymbolWriter_even (v1357) symbol'.2.2.1)) fun v1448 => .ok v1448 else .ok v1357))) else (if (symbol'.1 : Int) = 3 then Rx.bind (noEr (F_SymbolWriter_number (v1136) symbol'.2.1 symbol'.2.2.1)) fun v1461 => (if (symbol'.1 : Int) = 4 then Rx.bind (noEr (F_SymbolWriter_signed (v1461) symbol'.2.1 symbol'.2.2.1)) fun v1474 => (if (symbol'.1 : Int) = 5 then Rx.bind (noEr (F_SymbolWriter_even (v1474) symbol'.2.2.1)) fun v1487 => .ok v1487 else .ok v1474) else (if (symbol'.1 : Int) = 5 then Rx.bind (noEr (F_SymbolWriter_even (v1461) symbol'.2.2.1)) fun v1500 => .ok v1500 else .ok v1461)) else (if (symbol'.1 : Int) = 4 then Rx.bind (noEr (F_SymbolWriter_signed (v1136) symbol'.2.1 symbol'.2.2.1)) fun v1513 => (if (symbol'.1 : Int) = 5 then Rx.bind (noEr (F_SymbolWriter_even (v1513) symbol'.2.2.1)) fun v1526 => .ok v1526 else .ok v1513) else (if (symbol'.1 : Int) = 5 then Rx.bind (noEr (F_SymbolWriter_even (v1136) symbol'.2.2.1)) fun v1539 => .ok v1539 else .ok v1136))))) else (if (symbol'.1 : Int) = 1 then Rx.bind (F_SymbolWriter_choice (writer') symbol'.2.1 symbol'.2.2.1 symbol'.2.2.2) fun v1552 => (if (symbol'.1 : Int) = 2 then Rx.bind (noEr (F_SymbolWriter_unary (v1552) symbol'.2.1 symbol'.2.2.1 symbol'.2.2.2)) fun v1565 => (if (symbol'.1 : Int) = 3 then Rx.bind (noEr (F_SymbolWriter_number (v1565) symbol'.2.1 symbol'.2.2.1)) fun v1578 => (if (symbol'.1 : Int) = 4 then Rx.bind (noEr (F_SymbolWriter_signed (v1578) symbol'.2.1 symbol'.2.2.1)) fun v1591 => (if (symbol'.1 : Int) = 5 then Rx.bind (noEr (F_SymbolWriter_even (v1591) symbol'.2.2.1)) fun v1604 => .ok v1604 else .ok v1591) else (if (symbol'.1 : Int) = 5 then Rx.bind (noEr (F_SymbolWriter_even (v1578) symbol'.2.2.1)) fun v1617 => .ok v1617 else .ok v1578)) else (if (symbol'.1 : Int) = 4 then Rx.bind (noEr (F_SymbolWriter_signed (v1565) symbol'.2.1 symbol'.2.2.1)) fun v1630 => (if (symbol'.1 : Int) = 5 then Rx.bind (noEr (F_SymbolWriter_even (v1630) symbol'.2.2.1)) fun v1643 => .ok v1643 else .ok v1630) else (if (symbol'.1 : Int) = 5 then Rx.bind (noEr (F_SymbolWriter_even (v1565) symbol'.2.2.1)) fun v1656 => .ok v1656 else .ok v1565))) else (if (symbol'.1 : Int) = 3 then Rx.bind (noEr (F_SymbolWriter_number (v1552) symbol'.2.1 symbol'.2.2.1)) fun v1669 => (if (symbol'.1 : Int) = 4 then Rx.bind (noEr (F_SymbolWriter_signed (v1669) symbol'.2.1 symbol'.2.2.1)) fun v1682 => (if (symbol'.1 : Int) = 5 then Rx.bind (noEr (F_SymbolWriter_even (v1682) symbol'.2.2.1)) fun v1695 => .ok v1695 else .ok v1682) else (if (symbol'.1 : Int) = 5 then Rx.bind (noEr (F_SymbolWriter_even (v1669) symbol'.2.2.1)) fun v1708 => .ok v1708 else .ok v1669)) else (if (symbol'.1 : Int) = 4 then Rx.bind (noEr (F_SymbolWriter_signed (v1552) symbol'.2.1 symbol'.2.2.1)) fun v1721 => (if (symbol'.1 : Int) = 5 then Rx.bind (noEr (F_SymbolWriter_even (v1721) symbol'.2.2.1)) fun v1734 => .ok v1734 else .ok v1721) else (if (symbol'.1 : Int) = 5 then Rx.bind (noEr (F_SymbolWriter_even (v1552) symbol'.2.2.1)) fun v1747 => .ok v1747 else .ok v1552)))) else (if (symbol'.1 : Int) = 2 then Rx.bind (F_SymbolWriter_unary (writer') symbol'.2.1 symbol'.2.2.1 symbol'.2.2.2) fun v1760 => (if (symbol'.1 : Int) = 3 then Rx.bind (noEr (F_SymbolWriter_number (v1760) symbol'.2.1 symbol'.2.2.1)) fun v1773 => (if (symbol'.1 : Int) = 4 then Rx.bind (noEr (F_SymbolWriter_signed (v1773) symbol'.2.1 symbol'.2.2.1)) fun v1786 => (if (symbol'.1 : Int) = 5 then Rx.bind (noEr (F_SymbolWriter_even (v1786) symbol'.2.2.1)) fun v1799 => .ok v1799 else .ok v1786) else (if (symbol'.1 : Int) = 5 then Rx.bind (noEr (F_SymbolWriter_even (v1773) symbol'.2.2.1)) fun v1812 => .ok v1812 else .ok v1773)) else (if (symbol'.1 : Int) = 4 then Rx.bind (noEr (F_SymbolWriter_signed (v1760) symbol'.2.1 symbol'.2.2.1)) fun v1825 => (if (symbol'.1 : Int) = 5 then Rx.bind (noEr (F_SymbolWriter_even (v1825) symbol'.2.2.1)) fun v1838 => .ok v1838 else .ok v1825) else (if (symbol'.1 : Int) = 5 then Rx.bind (noEr (F_SymbolWriter_even (v1760) symbol'.2.2.1)) fun v1851 => .ok v1851 else .ok v1760))) else (if (symbol'.1 : Int) = 3 then Rx.bind (F_SymbolWriter_number (writer') symbol'.2.1 symbol'.2.2.1) fun v1864 => (if (symbol'.1 : Int) = 4 then Rx.bind (noEr (F_SymbolWriter_signed (v1864) symbol'.2.1 symbol'.2.2.1)) fun v1877 => (if (symbol'.1 : Int) = 5 then Rx.bind (noEr (F_SymbolWriter_even (v1877) symbol'.2.2.1)) fun v1890 => .ok v1890 else .ok v1877) else (if (symbol'.1 : Int) = 5 then Rx.bind (noEr (F_SymbolWriter_even (v1864) symbol'.2.2.1)) fun v1903 => .ok v1903 else .ok v1864)) else (if (symbol'.1 : Int) = 4 then Rx.bind (F_SymbolWriter_signed (writer') symbol'.2.1 symbol'.2.2.1) fun v1916 => (if (symbol'.1 : Int) = 5 then Rx.bind (noEr (F_SymbolWriter_even (v1916) symbol'.2.2.1)) fun v1929 => .ok v1929 else .ok v1916) else (if (symbol'.1 : Int) = 5 then Rx.bind (F_SymbolWriter_even (writer') symbol'.2.2.1) fun v1942 => .ok v1942 else .ok writer'))))))

def F__law_unary_items_c1 (base_1955 : Int) (it1984 : Int) : Rx (Int × Int) :=
  .ok (((base_1955 + (if 7 < it1984 then 7 else it1984)), 1))

def F__law_unary_items_k2 (items_2016 : (List (Int × Int))) : Rx (List (Int × Int)) :=
  .ok (items_2016)

def F__law_unary_items (base' : Int) (value' : Int) (most' : Int) : Rx (List (Int × Int)) :=
  grd (-(2 ^ 62) ≤ value' ∧ value' < 2 ^ 62) <| Rx.bind (mapA (rng (0) (Int.toNat (value'))) [] (fun x => noEr (F__law_unary_items_c1 (base') x))) fun v1956 => Rx.bind (((if value' < most' then grd ((v1956).length ≤ 1000000) <| bnd ((v1956) ++ [((base' + (if 7 < value' then 7 else value')), 0)]) fun y2043 => .ok (y2043) else .ok (v1956)) : Rx ((List (Int × Int))))) fun s => F__law_unary_items_k2  s

def F__law_number_items_b1 (base_2067 : Int) (value_2068 : Int) (size_2069 : Int) (items_2083 : (List (Int × Int))) (it2086 : Int) : Rx ((List (Int × Int))) :=
  grd ((0 : Int) ≤ ((size_2069 - 2) - it2086)) <| bnd ((PySem.Builtin.bitAnd (((value_2068 + 1) / 2 ^ Int.toNat (((size_2069 - 2) - it2086)))) (1))) fun digit_2088 => (if (it2086 : Int) = 0 then grd ((items_2083).length ≤ 1000000) <| bnd ((items_2083) ++ [(((base_2067 + 8) + (if 7 < (size_2069 - 2) then 7 else (size_2069 - 2))), digit_2088)]) fun y2111 => .ok (y2111) else grd ((items_2083).length ≤ 1000000) <| bnd ((items_2083) ++ [((-1), digit_2088)]) fun y2133 => .ok (y2133))

def F__law_number_items_r1 (items_2140 : (List (Int × Int))) : Rx (List (Int × Int)) :=
  .ok (items_2140)

def F__law_number_items (base' : Int) (value' : Int) : Rx (List (Int × Int)) :=
  bnd (((PySem.Builtin.Int.intBits ((value' + 1)) : Nat) : Int)) fun size_2050 => Rx.bind (F__law_unary_items base' ((size_2050 - 1)) 20) fun v2051 => grd (-(2 ^ 62) ≤ (size_2050 - 1) ∧ (size_2050 - 1) < 2 ^ 62) <| Rx.bind (forS (rng (0) (Int.toNat ((size_2050 - 1)))) (v2051) (fun s x => F__law_number_items_b1 (base') (value') (size_2050) s x)) fun s => F__law_number_items_r1  s

def F__law_symbol_items_b1 (base_2187 : Int) (value_2188 : Int) (width_2189 : Int) (items_2206 : (List (Int × Int))) (it2209 : Int) : Rx ((List (Int × Int))) :=
  grd ((0 : Int) ≤ it2209 ∧ (it2209 : Int) ≤ 4096 ∧ -(2 ^ 4096) < (1 : Int) ∧ (1 : Int) < 2 ^ 4096) <| grd ((0 : Int) ≤ (width_2189 - it2209)) <| bnd (((1 * 2 ^ Int.toNat (it2209)) + (value_2188 / 2 ^ Int.toNat ((width_2189 - it2209))))) fun before_2212 => grd ((0 : Int) ≤ ((width_2189 - 1) - it2209)) <| grd ((items_2206).length ≤ 1000000) <| bnd ((items_2206) ++ [(((base_2187 + before_2212) - 1), (PySem.Builtin.bitAnd ((value_2188 / 2 ^ Int.toNat (((width_2189 - 1) - it2209)))) (1)))]) fun y2235 => .ok (y2235)

def F__law_symbol_items_r1 (symbol_2190 : (Int × Int × Int × Int)) (base_2191 : Int) (value_2192 : Int) (items_2242 : (List (Int × Int))) : Rx (List (Int × Int)) :=
  .ok (items_2242)

def F__law_symbol_items_k2 (items_2297 : (List (Int × Int))) : Rx (List (Int × Int)) :=
  .ok (items_2297)

def F__law_symbol_items (symbol' : (Int × Int × Int × Int)) : Rx (List (Int × Int)) :=
  (if (symbol'.1 : Int) = 0 then .ok ([(symbol'.2.1, symbol'.2.2.1)]) else (if (symbol'.1 : Int) = 1 then bnd (((PySem.Builtin.Int.intBits ((symbol'.2.2.2 - 1)) : Nat) : Int)) fun width_2175 => grd (-(2 ^ 62) ≤ width_2175 ∧ width_2175 < 2 ^ 62) <| Rx.bind (forS (rng (0) (Int.toNat (width_2175))) (([] : (List (Int × Int)))) (fun s x => F__law_symbol_items_b1 (symbol'.2.1) (symbol'.2.2.1) (width_2175) s x)) fun s => F__law_symbol_items_r1 (symbol') (symbol'.2.1) (symbol'.2.2.1) s else (if (symbol'.1 : Int) = 2 then Rx.bind (F__law_unary_items symbol'.2.1 symbol'.2.2.1 symbol'.2.2.2) fun v2244 => .ok (v2244) else (if (symbol'.1 : Int) = 5 then .ok ([((-1), symbol'.2.2.1)]) else Rx.bind (F__law_number_items symbol'.2.1 ((if symbol'.2.2.1 < 0 then -symbol'.2.2.1 else symbol'.2.2.1))) fun v2282 => Rx.bind (((if (symbol'.1 : Int) = 4 then (if (symbol'.2.2.1 : Int) = 0 then .ok (v2282) else grd ((v2282).length ≤ 1000000) <| bnd ((v2282) ++ [((-1), (if decide (symbol'.2.2.1 < 0) = true then 1 else 0))]) fun y2325 => .ok (y2325)) else .ok (v2282)) : Rx ((List (Int × Int))))) fun s => F__law_symbol_items_k2  s))))

def F_Encoder_octets_c1 (self_2344 : St_Encoder) (it2385 : Int) : Rx Int :=
  grd ((0 : Int) ≤ it2385) <| .ok ((PySem.Builtin.bitAnd ((self_2344.low / 2 ^ Int.toNat (it2385))) (255)))

def F_Encoder_octets_r2 (octets_2438 : (List Int)) : Rx (List Int) :=
  .ok (octets_2438)

def F_Encoder_octets_b2 (octets_2424 : (List Int)) : Rx (Lp ((List Int)) (List Int)) :=
  (if (octets_2424 : (List Int)) = [] then .ok (.bk (octets_2424)) else grd (-((octets_2424).length : Int) ≤ (-1) ∧ (-1) < ((octets_2424).length : Int)) <| (if ((itD (octets_2424) ((-1))) : Int) = 0 then grd ((octets_2424) ≠ []) <| bnd ((octets_2424).dropLast) fun y2437 => .ok (.go (y2437)) else .ok (.bk (octets_2424))))

def F_Encoder_octets (self' : St_Encoder) : Rx (List Int) :=
  Rx.bind (mapA ([24, 16, 8, 0]) [] (fun x => noEr (F_Encoder_octets_c1 (self') x))) fun v2345 => grd ((self'.front).length + (v2345).length ≤ 1000000) <| Rx.bind ((whileR 1000000 ((self'.front) ++ (v2345)) (fun s => F_Encoder_octets_b2  s) : Rx (Lp ((List Int)) (List Int)))) fun l => l.aft Rx.ok fun s => F_Encoder_octets_r2  s

def F_Encoder_probability (self' : St_Encoder) (context' : Int) : Rx Int :=
  Rx.bind (F__check_context context') fun v2440 => grd (-((self'.probs).length : Int) ≤ context' ∧ context' < ((self'.probs).length : Int)) <| .ok ((itD (self'.probs) (context')))

def F_law_c1 (it2487 : Int) : Rx (Int × Int × Int × Int) :=
  Rx.bind (F__law_symbol it2487) fun v2488 => .ok v2488

def F_law_b2 (writer_2740 : St_SymbolWriter) (items_2741 : (List (Int × Int))) (it2744 : (Int × Int × Int × Int)) : Rx (St_SymbolWriter × (List (Int × Int))) :=
  Rx.bind (F__law_put (writer_2740) (it2744)) fun v2745 => Rx.bind (F__law_symbol_items (it2744)) fun v2757 => grd ((items_2741 : (List (Int × Int))).length + (v2757 : (List (Int × Int))).length ≤ 1000000) <| .ok ((v2745), ((items_2741) ++ (v2757)))

def F_law_b3 (encoder_2845 : St_Encoder) (due_2846 : ((List Int) × (List Int))) (it2867 : Int) : Rx (Lp Unit Bool) :=
  Rx.bind (F_Encoder_probability (encoder_2845) it2867) fun v2868 => grd (-((due_2846.2).length : Int) ≤ it2867 ∧ it2867 < ((due_2846.2).length : Int)) <| (if (v2868 : Int) = (itD (due_2846.2) (it2867)) then .ok (.go ()) else .ok (.rt (false)))

def F_law_r3  : Rx Bool :=
  .ok (true)

def F_law_r2 (writer_2810 : St_SymbolWriter) (items_2811 : (List (Int × Int))) : Rx Bool :=
  Rx.bind (F__law_code (items_2811)) fun v2812 => Rx.bind (F_Encoder_octets (writer_2810.enc)) fun v2835 => (if (v2835 : (List Int)) = v2812.1 then Rx.bind (forR (rng (0) (Int.toNat (256))) () (fun s x => F_law_b3 (writer_2810.enc) (v2812)  x)) fun l => l.aft Rx.ok fun s => F_law_r3   else .ok (false))

def F_law (script' : (List Int)) : Rx Bool :=
  Rx.bind (F__law_named) fun v2442 => (if v2442 = true then Rx.bind (mapA (script') [] (fun x => noEr (F_law_c1  x))) fun v2447 => grd ((v2447 : (List (Int × Int × Int × Int))).length + ([(0, 0, 1, 0), (1, 8, 5, 8), (4, 25, (-3), 0), (1, 24, 1, 2), (3, 41, 70, 0)] : (List (Int × Int × Int × Int))).length ≤ 1000000) <| Rx.bind F_Encoder___init__ fun v2642 => Rx.bind (F_SymbolWriter___init__ (v2642)) fun v2670 => Rx.bind (forS (cutL ((v2447) ++ ([(0, 0, 1, 0), (1, 8, 5, 8), (4, 25, (-3), 0), (1, 24, 1, 2), (3, 41, 70, 0)])) none (some (40))) (((⟨v2642⟩ : St_SymbolWriter)), (([] : (List (Int × Int))))) (fun s x => F_law_b2  (s.1) (s.2) x)) fun s => F_law_r2  (s.1) (s.2) else .ok (false))
def Inb : List Int → List Int → Prop
  | [], [] => True
  | v :: vs, l :: ls => 0 ≤ v ∧ v < l ∧ Inb vs ls
  | _, _ => False
theorem Inb.snoc : ∀ {vs ls : List Int} {y l : Int}, Inb vs ls → 0 ≤ y → y < l → Inb (vs ++ [y]) (ls ++ [l])
  | [], [], _, _, _, h0, h1 => ⟨h0, h1, trivial⟩
  | _ :: _, _ :: _, _, _, h, h0, h1 => ⟨h.1, h.2.1, Inb.snoc h.2.2 h0 h1⟩
  | [], _ :: _, _, _, h, _, _ => h.elim
  | _ :: _, [], _, _, h, _, _ => h.elim
theorem Inb.len : ∀ {vs ls : List Int}, Inb vs ls → vs.length = ls.length
  | [], [], _ => rfl
  | _ :: _, _ :: _, h => congrArg Nat.succ (Inb.len h.2.2)
  | [], _ :: _, h => h.elim
  | _ :: _, [], h => h.elim
theorem Inb.cons {v ls : List Int} {l : Int} (h : Inb v (l :: ls)) : ∃ a r, v = a :: r ∧ 0 ≤ a ∧ a < l ∧ Inb r ls := by
  cases v with
  | nil => exact h.elim
  | cons a r => exact ⟨a, r, rfl, h.1, h.2.1, h.2.2⟩
theorem Inb.nil {v : List Int} (h : Inb v []) : v = [] := by
  cases v with
  | nil => rfl
  | cons a r => exact h.elim
theorem draws_gv (cell : Int) (limits : List Int) (hl : ∀ l ∈ limits, 0 < l ∧ l < 18446744073709551616) (hn : limits.length ≤ 1000000) : Gv (F__law_draws cell limits) (fun v => Inb v limits) := by
  unfold F__law_draws
  refine Gv.bnd fun rest _ => Gv.bnd fun state _ => Gv.bnd fun free _ => Gv.bind (Gv.forS (P := fun i s => Inb s.1 (limits.take i)) ?_ fun i x s hx p => ?_) fun s p => .ok ?_
  · rw [List.take_zero]
    trivial
  · have hb0 := hl x (List.mem_of_getElem? hx)
    have hb : 0 < x ∧ x < 2 ^ 128 := ⟨hb0.1, by omega⟩
    have hlen := p.len
    have hi := get_len hx
    rw [List.length_take] at hlen
    have nx : ∀ y : Int, 0 ≤ y → y < x → Inb (s.1 ++ [y]) (limits.take (i + 1)) := fun y h0 h1 => by
      rw [take_succ_get hx]
      exact p.snoc h0 h1
    unfold F__law_draws_b1
    refine Gv.ite (fun _ => Gv.ite (fun _ => Gv.grd hb.1 (Gv.grd (by omega) (Gv.bnd fun y hy => Gv.grd ⟨hb.1, hb.2⟩ (Gv.bnd fun _ _ => .ok ?_)))) fun _ => Gv.bnd fun _ _ => Gv.bnd fun _ _ => Gv.grd hb.1 (Gv.grd (by omega) (Gv.bnd fun y hy => .ok ?_))) fun _ => Gv.bnd fun _ _ => Gv.bnd fun _ _ => Gv.grd hb.1 (Gv.grd (by omega) (Gv.bnd fun y hy => .ok ?_))
    · subst hy
      exact nx _ (Int.emod_nonneg _ (by omega)) (Int.emod_lt_of_pos _ hb.1)
    · subst hy
      exact nx _ (Int.emod_nonneg _ (by omega)) (Int.emod_lt_of_pos _ hb.1)
    · subst hy
      exact nx _ (Int.emod_nonneg _ (by omega)) (Int.emod_lt_of_pos _ hb.1)
  · rw [List.take_length] at p
    exact p
theorem ixg {xs : List Int} {k : Int} {n : Nat} (e : xs.length = n) (h : -(n : Int) ≤ k ∧ k < n) : -(xs.length : Int) ≤ k ∧ k < xs.length := by
  rw [e]
  exact h
theorem itD_lit {xs : List Int} {a k : Int} (n : Nat) (e : k = (n : Int)) (h : xs[n]? = some a) : itD xs k = a := by
  subst e
  have hl := get_len h
  unfold itD atI ixN
  rw [if_pos (by omega), if_pos (by omega)]
  show (xs[n]?).getD default = a
  rw [h]
  rfl
theorem sIx_in {n d : Nat} {v : Int} (h0 : 0 ≤ v) (h1 : v ≤ n) : HT.sIx n d (some v) = v.toNat := by
  show (if v < 0 then (v + (n : Int)).toNat else min v.toNat n) = v.toNat
  rw [if_neg (by omega)]
  omega
theorem itD_nat {α : Type} [Inhabited α] {xs : List α} {k : Int} (n : Nat) (e : k = (n : Int)) {a : α} (h : xs[n]? = some a) : itD xs k = a := by
  subst e
  have hl := get_len h
  unfold itD atI ixN
  rw [if_pos (by omega), if_pos (by omega)]
  show (xs[n]?).getD default = a
  rw [h]
  rfl
theorem rng_at' {lo : Int} {n i : Nat} (h : i < n) : (rng lo n)[i]? = some (lo + (i : Int)) := rng_get h
theorem cut_rng {α : Type} [Inhabited α] {xs : List α} {a n : Int} (h0 : 0 ≤ a) (hn : 0 ≤ n) (h1 : a + n ≤ xs.length) : cutL xs (some a) (some (a + n)) = (rng 0 n.toNat).map (fun j => itD xs (a + j)) := by
  unfold cutL
  rw [sIx_in h0 (by omega), sIx_in (by omega) h1]
  apply List.ext_getElem?
  intro i
  by_cases hi : i < n.toNat
  · rw [List.getElem?_take_of_lt (by omega), List.getElem?_drop, List.getElem?_map, rng_get hi]
    have hl : a.toNat + i < xs.length := by omega
    rw [List.getElem?_eq_getElem hl]
    show some _ = some (itD xs (a + (0 + (i : Int))))
    rw [itD_nat (a.toNat + i) (by omega) (List.getElem?_eq_getElem hl)]
  · rw [List.getElem?_eq_none (by rw [List.length_take, List.length_drop]; omega), List.getElem?_eq_none (by rw [List.length_map, rng_len]; omega)]
theorem cut_len {α : Type} {xs : List α} {a b : Int} (h0 : 0 ≤ a) (hn : a ≤ b) (h1 : b ≤ xs.length) : ((cutL xs (some a) (some b)).length : Int) = b - a := by
  unfold cutL
  rw [sIx_in h0 (by omega), sIx_in (by omega) h1, List.length_take, List.length_drop]
  omega
theorem rep1 {α : Type} (a : α) (n : Int) : repL [a] n = List.replicate n.toNat a := by
  unfold repL
  induction n.toNat with
  | zero => rfl
  | succ k ih => rw [List.replicate_succ, List.flatten_cons, ih, List.replicate_succ]; rfl
theorem rep1_len {α : Type} (a : α) {n : Int} (h : 0 ≤ n) : ((repL [a] n).length : Int) = n := by
  rw [rep1, List.length_replicate]
  omega
theorem rep1_at {α : Type} [Inhabited α] (a : α) {n : Int} (h : 0 < n) : itD (repL [a] n) 0 = a := by
  rw [rep1]
  obtain ⟨k, hk⟩ : ∃ k, n.toNat = k + 1 := ⟨n.toNat - 1, by omega⟩
  rw [hk, List.replicate_succ]
  exact itD_nat 0 rfl rfl
theorem rep1_mem {α : Type} {a b : α} {n : Int} (h : b ∈ repL [a] n) : b = a := by
  rw [rep1] at h
  exact List.eq_of_mem_replicate h
theorem itD_mem {α : Type} [Inhabited α] {xs : List α} {k : Int} (h0 : 0 ≤ k) (h1 : k < xs.length) : itD xs k ∈ xs := by
  have hl : k.toNat < xs.length := by omega
  rw [itD_nat k.toNat (by omega) (List.getElem?_eq_getElem hl)]
  exact List.getElem_mem hl
/-- where the law has no decoder of its own -/
structure St_Decoder where
  probs : List Int
  octs : List Int
  place : Int
  span : Int
  value : Int
deriving DecidableEq
namespace Pu
theorem len_rep1 {α : Type} (a : α) (k : Int) : (repL [a] k).length = k.toNat := by
  unfold repL
  simp
theorem mem_rep1 {α : Type} {a x : α} {k : Int} (h : x ∈ repL [a] k) : x = a := by
  unfold repL at h
  simp at h
  exact h.2
theorem itD_nat {α : Type} [Inhabited α] {e : List α} {k : Nat} {x : α} (h : e[k]? = some x) : itD e (k : Int) = x := by
  unfold itD atI ixN
  have hk := (List.getElem?_eq_some_iff.mp h).1
  rw [if_pos (by omega), if_pos (by omega)]
  simp [h]
theorem itD_mem {α : Type} [Inhabited α] {e : List α} {k : Int} (h : -(e.length : Int) ≤ k ∧ k < e.length) : itD e k ∈ e := by
  obtain ⟨j, hj, hl⟩ := ixN_some h
  unfold itD atI
  rw [hj]
  show (e[j]?).getD default ∈ e
  rw [List.getElem?_eq_getElem hl]
  exact List.getElem_mem hl
abbrev EncS := St_Encoder
def adaptE (p d : Int) : Int := if d = 0 then p + (4096 - p) / 32 else p - p / 32
theorem adaptE_in {p d : Int} (h : 31 ≤ p ∧ p ≤ 4065) : 31 ≤ adaptE p d ∧ adaptE p d ≤ 4065 := by
  unfold adaptE
  split <;> omega
def num (xs : List Int) : Int := xs.foldl (fun a x => a * 256 + x) 0
theorem num_snoc (xs : List Int) (x : Int) : num (xs ++ [x]) = num xs * 256 + x := by
  unfold num
  rw [List.foldl_append] <;> rfl
def incR : List Int → List Int
  | [] => []
  | x :: r => if x = 255 then 0 :: incR r else (x + 1) :: r
def incE (xs : List Int) : List Int := (incR xs.reverse).reverse
theorem incR_rep (x : Int) (r : List Int) (hx : x ≠ 255) : ∀ j : Nat, incR (List.replicate j 255 ++ x :: r) = List.replicate j 0 ++ (x + 1) :: r
  | 0 => by simp [incR, hx]
  | j + 1 => by
    rw [List.replicate_succ, List.cons_append, incR, if_pos rfl, incR_rep x r hx j, List.replicate_succ, List.cons_append]
theorem incE_mid {A : List Int} {x : Int} {j : Nat} (hx : x ≠ 255) : incE (A ++ [x] ++ List.replicate j 255) = A ++ [x + 1] ++ List.replicate j 0 := by
  unfold incE
  rw [show (A ++ [x] ++ List.replicate j (255 : Int)).reverse = List.replicate j 255 ++ x :: A.reverse by simp, incR_rep x _ hx]
  simp
theorem mid_in {F A : List Int} {x pl : Int} {j : Nat} (h : F = A ++ [x] ++ List.replicate j 0) (hp : pl = (A.length : Int)) : -(F.length : Int) ≤ pl ∧ pl < F.length := by
  subst h hp
  simp only [List.length_append, List.length_cons, List.length_nil, List.length_replicate]
  omega
theorem get_mid {α : Type} {A R : List α} {x : α} : (A ++ [x] ++ R)[A.length]? = some x := by simp
theorem mid_at {F A : List Int} {x pl : Int} {j : Nat} (h : F = A ++ [x] ++ List.replicate j 0) (hp : pl = (A.length : Int)) : itD F pl = x := by
  subst h hp
  exact itD_nat get_mid
theorem ixN_nat' {n j : Nat} (hj : j < n) : ixN n (j : Int) = some j := by
  unfold ixN
  rw [if_pos (by omega), if_pos (by omega)]
  simp
theorem setL_mid {A R : List Int} {x y : Int} : setL (A ++ [x] ++ R) (A.length : Int) y = A ++ [y] ++ R := by
  unfold setL
  rw [ixN_nat' (by simp)]
  simp
theorem all255 {F : List Int} {j : Nat} (h : ∃ y ∈ F, y ≠ 255) (e : F = List.replicate j 255) : False := by
  obtain ⟨y, hy, hn⟩ := h
  rw [e] at hy
  exact hn (List.eq_of_mem_replicate hy)
theorem carry_start {F : List Int} (h : ∃ y ∈ F, y ≠ 255) : ∃ (A : List Int) (x : Int) (j : Nat), F = A ++ [x] ++ List.replicate j 255 ∧ F = A ++ [x] ++ List.replicate j 0 ∧ ((F.length : Int) - 1) = (A.length : Int) := by
  have hn : F ≠ [] := by
    obtain ⟨y, hy, _⟩ := h
    intro z
    rw [z] at hy
    cases hy
  refine ⟨F.dropLast, F.getLast hn, 0, ?_, ?_, ?_⟩
  · rw [List.dropLast_concat_getLast]
    simp
  · rw [List.dropLast_concat_getLast]
    simp
  · have := List.length_pos_iff.mpr hn
    rw [List.length_dropLast]
    omega
theorem carry_A {F A : List Int} {x : Int} {j : Nat} (h : ∃ y ∈ F, y ≠ 255) (e : F = A ++ [x] ++ List.replicate j 255) (hx : x = 255) : A ≠ [] := by
  intro z
  subst z hx
  refine all255 (j := j + 1) h ?_
  rw [e, List.replicate_succ] <;> rfl
theorem carry_turn {F F' A : List Int} {x pl : Int} {j : Nat} (h : ∃ y ∈ F, y ≠ 255) (e : F = A ++ [x] ++ List.replicate j 255) (e' : F' = A ++ [x] ++ List.replicate j 0) (hp : pl = (A.length : Int)) (hx : x = 255) :
    ∃ (B : List Int) (y : Int) (k : Nat), F = B ++ [y] ++ List.replicate k 255 ∧ setL F' pl 0 = B ++ [y] ++ List.replicate k 0 ∧ pl - 1 = (B.length : Int) := by
  have hA := carry_A h e hx
  refine ⟨A.dropLast, A.getLast hA, j + 1, ?_, ?_, ?_⟩
  · rw [e, hx, List.dropLast_concat_getLast hA, List.replicate_succ]
    simp
  · rw [e', hp, setL_mid, List.dropLast_concat_getLast hA, List.replicate_succ]
    simp
  · have := List.length_pos_iff.mpr hA
    rw [hp, List.length_dropLast]
    omega
theorem carry_less {F A : List Int} {x pl : Int} {j : Nat} (h : ∃ y ∈ F, y ≠ 255) (e : F = A ++ [x] ++ List.replicate j 255) (hp : pl = (A.length : Int)) (hx : x = 255) : (pl - 1).toNat < pl.toNat := by
  have := List.length_pos_iff.mpr (carry_A h e hx)
  omega
theorem carry_end {F F' A : List Int} {x pl : Int} {j : Nat} (e : F = A ++ [x] ++ List.replicate j 255) (e' : F' = A ++ [x] ++ List.replicate j 0) (hp : pl = (A.length : Int)) (hx : x ≠ 255) : setL F' pl (itD F' pl + 1) = incE F := by
  rw [mid_at e' hp, e', hp, setL_mid, e, incE_mid hx]

def encInit : EncS := ⟨repL [2048] 256, [], 0, 4294967296 - 1⟩
def encPre (e : EncS) (p d : Int) : EncS :=
  if d = 0 then ⟨e.probs, e.front, e.low, e.span / 4096 * p⟩
  else if 4294967296 ≤ e.low + e.span / 4096 * p then ⟨e.probs, incE e.front, e.low + e.span / 4096 * p - 4294967296, e.span - e.span / 4096 * p⟩
  else ⟨e.probs, e.front, e.low + e.span / 4096 * p, e.span - e.span / 4096 * p⟩
def encNorm1 (e : EncS) : EncS := ⟨e.probs, e.front ++ [e.low / 16777216], e.low * 256 % 4294967296, e.span * 256⟩
def encNorm (e : EncS) : EncS := if e.span < 16777216 then encNorm1 e else e
def encNarrow (e : EncS) (p d : Int) : EncS := encNorm (encPre e p d)
def encCode (e : EncS) (c d : Int) : EncS := ⟨setL (encNarrow e (itD e.probs c) d).probs c (adaptE (itD e.probs c) d), (encNarrow e (itD e.probs c) d).front, (encNarrow e (itD e.probs c) d).low, (encNarrow e (itD e.probs c) d).span⟩
structure EncMid (e : EncS) : Prop where
  oct : ∀ x ∈ e.front, 0 ≤ x ∧ x ≤ 255
  low : 0 ≤ e.low ∧ e.low < 4294967296
  span0 : 0 < e.span
  span : 65536 ≤ e.span ∧ e.span < 4294967296
  fit : num e.front * 4294967296 + e.low + e.span ≤ 256 ^ e.front.length * 4294967296
structure EncG (e : EncS) : Prop where
  len : e.probs.length = 256
  prob : ∀ p ∈ e.probs, 31 ≤ p ∧ p ≤ 4065
  mid : EncMid e
  big : 16777216 ≤ e.span
theorem EncG.chance {e : EncS} (h : EncG e) {c : Int} (h0 : 0 ≤ c) (h1 : c < 256) : 31 ≤ itD e.probs c ∧ itD e.probs c ≤ 4065 := h.prob _ (itD_mem (by rw [h.len]; omega))
theorem part_in {s p : Int} (hs : 16777216 ≤ s ∧ s < 4294967296) (hp : 31 ≤ p ∧ p ≤ 4065) : 65536 ≤ s / 4096 * p ∧ 65536 ≤ s - s / 4096 * p := by
  have h1 : 4096 ≤ s / 4096 := by omega
  have h2 : s / 4096 * 4096 ≤ s := by omega
  have a : s / 4096 * 31 ≤ s / 4096 * p := Int.mul_le_mul_of_nonneg_left hp.1 (by omega)
  have b : s / 4096 * p ≤ s / 4096 * 4065 := Int.mul_le_mul_of_nonneg_left hp.2 (by omega)
  omega
theorem snocInd {α : Type} {motive : List α → Prop} (nil : motive []) (snoc : ∀ xs x, motive xs → motive (xs ++ [x])) (xs : List α) : motive xs := by
  have : ∀ l : List α, motive l.reverse := by
    intro l
    induction l with
    | nil => exact nil
    | cons x r ih =>
      rw [List.reverse_cons]
      exact snoc _ _ ih
  have h := this xs.reverse
  rwa [List.reverse_reverse] at h
theorem num_nn : ∀ {xs : List Int}, (∀ x ∈ xs, 0 ≤ x ∧ x ≤ 255) → 0 ≤ num xs := by
  intro xs
  induction xs using snocInd with
  | nil => intro _; decide
  | snoc xs x ih =>
    intro h
    rw [num_snoc]
    have h1 := ih fun y hy => h y (List.mem_append_left _ hy)
    have h2 := h x (List.mem_append_right _ List.mem_cons_self)
    omega
theorem inc_len (xs : List Int) : (incE xs).length = xs.length := by
  have : ∀ l : List Int, (incR l).length = l.length := by
    intro l
    induction l with
    | nil => rfl
    | cons x r ih =>
      unfold incR
      split
      · rw [List.length_cons, List.length_cons, ih]
      · rfl
  unfold incE
  rw [List.length_reverse, this, List.length_reverse]
theorem split255 : ∀ {xs : List Int}, (∃ y ∈ xs, y ≠ 255) → ∃ (A : List Int) (x : Int) (j : Nat), xs = A ++ [x] ++ List.replicate j 255 ∧ x ≠ 255 := by
  intro xs
  induction xs using snocInd with
  | nil => rintro ⟨y, hy, _⟩; cases hy
  | snoc xs x ih =>
    intro h
    by_cases hx : x = 255
    · subst hx
      obtain ⟨y, hy, hn⟩ := h
      have : ∃ y ∈ xs, y ≠ 255 := by
        rcases List.mem_append.mp hy with z | z
        · exact ⟨y, z, hn⟩
        · simp at z
          exact absurd z hn
      obtain ⟨A, x, j, e, hx⟩ := ih this
      refine ⟨A, x, j + 1, ?_, hx⟩
      rw [e, List.replicate_succ', List.append_assoc]
    · exact ⟨xs, x, 0, by simp, hx⟩
theorem num_rep (A : List Int) (x : Int) : ∀ j : Nat, num (A ++ [x + 1] ++ List.replicate j 0) = num (A ++ [x] ++ List.replicate j 255) + 1
  | 0 => by simp [num_snoc]; omega
  | j + 1 => by
    rw [List.replicate_succ', List.replicate_succ', ← List.append_assoc, ← List.append_assoc, num_snoc, num_snoc, num_rep A x j]
    omega
theorem inc_num {xs : List Int} (h : ∃ y ∈ xs, y ≠ 255) : num (incE xs) = num xs + 1 := by
  obtain ⟨A, x, j, e, hx⟩ := split255 h
  rw [e, incE_mid hx, num_rep]
theorem inc_oct {xs : List Int} (h : ∃ y ∈ xs, y ≠ 255) (ho : ∀ x ∈ xs, 0 ≤ x ∧ x ≤ 255) : ∀ x ∈ incE xs, 0 ≤ x ∧ x ≤ 255 := by
  obtain ⟨A, x, j, e, hx⟩ := split255 h
  subst e
  rw [incE_mid hx]
  intro y hy
  have hxo := ho x (by simp)
  simp at hy
  rcases hy with z | z | z
  · exact ho y (by simp [z])
  · omega
  · omega
theorem num_all255 : ∀ {xs : List Int}, (∀ y ∈ xs, y = 255) → num xs = 256 ^ xs.length - 1 := by
  intro xs
  induction xs using snocInd with
  | nil => intro _; decide
  | snoc xs x ih =>
    intro h
    rw [num_snoc, ih fun y hy => h y (List.mem_append_left _ hy), h x (List.mem_append_right _ List.mem_cons_self), List.length_append, List.length_cons, List.length_nil, Int.pow_succ]
    omega
theorem carry_pre {e : EncS} (h : EncG e) {p : Int} (hp : 31 ≤ p ∧ p ≤ 4065) (c : 4294967296 ≤ e.low + e.span / 4096 * p) : ∃ y ∈ e.front, y ≠ 255 := by
  by_cases z : ∃ y ∈ e.front, y ≠ 255
  · exact z
  · have a : ∀ y ∈ e.front, y = 255 := fun y hy => by
      by_cases q : y = 255
      · exact q
      · exact absurd ⟨y, hy, q⟩ z
    have n := num_all255 a
    have f := h.mid.fit
    have q := part_in ⟨h.big, h.mid.span.2⟩ hp
    rw [n] at f
    have : (256 ^ e.front.length - 1 : Int) * 4294967296 = 256 ^ e.front.length * 4294967296 - 4294967296 := by rw [Int.sub_mul]; omega
    omega
theorem encPre_ok {e : EncS} (h : EncG e) {p : Int} (hp : 31 ≤ p ∧ p ≤ 4065) (d : Int) : EncMid (encPre e p d) := by
  have q := part_in ⟨h.big, h.mid.span.2⟩ hp
  have f := h.mid.fit
  have l := h.mid.low
  have s := h.mid.span
  unfold encPre
  split
  · exact ⟨h.mid.oct, l, by show 0 < e.span / 4096 * p; omega, by show 65536 ≤ e.span / 4096 * p ∧ e.span / 4096 * p < 4294967296; omega, by show num e.front * 4294967296 + e.low + e.span / 4096 * p ≤ 256 ^ e.front.length * 4294967296; omega⟩
  · split
    · rename_i c
      have cp := carry_pre h hp c
      refine ⟨inc_oct cp h.mid.oct, ?_, ?_, ?_, ?_⟩
      · show 0 ≤ e.low + e.span / 4096 * p - 4294967296 ∧ e.low + e.span / 4096 * p - 4294967296 < 4294967296
        omega
      · show 0 < e.span - e.span / 4096 * p
        omega
      · show 65536 ≤ e.span - e.span / 4096 * p ∧ e.span - e.span / 4096 * p < 4294967296
        omega
      · show num (incE e.front) * 4294967296 + (e.low + e.span / 4096 * p - 4294967296) + (e.span - e.span / 4096 * p) ≤ 256 ^ (incE e.front).length * 4294967296
        rw [inc_num cp, inc_len]
        omega
    · refine ⟨h.mid.oct, ?_, ?_, ?_, ?_⟩
      · show 0 ≤ e.low + e.span / 4096 * p ∧ e.low + e.span / 4096 * p < 4294967296
        omega
      · show 0 < e.span - e.span / 4096 * p
        omega
      · show 65536 ≤ e.span - e.span / 4096 * p ∧ e.span - e.span / 4096 * p < 4294967296
        omega
      · show num e.front * 4294967296 + (e.low + e.span / 4096 * p) + (e.span - e.span / 4096 * p) ≤ 256 ^ e.front.length * 4294967296
        omega
theorem norm_span {e : EncS} (h : EncMid e) : 16777216 ≤ (encNorm1 e).span := by
  have := h.span
  show 16777216 ≤ e.span * 256
  omega
theorem shl32 {i j : Int} (h : 0 ≤ i ∧ i < 4294967296) (hj : 0 ≤ j ∧ j ≤ 64) : CShl i j := by
  obtain ⟨k, rfl⟩ := Int.eq_ofNat_of_zero_le hj.1
  exact shl_ok (n := 64) (by omega) (by omega)
theorem encNorm_eq (e : EncS) : (⟨e.probs, e.front ++ [e.low / 16777216], PySem.Builtin.bitAnd (e.low * 256) (4294967296 - 1), e.span * 256⟩ : EncS) = encNorm1 e := by
  unfold encNorm1
  rw [show (4294967296 - 1 : Int) = 4294967295 by decide, bitAnd_m32] <;> rfl
theorem norm_ok {e : EncS} (h : EncMid e) : EncMid (encNorm e) ∧ 16777216 ≤ (encNorm e).span := by
  unfold encNorm
  split
  · rename_i c
    have l := h.low
    have s := h.span
    have f := h.fit
    refine ⟨⟨?_, ?_, ?_, ?_, ?_⟩, norm_span h⟩
    · intro x hx
      rcases List.mem_append.mp hx with z | z
      · exact h.oct x z
      · simp at z
        omega
    · show 0 ≤ e.low * 256 % 4294967296 ∧ e.low * 256 % 4294967296 < 4294967296
      omega
    · show 0 < e.span * 256
      omega
    · show 65536 ≤ e.span * 256 ∧ e.span * 256 < 4294967296
      omega
    · show num (e.front ++ [e.low / 16777216]) * 4294967296 + e.low * 256 % 4294967296 + e.span * 256 ≤ 256 ^ (e.front ++ [e.low / 16777216]).length * 4294967296
      rw [num_snoc, List.length_append, List.length_cons, List.length_nil, Int.pow_succ]
      have e1 : (num e.front * 256 + e.low / 16777216) * 4294967296 + e.low * 256 % 4294967296 = (num e.front * 4294967296 + e.low) * 256 := by omega
      have e2 : (256 : Int) ^ e.front.length * 256 * 4294967296 = 256 ^ e.front.length * 4294967296 * 256 := by rw [Int.mul_right_comm]
      rw [e1, e2]
      omega
  · exact ⟨h, by omega⟩
theorem probs_pre (e : EncS) (p d : Int) : (encPre e p d).probs = e.probs := by
  unfold encPre
  split
  · rfl
  · split <;> rfl
theorem len_pre (e : EncS) (p d : Int) : (encPre e p d).front.length = e.front.length := by
  unfold encPre
  split
  · rfl
  · split
    · exact inc_len _
    · rfl
theorem len_narrow (e : EncS) (p d : Int) : (encNarrow e p d).front.length ≤ e.front.length + 1 := by
  have := len_pre e p d
  unfold encNarrow encNorm
  split
  · show ((encPre e p d).front ++ [(encPre e p d).low / 16777216]).length ≤ e.front.length + 1
    rw [List.length_append, List.length_cons, List.length_nil]
    omega
  · omega
theorem probs_narrow (e : EncS) (p d : Int) : (encNarrow e p d).probs = e.probs := by
  unfold encNarrow encNorm
  split
  · exact probs_pre e p d
  · exact probs_pre e p d
theorem narrow_ok {e : EncS} (h : EncG e) {p : Int} (hp : 31 ≤ p ∧ p ≤ 4065) (d : Int) : EncG (encNarrow e p d) := by
  obtain ⟨m, b⟩ := norm_ok (encPre_ok h hp d)
  exact ⟨by rw [probs_narrow]; exact h.len, by rw [probs_narrow]; exact h.prob, m, b⟩
theorem even_ok {e : EncS} (h : EncG e) (d : Int) : EncG (encNarrow e 2048 d) := narrow_ok h (by decide) d
theorem setL_len {α : Type} (xs : List α) (k : Int) (y : α) : (setL xs k y).length = xs.length := by
  unfold setL
  rw [List.length_set]
theorem setL_mem {α : Type} {xs : List α} {k : Int} {x y : α} (h : x ∈ setL xs k y) : x ∈ xs ∨ x = y := by
  unfold setL at h
  exact List.mem_or_eq_of_mem_set h
theorem code_ok {e : EncS} (h : EncG e) {c d : Int} (h0 : 0 ≤ c) (h1 : c < 256) : EncG (encCode e c d) := by
  have hc := h.chance h0 h1
  have n := narrow_ok h hc d
  refine ⟨?_, ?_, ⟨n.mid.oct, n.mid.low, n.mid.span0, n.mid.span, n.mid.fit⟩, n.big⟩
  · show (setL _ _ _).length = 256
    rw [setL_len]
    exact n.len
  · intro p hp
    rcases setL_mem hp with z | z
    · exact n.prob p z
    · rw [z]
      exact adaptE_in hc
theorem init_ok : EncG encInit := by
  refine ⟨by decide, fun p hp => ?_, ⟨fun x hx => (by cases hx), by decide, by decide, by decide, by decide⟩, by decide⟩
  rw [mem_rep1 hp]
  decide
/-! the octets -/
def stripZ (xs : List Int) : List Int := (xs.reverse.dropWhile (fun x => decide (x = 0))).reverse
def digits4 (n : Int) : List Int := ([24, 16, 8, 0] : List Int).map (fun k => PySem.Builtin.bitAnd (n / 2 ^ Int.toNat k) 255)
def encOctets (e : EncS) : List Int := stripZ (e.front ++ digits4 e.low)
theorem shifts_nn {k : Int} (h : k ∈ ([24, 16, 8, 0] : List Int)) : 0 ≤ k := by
  simp at h
  omega
theorem last_in {xs : List Int} (h : xs ≠ []) : -(xs.length : Int) ≤ -1 ∧ -1 < (xs.length : Int) := by
  have := List.length_pos_iff.mpr h
  omega
theorem itD_last {xs : List Int} (h : xs ≠ []) : itD xs (-1) = xs.getLast h := by
  unfold itD atI ixN
  have := List.length_pos_iff.mpr h
  rw [if_neg (by omega), if_pos (by omega)]
  have e : (-1 + (xs.length : Int)).toNat = xs.length - 1 := by omega
  show (xs[(-1 + (xs.length : Int)).toNat]?).getD default = _
  rw [e, ← List.getLast?_eq_getElem?, List.getLast?_eq_some_getLast h] <;> rfl
theorem strip_pop {xs : List Int} (h : xs ≠ []) (hz : itD xs (-1) = 0) : stripZ xs.dropLast = stripZ xs := by
  rw [itD_last h] at hz
  unfold stripZ
  have e : xs.reverse = 0 :: xs.dropLast.reverse := by
    conv => lhs; rw [← List.dropLast_concat_getLast h, List.reverse_append, hz]
    rfl
  rw [e, List.dropWhile_cons, if_pos (by decide)]
theorem drop_less {xs : List Int} (h : xs ≠ []) : xs.dropLast.length < xs.length := by
  have := List.length_pos_iff.mpr h
  rw [List.length_dropLast]
  omega
theorem strip_nil : stripZ [] = [] := rfl
theorem strip_last {xs : List Int} (h : xs ≠ []) (hz : ¬ itD xs (-1) = 0) : stripZ xs = xs := by
  rw [itD_last h] at hz
  unfold stripZ
  have e : xs.reverse = xs.getLast h :: xs.dropLast.reverse := by
    conv => lhs; rw [← List.dropLast_concat_getLast h, List.reverse_append]
    rfl
  rw [e, List.dropWhile_cons, if_neg (by simpa using hz), ← e, List.reverse_reverse]
theorem strip_done {xs : List Int} (h : xs = [] ∨ ¬ itD xs (-1) = 0) : stripZ xs = xs := by
  by_cases n : xs = []
  · rw [n] <;> rfl
  · rcases h with z | z
    · exact absurd z n
    · exact strip_last n z
abbrev DecS := St_Decoder
structure DecO (d : DecS) : Prop where
  place : 0 ≤ d.place
  oct : ∀ x ∈ d.octs, 0 ≤ x ∧ x ≤ 255
def decOct (d : DecS) : Int := if d.place < (d.octs.length : Int) then itD d.octs d.place else 0
def decShift (d : DecS) : DecS := ⟨d.probs, d.octs, if d.place < (d.octs.length : Int) then d.place + 1 else d.place, d.span, d.value * 256 + decOct d⟩
def decPre (d : DecS) (p : Int) : DecS :=
  if d.value < d.span / 4096 * p then ⟨d.probs, d.octs, d.place, d.span / 4096 * p, d.value⟩ else ⟨d.probs, d.octs, d.place, d.span - d.span / 4096 * p, d.value - d.span / 4096 * p⟩
def decBit (d : DecS) (p : Int) : Int := if d.value < d.span / 4096 * p then 0 else 1
def decNorm1 (d : DecS) : DecS := ⟨(decShift d).probs, (decShift d).octs, (decShift d).place, (decShift d).span * 256, (decShift d).value⟩
def decNorm (d : DecS) : DecS := if d.span < 16777216 then decNorm1 d else d
def decDecide (d : DecS) (p : Int) : DecS := decNorm (decPre d p)
def decRead (d : DecS) (c : Int) : DecS := ⟨setL (decDecide d (itD d.probs c)).probs c (adaptE (itD d.probs c) (decBit d (itD d.probs c))), (decDecide d (itD d.probs c)).octs, (decDecide d (itD d.probs c)).place, (decDecide d (itD d.probs c)).span, (decDecide d (itD d.probs c)).value⟩
def decBlank (o : List Int) : DecS := ⟨repL [2048] 256, o, 0, 4294967296 - 1, 0⟩
def decShifts : Nat → DecS → DecS
  | 0, d => d
  | n + 1, d => decShift (decShifts n d)
def decInit (o : List Int) : DecS := ⟨(decShifts 4 (decBlank o)).probs, (decShifts 4 (decBlank o)).octs, (decShifts 4 (decBlank o)).place, (decShifts 4 (decBlank o)).span, if 4294967296 - 2 < (decShifts 4 (decBlank o)).value then 4294967296 - 2 else (decShifts 4 (decBlank o)).value⟩
structure DecG (d : DecS) : Prop where
  o : DecO d
  len : d.probs.length = 256
  prob : ∀ p ∈ d.probs, 31 ≤ p ∧ p ≤ 4065
  span : 16777216 ≤ d.span ∧ d.span < 4294967296
  value : 0 ≤ d.value ∧ d.value < d.span
structure DecMid (d : DecS) : Prop where
  o : DecO d
  len : d.probs.length = 256
  prob : ∀ p ∈ d.probs, 31 ≤ p ∧ p ≤ 4065
  span : 65536 ≤ d.span ∧ d.span < 4294967296
  value : 0 ≤ d.value ∧ d.value < d.span
theorem DecG.chance {d : DecS} (h : DecG d) {c : Int} (h0 : 0 ≤ c) (h1 : c < 256) : 31 ≤ itD d.probs c ∧ itD d.probs c ≤ 4065 := h.prob _ (itD_mem (by rw [h.len]; omega))
theorem ite01 {p : Prop} [Decidable p] (h : (if p then (0 : Int) else 1) = 0) : p := by
  by_cases c : p
  · exact c
  · rw [if_neg c] at h
    exact absurd h (by decide)
theorem ite10 {p : Prop} [Decidable p] (h : ¬ (if p then (0 : Int) else 1) = 0) : ¬ p := by
  intro c
  rw [if_pos c] at h
  exact h rfl
theorem low_or {v o : Int} (h : 0 ≤ v) (h0 : 0 ≤ o) (h1 : o ≤ 255) : PySem.Builtin.bitOr (v * 256) o = v * 256 + o := by
  obtain ⟨a, rfl⟩ := Int.eq_ofNat_of_zero_le h
  obtain ⟨b, rfl⟩ := Int.eq_ofNat_of_zero_le h0
  have z : (a * 256) &&& b = 0 := by
    apply Nat.eq_of_testBit_eq
    intro i
    rw [Nat.testBit_and, Nat.zero_testBit, show a * 256 = a * 2 ^ 8 from rfl, Nat.testBit_mul_two_pow]
    by_cases hi : 8 ≤ i
    · have e : b.testBit i = false := Nat.testBit_lt_two_pow (Nat.lt_of_lt_of_le (by omega : b < 2 ^ 8) (Nat.pow_le_pow_right (by decide) hi))
      rw [e, Bool.and_false]
    · simp [hi]
  rw [PyProof.Rows.bitOr_and, PyProof.Rows.bitAnd_pp (by omega) (by omega)]
  rw [show ((a : Int) * 256).toNat = a * 256 from by omega, show ((b : Int)).toNat = b from rfl, z]
  exact Int.sub_zero _
theorem oct_in {d : DecS} (h : DecO d) : 0 ≤ decOct d ∧ decOct d ≤ 255 := by
  unfold decOct
  split
  · exact h.oct _ (itD_mem (by have := h.place; omega))
  · decide
theorem shift_in {d : DecS} (c : d.place < (d.octs.length : Int)) (h : DecO d) (hv : 0 ≤ d.value) : decShift d = ⟨d.probs, d.octs, d.place + 1, d.span, PySem.Builtin.bitOr (d.value * 256) (itD d.octs d.place)⟩ := by
  have ho := oct_in h
  unfold decShift decOct at *
  rw [if_pos c] at *
  rw [low_or hv ho.1 ho.2]
  simp [c]
theorem shift_out {d : DecS} (c : ¬ d.place < (d.octs.length : Int)) (hv : 0 ≤ d.value) : decShift d = ⟨d.probs, d.octs, d.place, d.span, PySem.Builtin.bitOr (d.value * 256) 0⟩ := by
  unfold decShift decOct
  rw [if_neg c, if_neg c]
  rw [low_or hv (by decide) (by decide)]
theorem decPre_ok {d : DecS} (h : DecG d) {p : Int} (hp : 31 ≤ p ∧ p ≤ 4065) : DecMid (decPre d p) := by
  have hi := part_in h.span hp
  have hv := h.value
  have hs := h.span
  unfold decPre
  split
  · exact ⟨⟨h.o.place, h.o.oct⟩, h.len, h.prob, ⟨hi.1, by show d.span / 4096 * p < 4294967296; omega⟩, ⟨hv.1, by show d.value < d.span / 4096 * p; omega⟩⟩
  · exact ⟨⟨h.o.place, h.o.oct⟩, h.len, h.prob, ⟨hi.2, by show d.span - d.span / 4096 * p < 4294967296; omega⟩, ⟨by show 0 ≤ d.value - d.span / 4096 * p; omega, by show d.value - d.span / 4096 * p < d.span - d.span / 4096 * p; omega⟩⟩
theorem shift_o {d : DecS} (h : DecO d) : DecO (decShift d) := by
  refine ⟨?_, h.oct⟩
  have := h.place
  show 0 ≤ (if d.place < (d.octs.length : Int) then d.place + 1 else d.place)
  split <;> omega
theorem decNorm_ok {d : DecS} (h : DecMid d) : DecG (decNorm d) := by
  have hv := h.value
  have hs := h.span
  have ho := oct_in h.o
  unfold decNorm
  split
  · exact ⟨⟨(shift_o h.o).place, (shift_o h.o).oct⟩, h.len, h.prob, ⟨by show 16777216 ≤ d.span * 256; omega, by show d.span * 256 < 4294967296; omega⟩, ⟨by show 0 ≤ d.value * 256 + decOct d; omega, by show d.value * 256 + decOct d < d.span * 256; omega⟩⟩
  · exact ⟨h.o, h.len, h.prob, ⟨by omega, hs.2⟩, hv⟩
theorem decide_ok {d : DecS} (h : DecG d) {p : Int} (hp : 31 ≤ p ∧ p ≤ 4065) : DecG (decDecide d p) := decNorm_ok (decPre_ok h hp)
theorem probs_decide (d : DecS) (p : Int) : (decDecide d p).probs = d.probs := by
  unfold decDecide decNorm decPre
  split <;> split <;> rfl
theorem bit_in (d : DecS) (p : Int) : 0 ≤ decBit d p ∧ decBit d p ≤ 1 := by
  unfold decBit
  split <;> decide
theorem read_ok {d : DecS} (h : DecG d) {c : Int} (h0 : 0 ≤ c) (h1 : c < 256) : DecG (decRead d c) := by
  have hp := h.chance h0 h1
  have hd := decide_ok h hp
  refine ⟨⟨hd.o.place, hd.o.oct⟩, ?_, fun p hm => ?_, hd.span, hd.value⟩
  · show (setL _ c _).length = 256
    rw [setL_len]
    exact hd.len
  · rcases setL_mem hm with z | z
    · exact hd.prob p z
    · rw [z]
      exact adaptE_in hp
theorem blank_ok {o : List Int} (h : ∀ x ∈ o, 0 ≤ x ∧ x ≤ 255) : DecO (decBlank o) := ⟨Int.le_refl 0, h⟩
theorem shifts_ok {d : DecS} (h : DecO d) (hv : d.value = 0) : ∀ n : Nat, DecO (decShifts n d) ∧ 0 ≤ (decShifts n d).value ∧ (decShifts n d).value < 256 ^ n
  | 0 => ⟨h, by show 0 ≤ d.value; omega, by show d.value < 1; omega⟩
  | n + 1 => by
    have ih := shifts_ok h hv n
    have ho := oct_in ih.1
    refine ⟨shift_o ih.1, ?_, ?_⟩
    · show 0 ≤ (decShifts n d).value * 256 + decOct (decShifts n d)
      omega
    · show (decShifts n d).value * 256 + decOct (decShifts n d) < 256 ^ (n + 1)
      rw [Int.pow_succ]
      omega
theorem shifts_probs (d : DecS) : ∀ n : Nat, (decShifts n d).probs = d.probs
  | 0 => rfl
  | n + 1 => shifts_probs d n
theorem shifts_span (d : DecS) : ∀ n : Nat, (decShifts n d).span = d.span
  | 0 => rfl
  | n + 1 => shifts_span d n
theorem shifts_octs (d : DecS) : ∀ n : Nat, (decShifts n d).octs = d.octs
  | 0 => rfl
  | n + 1 => shifts_octs d n
theorem pow_turn {i : Nat} (hi : i < 4) {v : Int} (h : v < 256 ^ i) : v < 4294967296 := by
  have : (256 : Int) ^ i ≤ 256 ^ 3 := by
    have := Nat.pow_le_pow_right (n := 256) (by decide) (show i ≤ 3 by omega)
    exact_mod_cast this
  omega
theorem decInit_ok {o : List Int} (h : ∀ x ∈ o, 0 ≤ x ∧ x ≤ 255) : DecG (decInit o) := by
  have hs := shifts_ok (blank_ok h) rfl 4
  refine ⟨⟨hs.1.place, hs.1.oct⟩, ?_, ?_, ?_, ?_⟩
  · show (decShifts 4 (decBlank o)).probs.length = 256
    rw [shifts_probs]
    exact init_ok.len
  · show ∀ p ∈ (decShifts 4 (decBlank o)).probs, _
    rw [shifts_probs]
    exact init_ok.prob
  · show 16777216 ≤ (decShifts 4 (decBlank o)).span ∧ (decShifts 4 (decBlank o)).span < 4294967296
    rw [shifts_span]
    show (16777216 : Int) ≤ 4294967296 - 1 ∧ (4294967296 - 1 : Int) < 4294967296
    decide
  · show 0 ≤ (if 4294967296 - 2 < (decShifts 4 (decBlank o)).value then 4294967296 - 2 else (decShifts 4 (decBlank o)).value) ∧ (if 4294967296 - 2 < (decShifts 4 (decBlank o)).value then 4294967296 - 2 else (decShifts 4 (decBlank o)).value) < (decShifts 4 (decBlank o)).span
    rw [shifts_span]
    show _ ∧ _ < (4294967296 - 1 : Int)
    have := hs.2
    split <;> omega
def ItemsOk (items : List (Int × Int)) : Prop := ∀ it ∈ items, (-1 ≤ it.1 ∧ it.1 ≤ 255) ∧ 0 ≤ it.2 ∧ it.2 ≤ 1
def encItem (e : EncS) (it : Int × Int) : EncS := if 0 ≤ it.1 then encCode e it.1 it.2 else encNarrow e 2048 it.2
def encItems (e : EncS) (items : List (Int × Int)) : EncS := items.foldl encItem e
theorem items_turn {e : EncS} {items : List (Int × Int)} {i : Nat} {it : Int × Int} {e' : EncS} (hi : items[i]? = some it) (h : encItem (encItems e (items.take i)) it = e') : e' = encItems e (items.take (i + 1)) := by
  unfold encItems at h ⊢
  rw [take_succ_get hi, List.foldl_append, ← h] <;> rfl
theorem len_code (e : EncS) (c d : Int) : (encCode e c d).front.length ≤ e.front.length + 1 := len_narrow e _ d
theorem item_ok {e : EncS} {it : Int × Int} (h : EncG e) (hi : (-1 ≤ it.1 ∧ it.1 ≤ 255) ∧ 0 ≤ it.2 ∧ it.2 ≤ 1) : EncG (encItem e it) := by
  unfold encItem
  split
  · exact code_ok h (by omega) (by omega)
  · exact even_ok h _
theorem item_len (e : EncS) (it : Int × Int) : (encItem e it).front.length ≤ e.front.length + 1 := by
  unfold encItem
  split
  · exact len_code _ _ _
  · exact len_narrow _ _ _
theorem items_ok : ∀ {items : List (Int × Int)} {e : EncS}, EncG e → ItemsOk items → EncG (encItems e items)
  | [], _, h, _ => h
  | it :: r, e, h, hi => items_ok (items := r) (item_ok h (hi it List.mem_cons_self)) fun x hx => hi x (List.mem_cons_of_mem _ hx)
theorem items_len : ∀ (items : List (Int × Int)) (e : EncS), (encItems e items).front.length ≤ e.front.length + items.length
  | [], e => Nat.le_refl _
  | it :: r, e => by
    have h1 := item_len e it
    have h2 := items_len r (encItem e it)
    have h3 : encItems e (it :: r) = encItems (encItem e it) r := rfl
    rw [h3, List.length_cons]
    omega
theorem items_app (e : EncS) (xs ys : List (Int × Int)) : encItems e (xs ++ ys) = encItems (encItems e xs) ys := by
  unfold encItems
  rw [List.foldl_append]
structure CodeN (e : EncS) (low span count : Int) : Prop where
  low : low = num e.front * 4294967296 + e.low
  span : span = e.span
  count : count = (e.front.length : Int)
structure CodeR (e : EncS) (chances : List Int) (low span count : Int) : Prop where
  toN : CodeN e low span count
  chances : chances = e.probs ++ [2048]
theorem codeR_init : CodeR encInit (repL [2048] 257) 0 (4294967296 - 1) 0 := ⟨⟨rfl, rfl, rfl⟩, by decide⟩
theorem itD_app {e : List Int} {a c : Int} (h0 : 0 ≤ c) (h1 : c < e.length) : itD (e ++ [a]) c = itD e c := by
  obtain ⟨k, rfl⟩ := Int.eq_ofNat_of_zero_le h0
  have hk : k < e.length := by omega
  rw [itD_nat (List.getElem?_eq_getElem hk), itD_nat (x := e[k]) (by rw [List.getElem?_append_left hk, List.getElem?_eq_getElem hk])]
theorem itD_end {e : List Int} {a : Int} : itD (e ++ [a]) (-1) = a := by
  rw [itD_last (by simp), List.getLast_append] <;> simp
theorem setL_app {e : List Int} {a c y : Int} (h0 : 0 ≤ c) (h1 : c < e.length) : setL (e ++ [a]) c y = setL e c y ++ [a] := by
  obtain ⟨k, rfl⟩ := Int.eq_ofNat_of_zero_le h0
  have hk : k < e.length := by omega
  unfold setL
  rw [ixN_nat' hk, ixN_nat' (by rw [List.length_append]; omega)]
  exact List.set_append_left _ _ hk
theorem codeR_chance {e : EncS} {chances : List Int} {low span count c : Int} (hg : EncG e) (hr : CodeR e chances low span count) (hc : -1 ≤ c ∧ c ≤ 255) :
    (-(chances.length : Int) ≤ c ∧ c < chances.length) ∧ 31 ≤ itD chances c ∧ itD chances c ≤ 4065 := by
  have hl := hg.len
  refine ⟨by rw [hr.chances, List.length_append, hl]; simp; omega, ?_⟩
  rw [hr.chances]
  by_cases h : 0 ≤ c
  · rw [itD_app h (by omega)]
    exact hg.chance h (by omega)
  · rw [show c = -1 from by omega, itD_end]
    decide
theorem codeN_pre {e : EncS} {p d low span count low' span' : Int} (hg : EncG e) (hp : 31 ≤ p ∧ p ≤ 4065) (h : CodeN e low span count) (hl : low' = if d = 0 then low else low + span / 4096 * p)
    (hs : span' = if d = 0 then span / 4096 * p else span - span / 4096 * p) : CodeN (encPre e p d) low' span' count := by
  have h1 := h.low
  have h2 := h.span
  have h3 := h.count
  unfold encPre
  split
  · rw [if_pos ‹_›] at hl hs
    exact ⟨by rw [hl, h1], by rw [hs, h2], h3⟩
  · rw [if_neg ‹_›] at hl hs
    split
    · have hy := carry_pre hg hp ‹_›
      have hn := inc_num hy
      rw [h2] at hl hs
      exact ⟨by show low' = num (incE e.front) * 4294967296 + (e.low + e.span / 4096 * p - 4294967296); rw [hl, hn, h1, Int.add_mul]; omega, hs, by show count = ((incE e.front).length : Int); rw [inc_len]; exact h3⟩
    · rw [h2] at hl hs
      exact ⟨by show low' = num e.front * 4294967296 + (e.low + e.span / 4096 * p); rw [hl, h1]; omega, hs, h3⟩
theorem codeN_norm {e : EncS} {low span count : Int} (h : CodeN e low span count) : CodeN (encNorm1 e) (low * 256) (span * 256) (count + 1) := by
  have h1 := h.low
  have h2 := h.span
  have h3 := h.count
  refine ⟨?_, by rw [h2]; rfl, by show count + 1 = (((e.front ++ [e.low / 16777216]).length : Nat) : Int); rw [List.length_append]; simp; omega⟩
  show low * 256 = num (e.front ++ [e.low / 16777216]) * 4294967296 + e.low * 256 % 4294967296
  rw [num_snoc]
  omega
theorem codeN_turn {em : EncS} {low span count cn0 low' span' count' : Int} {i : Nat} (hm : EncMid em) (h : CodeN (if i = 0 then em else encNorm em) low span count) (h0 : cn0 ≤ count) (h1 : count ≤ cn0 + 1) (h2 : i = 0 → count = cn0)
    (hs : (span < 16777216 ∧ low' = low * 256 ∧ span' = span * 256 ∧ count' = count + 1) ∨ (¬ span < 16777216 ∧ low' = low ∧ span' = span ∧ count' = count)) :
    CodeN (if i + 1 = 0 then em else encNorm em) low' span' count' ∧ cn0 ≤ count' ∧ count' ≤ cn0 + 1 ∧ (i + 1 = 0 → count' = cn0) := by
  rw [if_neg (by omega)]
  have hb := (norm_ok hm).2
  by_cases hi : i = 0
  · rw [if_pos hi] at h
    have hc := h2 hi
    have hsp := h.span
    rcases hs with ⟨a, rfl, rfl, rfl⟩ | ⟨a, rfl, rfl, rfl⟩
    · have e1 : encNorm em = encNorm1 em := if_pos (by omega)
      rw [e1]
      exact ⟨codeN_norm h, by omega, by omega, by omega⟩
    · have e1 : encNorm em = em := if_neg (by omega)
      rw [e1]
      exact ⟨h, by omega, by omega, by omega⟩
  · rw [if_neg hi] at h
    have hsp := h.span
    rcases hs with ⟨a, rfl, rfl, rfl⟩ | ⟨a, rfl, rfl, rfl⟩
    · omega
    · exact ⟨h, by omega, by omega, by omega⟩
def codeChances (chances : List Int) (c d : Int) : List Int := if 0 ≤ c then setL chances c (adaptE (itD chances c) d) else chances
theorem codeR_turn {items : List (Int × Int)} {i : Nat} {item : Int × Int} {chances chances' : List Int} {low span count low' span' count' : Int} {em : EncS} (hi : items[i]? = some item) (hg : EncG (encItems encInit (items.take i)))
    (hr : CodeR (encItems encInit (items.take i)) chances low span count) (hit : (-1 ≤ item.1 ∧ item.1 ≤ 255) ∧ 0 ≤ item.2 ∧ item.2 ≤ 1)
    (hme : em = encPre (encItems encInit (items.take i)) (itD chances item.1) item.2) (hc : codeChances chances item.1 item.2 = chances') (hn : CodeN (encNorm em) low' span' count') :
    CodeR (encItems encInit (items.take (i + 1))) chances' low' span' count' := by
  have hl := hg.len
  rw [← items_turn hi rfl]
  generalize encItems encInit (items.take i) = e at *
  rw [hr.chances] at hc hme
  unfold encItem
  unfold codeChances at hc
  by_cases h : 0 ≤ item.1
  · rw [if_pos h] at hc ⊢
    rw [itD_app h (by omega)] at hc hme
    rw [setL_app h (by omega)] at hc
    rw [hme] at hn
    refine ⟨⟨hn.low, hn.span, hn.count⟩, ?_⟩
    rw [← hc]
    show _ = setL (encNarrow e (itD e.probs item.1) item.2).probs item.1 _ ++ [2048]
    rw [probs_narrow]
  · rw [if_neg h] at hc ⊢
    rw [show item.1 = -1 from by omega, itD_end] at hme
    rw [hme] at hn
    refine ⟨hn, ?_⟩
    rw [← hc, probs_narrow]
def digs (n : Int) (k : Nat) : List Int := (List.range k).map fun j => n / 2 ^ (8 * (k - 1 - j)) % 256
theorem digs_snoc (n x : Int) (k : Nat) (hx : 0 ≤ x ∧ x ≤ 255) : digs (n * 256 + x) (k + 1) = digs n k ++ [x] := by
  unfold digs
  rw [List.range_succ, List.map_append]
  congr 1
  · apply List.map_congr_left
    intro j hj
    have hj := List.mem_range.mp hj
    show (n * 256 + x) / 2 ^ (8 * (k + 1 - 1 - j)) % 256 = n / 2 ^ (8 * (k - 1 - j)) % 256
    rw [show 8 * (k + 1 - 1 - j) = 8 + 8 * (k - 1 - j) from by omega, Int.pow_add, ← Int.ediv_ediv_of_nonneg (by decide)]
    rw [show (n * 256 + x) / 2 ^ 8 = n from by omega]
  · show [(n * 256 + x) / 2 ^ (8 * (k + 1 - 1 - k)) % 256] = [x]
    rw [show 8 * (k + 1 - 1 - k) = 0 from by omega]
    congr 1
    simp
    omega
theorem digs_num : ∀ {xs : List Int}, (∀ x ∈ xs, 0 ≤ x ∧ x ≤ 255) → digs (num xs) xs.length = xs := by
  intro xs
  refine snocInd (motive := fun xs => (∀ x ∈ xs, 0 ≤ x ∧ x ≤ 255) → digs (num xs) xs.length = xs) (fun _ => rfl) (fun ys y ih h => ?_) xs
  rw [num_snoc, List.length_append]
  show digs _ (ys.length + 1) = _
  rw [digs_snoc _ _ _ (h y (by simp)), ih fun x hx => h x (by simp [hx])]
theorem digits4_eq {n : Int} : digits4 n = [n / 16777216 % 256, n / 65536 % 256, n / 256 % 256, n % 256] := by
  unfold digits4
  simp only [List.map_cons, List.map_nil, bitAnd_m8]
  simp
theorem digits4_len (n : Int) : (digits4 n).length = 4 := rfl
theorem code_digits {e : EncS} (h : EncMid e) : digs (num e.front * 4294967296 + e.low) (e.front.length + 4) = e.front ++ digits4 e.low := by
  have ho : ∀ x ∈ e.front ++ digits4 e.low, 0 ≤ x ∧ x ≤ 255 := by
    intro x hx
    rcases List.mem_append.mp hx with z | z
    · exact h.oct x z
    · rw [digits4_eq] at z
      simp only [List.mem_cons, List.not_mem_nil, or_false] at z
      omega
  have hl := h.low
  have hd := digs_num ho
  rw [List.length_append, digits4_len] at hd
  rw [← hd]
  congr 1
  rw [digits4_eq, show e.front ++ [e.low / 16777216 % 256, e.low / 65536 % 256, e.low / 256 % 256, e.low % 256] = e.front ++ [e.low / 16777216 % 256] ++ [e.low / 65536 % 256] ++ [e.low / 256 % 256] ++ [e.low % 256] from by simp]
  rw [num_snoc, num_snoc, num_snoc, num_snoc]
  omega
theorem ne_len {xs : List Int} (h : 0 < (xs.length : Int)) : xs ≠ [] := by
  intro z
  rw [z] at h
  simp at h
theorem nil_len {xs : List Int} (h : ¬ 0 < (xs.length : Int)) : xs = [] := by
  cases xs with
  | nil => rfl
  | cons a r => exact absurd (by rw [List.length_cons]; omega) h
theorem code_oct {e : EncS} {low span count : Int} (hm : EncMid e) (hn : CodeN e low span count) :
    (List.range (count + 4).toNat).map (fun (j : Nat) => PySem.Builtin.bitAnd (low / 2 ^ Int.toNat (8 * (count + 3 - (0 + (j : Int))))) 255) = e.front ++ digits4 e.low := by
  rw [← code_digits hm, hn.low, hn.count]
  unfold digs
  rw [show ((e.front.length : Int) + 4).toNat = e.front.length + 4 from by omega]
  apply List.map_congr_left
  intro j hj
  have hj := List.mem_range.mp hj
  rw [bitAnd_m8, show Int.toNat (8 * ((e.front.length : Int) + 3 - (0 + (j : Int)))) = 8 * (e.front.length + 4 - 1 - j) from by omega]
theorem strip_len (xs : List Int) : (stripZ xs).length ≤ xs.length := by
  unfold stripZ
  rw [List.length_reverse]
  have h := (List.dropWhile_sublist (fun x => decide (x = 0)) (l := xs.reverse)).length_le
  rw [List.length_reverse] at h
  exact h
theorem oct_turn {octets o E : List Int} {i : Nat} {count : Int} (hs : stripZ octets = E) (hl : octets = E ∨ (octets.length : Int) + i ≤ count + 4)
    (h : (octets ≠ [] ∧ itD octets (-1) = 0 ∧ o = octets.dropLast) ∨ ((¬ itD octets (-1) = 0 ∨ octets = []) ∧ o = octets)) : stripZ o = E ∧ (o = E ∨ (o.length : Int) + ((i + 1 : Nat) : Int) ≤ count + 4) := by
  rcases h with ⟨h1, h2, rfl⟩ | ⟨h1, rfl⟩
  · have e1 := strip_pop h1 h2
    have e2 := drop_less h1
    have e3 := strip_len octets.dropLast
    refine ⟨e1.trans hs, .inr ?_⟩
    rcases hl with z | z
    · rw [e1, hs, ← z] at e3
      omega
    · omega
  · have e1 := strip_done (xs := o) (by rcases h1 with z | z; exact .inr z; exact .inl z)
    exact ⟨hs, .inl (e1.symm.trans hs)⟩
theorem oct_end {octets E : List Int} {count : Int} (hs : stripZ octets = E) (hl : octets = E ∨ (octets.length : Int) + ((count + 4).toNat : Int) ≤ count + 4) (hc : 0 ≤ count) : octets = E := by
  rcases hl with z | z
  · exact z
  · have e : octets = [] := nil_len (by omega)
    rw [← hs, e]
    rfl
theorem chances_cut {e : EncS} {chances : List Int} {low span count : Int} (hg : EncG e) (hr : CodeR e chances low span count) : cutL chances none (some 256) = e.probs := by
  rw [hr.chances]
  have hl := hg.len
  unfold cutL
  rw [HT.sIx_none, show (256 : Int) = ((256 : Nat) : Int) from rfl, HT.sIx_nat, List.length_append, hl]
  show List.take 256 (List.drop 0 (e.probs ++ [2048])) = e.probs
  rw [List.drop_zero, List.take_append_of_le_length (by omega), List.take_of_length_le (by omega)]
def decItem (d : DecS) (it : Int × Int) : DecS := if 0 ≤ it.1 then decRead d it.1 else decDecide d 2048
def decItemBit (d : DecS) (it : Int × Int) : Int := if 0 ≤ it.1 then decBit d (itD d.probs it.1) else decBit d 2048
def accO (o : List Int) : Nat → Int
  | 0 => 0
  | k + 1 => accO o k * 256 + (o[k]?).getD 0
def bigL (e : EncS) : Int := num e.front * 4294967296 + e.low
def vAt (E e : EncS) : Int := bigL E / 256 ^ (E.front.length - e.front.length)
structure Within (E e : EncS) : Prop where
  n : e.front.length ≤ E.front.length
  lo : bigL e ≤ vAt E e
  hi : vAt E e < bigL e + e.span
theorem codeN_self (e : EncS) : CodeN e (bigL e) e.span (e.front.length : Int) := ⟨rfl, rfl, rfl⟩
theorem within_self {E : EncS} (h : 0 < E.span) : Within E E := by
  have e : vAt E E = bigL E := by
    unfold vAt
    rw [Nat.sub_self]
    exact Int.ediv_one _
  exact ⟨Nat.le_refl _, by rw [e]; exact Int.le_refl _, by rw [e]; omega⟩
theorem within_norm1 {E e : EncS} (h : Within E (encNorm1 e)) : Within E e := by
  have c := codeN_norm (codeN_self e)
  have hn : (encNorm1 e).front.length = e.front.length + 1 := by
    have := c.count
    omega
  have h1 := h.n
  have h2 := h.lo
  have h3 := h.hi
  rw [show bigL (encNorm1 e) = bigL e * 256 from c.low.symm] at h2 h3
  rw [show (encNorm1 e).span = e.span * 256 from rfl] at h3
  have hv : vAt E e = vAt E (encNorm1 e) / 256 := by
    unfold vAt
    rw [hn, show E.front.length - e.front.length = (E.front.length - (e.front.length + 1)) + 1 from by omega, Int.pow_succ, Int.ediv_ediv_of_nonneg]
    have : (0 : Nat) < 256 ^ (E.front.length - (e.front.length + 1)) := Nat.pow_pos (by decide)
    exact_mod_cast Nat.le_of_lt this
  exact ⟨by omega, by rw [hv]; omega, by rw [hv]; omega⟩
theorem within_norm {E e : EncS} (h : Within E (encNorm e)) : Within E e := by
  unfold encNorm at h
  split at h
  · exact within_norm1 h
  · exact h
theorem within_pre {E e : EncS} {p d : Int} (hg : EncG e) (hp : 31 ≤ p ∧ p ≤ 4065) (h : Within E (encPre e p d)) : Within E e ∧ (d = 0 → vAt E e < bigL e + e.span / 4096 * p) ∧ (d ≠ 0 → bigL e + e.span / 4096 * p ≤ vAt E e) := by
  have hsp := hg.mid.span
  have hb := hg.big
  have hi := part_in ⟨hb, hsp.2⟩ hp
  have c := codeN_pre (d := d) hg hp (codeN_self e) rfl rfl
  have hn : (encPre e p d).front.length = e.front.length := len_pre e p d
  have h1 := h.n
  have h2 := h.lo
  have h3 := h.hi
  have hv : vAt E (encPre e p d) = vAt E e := by
    unfold vAt
    rw [hn]
  rw [hv, show bigL (encPre e p d) = _ from c.low.symm] at h2 h3
  rw [← c.span] at h3
  rw [hn] at h1
  by_cases hd : d = 0
  · rw [if_pos hd] at h2 h3
    rw [if_pos hd] at h3
    exact ⟨⟨h1, h2, by omega⟩, fun _ => h3, fun z => absurd hd z⟩
  · rw [if_neg hd] at h2 h3
    rw [if_neg hd] at h3
    exact ⟨⟨h1, by omega, by omega⟩, fun z => absurd z hd, fun _ => h2⟩
theorem within_congr {E e e' : EncS} (hf : e'.front = e.front) (hl : e'.low = e.low) (hs : e'.span = e.span) (h : Within E e') : Within E e := by
  have h1 := h.n
  have h2 := h.lo
  have h3 := h.hi
  unfold bigL vAt at *
  rw [hf] at h1
  rw [hf, hl] at h2
  rw [hf, hl, hs] at h3
  exact ⟨h1, h2, h3⟩
def chanceOf (e : EncS) (it : Int × Int) : Int := if 0 ≤ it.1 then itD e.probs it.1 else 2048
theorem chance_in {e : EncS} {it : Int × Int} (h : EncG e) (hc : it.1 ≤ 255) : 31 ≤ chanceOf e it ∧ chanceOf e it ≤ 4065 := by
  unfold chanceOf
  split
  · exact h.chance ‹_› (by omega)
  · decide
theorem within_item0 {E e : EncS} {it : Int × Int} (h : Within E (encItem e it)) : Within E (encNorm (encPre e (chanceOf e it) it.2)) := by
  unfold encItem at h
  unfold chanceOf
  split at h
  · rw [if_pos ‹_›]
    exact within_congr (e' := encCode e it.1 it.2) rfl rfl rfl h
  · rw [if_neg ‹_›]
    exact h
theorem within_item {E e : EncS} {it : Int × Int} (hg : EncG e) (hc : it.1 ≤ 255) (h : Within E (encItem e it)) :
    Within E e ∧ (it.2 = 0 → vAt E e < bigL e + e.span / 4096 * chanceOf e it) ∧ (it.2 ≠ 0 → bigL e + e.span / 4096 * chanceOf e it ≤ vAt E e) :=
  within_pre hg (chance_in hg hc) (within_norm (within_item0 h))
theorem within_items : ∀ {items : List (Int × Int)} {E e : EncS}, EncG e → ItemsOk items → Within E (encItems e items) → Within E e
  | [], _, _, _, _, h => h
  | it :: r, E, e, hg, hi, h => by
    have h0 := hi it List.mem_cons_self
    exact (within_item hg h0.1.2 (within_items (items := r) (item_ok hg h0) (fun x hx => hi x (List.mem_cons_of_mem _ hx)) h)).1
theorem acc_div {o : List Int} (h : ∀ x ∈ o, 0 ≤ x ∧ x ≤ 255) (k : Nat) : ∀ m : Nat, accO o (k + m) / 256 ^ m = accO o k
  | 0 => Int.ediv_one _
  | m + 1 => by
    have ho : 0 ≤ (o[k + m]?).getD 0 ∧ (o[k + m]?).getD 0 ≤ 255 := by
      cases hx : o[k + m]? with
      | none => decide
      | some x => exact h x (List.mem_of_getElem? hx)
    rw [Int.pow_succ, Int.mul_comm, ← Int.ediv_ediv_of_nonneg (by decide)]
    rw [show accO o (k + (m + 1)) = accO o (k + m) * 256 + (o[k + m]?).getD 0 from rfl, show (accO o (k + m) * 256 + (o[k + m]?).getD 0) / 256 = accO o (k + m) from by omega]
    exact acc_div h k m
theorem acc_app (ys zs : List Int) : ∀ k : Nat, k ≤ ys.length → accO (ys ++ zs) k = accO ys k
  | 0, _ => rfl
  | k + 1, h => by
    show accO (ys ++ zs) k * 256 + ((ys ++ zs)[k]?).getD 0 = accO ys k * 256 + (ys[k]?).getD 0
    rw [acc_app ys zs k (by omega), List.getElem?_append_left (by omega)]
theorem acc_num (xs : List Int) : accO xs xs.length = num xs := by
  refine snocInd (motive := fun xs => accO xs xs.length = num xs) rfl (fun ys y ih => ?_) xs
  rw [List.length_append, num_snoc]
  show accO (ys ++ [y]) ys.length * 256 + ((ys ++ [y])[ys.length]?).getD 0 = _
  rw [acc_app ys [y] _ (Nat.le_refl _), ih, List.getElem?_append_right (Nat.le_refl _), Nat.sub_self]
  rfl
theorem acc_congr {xs ys : List Int} (h : ∀ j : Nat, (xs[j]?).getD 0 = (ys[j]?).getD 0) : ∀ k : Nat, accO xs k = accO ys k
  | 0 => rfl
  | k + 1 => by
    show accO xs k * 256 + _ = accO ys k * 256 + _
    rw [acc_congr h k, h k]
theorem get_zeros (ys : List Int) (m j : Nat) : ((ys ++ List.replicate m 0)[j]?).getD 0 = (ys[j]?).getD 0 := by
  by_cases h : j < ys.length
  · rw [List.getElem?_append_left h]
  · rw [List.getElem?_append_right (by omega), List.getElem?_eq_none (l := ys) (by omega)]
    by_cases hm : j - ys.length < m
    · rw [List.getElem?_eq_getElem (by rw [List.length_replicate]; exact hm), List.getElem_replicate]
      rfl
    · rw [List.getElem?_eq_none (by rw [List.length_replicate]; omega)]
theorem dw_split : ∀ ys : List Int, ∃ m : Nat, ys = List.replicate m 0 ++ ys.dropWhile (fun x => decide (x = 0))
  | [] => ⟨0, rfl⟩
  | y :: r => by
    rw [List.dropWhile_cons]
    split
    · obtain ⟨m, e⟩ := dw_split r
      refine ⟨m + 1, ?_⟩
      have hy : decide (y = 0) = true := ‹_›
      rw [List.replicate_succ, List.cons_append, ← e, of_decide_eq_true hy]
    · exact ⟨0, rfl⟩
theorem strip_split (xs : List Int) : ∃ m : Nat, xs = stripZ xs ++ List.replicate m 0 := by
  obtain ⟨m, e⟩ := dw_split xs.reverse
  refine ⟨m, ?_⟩
  have e2 := congrArg List.reverse e
  rw [List.reverse_reverse, List.reverse_append, List.reverse_replicate] at e2
  exact e2
theorem acc_code {E : EncS} (hm : EncMid E) (m : Nat) : accO (encOctets E ++ List.replicate m 0) (E.front.length + 4) = bigL E := by
  obtain ⟨q, e⟩ := strip_split (E.front ++ digits4 E.low)
  have a1 : accO (encOctets E ++ List.replicate m 0) (E.front.length + 4) = accO (E.front ++ digits4 E.low) (E.front.length + 4) := by
    apply acc_congr
    intro j
    rw [get_zeros, e, get_zeros]
    rfl
  have a2 := acc_num (E.front ++ digits4 E.low)
  rw [List.length_append, digits4_len] at a2
  have hl := hm.low
  rw [a1, a2, digits4_eq, show E.front ++ [E.low / 16777216 % 256, E.low / 65536 % 256, E.low / 256 % 256, E.low % 256] = E.front ++ [E.low / 16777216 % 256] ++ [E.low / 65536 % 256] ++ [E.low / 256 % 256] ++ [E.low % 256] from by simp]
  rw [num_snoc, num_snoc, num_snoc, num_snoc]
  unfold bigL
  omega
theorem strip_mem {xs : List Int} {x : Int} (h : x ∈ stripZ xs) : x ∈ xs := by
  obtain ⟨m, e⟩ := strip_split xs
  rw [e]
  exact List.mem_append_left _ h
theorem code_oct_in {E : EncS} (h : EncMid E) : ∀ x ∈ encOctets E, 0 ≤ x ∧ x ≤ 255 := by
  intro x hx
  rcases List.mem_append.mp (strip_mem hx) with z | z
  · exact h.oct x z
  · rw [digits4_eq] at z
    have hl := h.low
    simp only [List.mem_cons, List.not_mem_nil, or_false] at z
    omega
structure Rel (o : List Int) (e : EncS) (d : DecS) : Prop where
  g : DecG d
  octs : d.octs = o
  probs : d.probs = e.probs
  span : d.span = e.span
  place : d.place = if (o.length : Int) < (e.front.length : Int) + 4 then (o.length : Int) else (e.front.length : Int) + 4
  value : d.value = accO o (e.front.length + 4) - bigL e
theorem dec_oct {o : List Int} {d : DecS} {n : Nat} (ho : d.octs = o) (hp : d.place = if (o.length : Int) < (n : Int) then (o.length : Int) else (n : Int)) : decOct d = (o[n]?).getD 0 := by
  unfold decOct
  rw [ho, hp]
  by_cases h : n < o.length
  · rw [if_neg (show ¬ (o.length : Int) < (n : Int) from by omega), if_pos (by omega), itD_nat (List.getElem?_eq_getElem h), List.getElem?_eq_getElem h]
    rfl
  · rw [if_neg (by split <;> omega), List.getElem?_eq_none (by omega)]
    rfl
theorem place_turn {n : Nat} {l pl : Int} (h : pl = if l < (n : Int) then l else (n : Int)) (h0 : 0 ≤ l) : (if pl < l then pl + 1 else pl) = if l < ((n + 1 : Nat) : Int) then l else ((n + 1 : Nat) : Int) := by
  rw [h]
  split <;> split <;> split <;> omega
theorem shifts_val (o : List Int) : ∀ n : Nat, (decShifts n (decBlank o)).value = accO o n ∧ (decShifts n (decBlank o)).place = if (o.length : Int) < (n : Int) then (o.length : Int) else (n : Int)
  | 0 => ⟨rfl, by rw [if_neg (by omega)]; rfl⟩
  | n + 1 => by
    have ih := shifts_val o n
    have ho := shifts_octs (decBlank o) n
    have hd := dec_oct (o := o) ho ih.2
    refine ⟨?_, ?_⟩
    · show (decShifts n (decBlank o)).value * 256 + decOct (decShifts n (decBlank o)) = accO o n * 256 + _
      rw [ih.1, hd]
    · show (if (decShifts n (decBlank o)).place < ((decShifts n (decBlank o)).octs.length : Int) then (decShifts n (decBlank o)).place + 1 else (decShifts n (decBlank o)).place) = _
      rw [ho]
      exact place_turn ih.2 (by show (0 : Int) ≤ (o.length : Int); omega)
theorem acc_at {E e : EncS} {o : List Int} (ho : ∀ x ∈ o, 0 ≤ x ∧ x ≤ 255) (hc : accO o (E.front.length + 4) = bigL E) (h : e.front.length ≤ E.front.length) : accO o (e.front.length + 4) = vAt E e := by
  have a := acc_div ho (e.front.length + 4) (E.front.length - e.front.length)
  rw [show e.front.length + 4 + (E.front.length - e.front.length) = E.front.length + 4 from by omega, hc] at a
  exact a.symm
theorem rel_init {E : EncS} {o : List Int} (ho : ∀ x ∈ o, 0 ≤ x ∧ x ≤ 255) (hc : accO o (E.front.length + 4) = bigL E) (h : Within E encInit) : Rel o encInit (decInit o) := by
  have s := shifts_val o 4
  have a := acc_at ho hc h.n
  have hv : accO o 4 = vAt E encInit := a
  have hi : vAt E encInit < 0 + (4294967296 - 1) := h.hi
  refine ⟨decInit_ok ho, shifts_octs _ 4, shifts_probs _ 4, shifts_span _ 4, s.2, ?_⟩
  show (if 4294967296 - 2 < (decShifts 4 (decBlank o)).value then 4294967296 - 2 else (decShifts 4 (decBlank o)).value) = accO o 4 - 0
  rw [s.1, if_neg (by omega)]
  omega
theorem rel_norm {o : List Int} {e : EncS} {d : DecS} (hg : DecG (decNorm d)) (octs : d.octs = o) (probs : d.probs = e.probs) (span : d.span = e.span)
    (place : d.place = if (o.length : Int) < (e.front.length : Int) + 4 then (o.length : Int) else (e.front.length : Int) + 4) (value : d.value = accO o (e.front.length + 4) - bigL e) : Rel o (encNorm e) (decNorm d) := by
  unfold decNorm at hg ⊢
  unfold encNorm
  rw [span] at hg ⊢
  by_cases h : e.span < 16777216
  · rw [if_pos h] at hg
    rw [if_pos h, if_pos h]
    have c := codeN_norm (codeN_self e)
    have hn : (encNorm1 e).front.length = e.front.length + 1 := by
      have := c.count
      omega
    have hb : bigL (encNorm1 e) = bigL e * 256 := c.low.symm
    have hd := dec_oct (n := e.front.length + 4) octs (by rw [place] <;> rfl)
    refine ⟨hg, octs, probs, ?_, ?_, ?_⟩
    · show d.span * 256 = e.span * 256
      rw [span]
    · show (if d.place < (d.octs.length : Int) then d.place + 1 else d.place) = _
      rw [hn, octs]
      exact place_turn (n := e.front.length + 4) place (by omega)
    · show d.value * 256 + decOct d = accO o ((encNorm1 e).front.length + 4) - bigL (encNorm1 e)
      rw [hn, hb, hd, value, show e.front.length + 1 + 4 = e.front.length + 4 + 1 from by omega]
      show _ = accO o (e.front.length + 4) * 256 + _ - _
      omega
  · rw [if_neg h] at hg
    rw [if_neg h, if_neg h]
    exact ⟨hg, octs, probs, span, place, value⟩
theorem rel_step {E e : EncS} {o : List Int} {d : DecS} {p b : Int} (ho : ∀ x ∈ o, 0 ≤ x ∧ x ≤ 255) (hc : accO o (E.front.length + 4) = bigL E) (hr : Rel o e d) (hg : EncG e) (hp : 31 ≤ p ∧ p ≤ 4065) (hb : 0 ≤ b ∧ b ≤ 1) (hw : Within E e)
    (h0 : b = 0 → vAt E e < bigL e + e.span / 4096 * p) (h1 : b ≠ 0 → bigL e + e.span / 4096 * p ≤ vAt E e) : decBit d p = b ∧ Rel o (encNarrow e p b) (decDecide d p) := by
  have hv := hr.value
  rw [acc_at ho hc hw.n] at hv
  have hs := hr.span
  have c := codeN_pre (d := b) hg hp (codeN_self e) rfl rfl
  have hn : (encPre e p b).front.length = e.front.length := len_pre e p b
  have hl : bigL (encPre e p b) = _ := c.low.symm
  have hsp := c.span.symm
  have hgd := decNorm_ok (decPre_ok hr.g hp)
  by_cases hb0 : b = 0
  · have hlt : d.value < d.span / 4096 * p := by
      rw [hs, hv]
      have := h0 hb0
      omega
    rw [if_pos hb0] at hl hsp
    refine ⟨by unfold decBit; rw [if_pos hlt, hb0], ?_⟩
    unfold encNarrow decDecide
    have e1 : decPre d p = ⟨d.probs, d.octs, d.place, d.span / 4096 * p, d.value⟩ := by
      unfold decPre
      rw [if_pos hlt]
    rw [e1] at hgd ⊢
    refine rel_norm hgd hr.octs ?_ ?_ ?_ ?_
    · show d.probs = _
      rw [probs_pre]
      exact hr.probs
    · show d.span / 4096 * p = _
      rw [hsp, hs]
    · show d.place = _
      rw [hn]
      exact hr.place
    · show d.value = _
      rw [hn, hl]
      exact hr.value
  · have hlt : ¬ d.value < d.span / 4096 * p := by
      rw [hs, hv]
      have := h1 hb0
      omega
    rw [if_neg hb0] at hl hsp
    refine ⟨by unfold decBit; rw [if_neg hlt]; omega, ?_⟩
    unfold encNarrow decDecide
    have e1 : decPre d p = ⟨d.probs, d.octs, d.place, d.span - d.span / 4096 * p, d.value - d.span / 4096 * p⟩ := by
      unfold decPre
      rw [if_neg hlt]
    rw [e1] at hgd ⊢
    refine rel_norm hgd hr.octs ?_ ?_ ?_ ?_
    · show d.probs = _
      rw [probs_pre]
      exact hr.probs
    · show d.span - d.span / 4096 * p = _
      rw [hsp, hs]
    · show d.place = _
      rw [hn]
      exact hr.place
    · show d.value - d.span / 4096 * p = _
      rw [hn, hl, hr.value, hs]
      omega
theorem rel_item {E e : EncS} {o : List Int} {d : DecS} {it : Int × Int} (ho : ∀ x ∈ o, 0 ≤ x ∧ x ≤ 255) (hc : accO o (E.front.length + 4) = bigL E) (hr : Rel o e d) (hg : EncG e) (hi : (-1 ≤ it.1 ∧ it.1 ≤ 255) ∧ 0 ≤ it.2 ∧ it.2 ≤ 1)
    (h : Within E (encItem e it)) : decItemBit d it = it.2 ∧ Rel o (encItem e it) (decItem d it) := by
  have w := within_item hg hi.1.2 h
  have r := rel_step ho hc hr hg (chance_in hg hi.1.2) hi.2 w.1 w.2.1 w.2.2
  unfold decItemBit decItem encItem
  unfold chanceOf at r
  by_cases z : 0 ≤ it.1
  · rw [if_pos z] at r
    rw [if_pos z, if_pos z, if_pos z, hr.probs]
    refine ⟨r.1, ?_⟩
    have q := r.2
    have hg2 := read_ok hr.g z (by omega : it.1 < 256)
    have hp := hr.probs
    refine ⟨hg2, ?_, ?_, ?_, ?_, ?_⟩
    · show (decDecide d (itD d.probs it.1)).octs = o
      rw [hp]
      exact q.octs
    · show setL (decDecide d (itD d.probs it.1)).probs it.1 (adaptE (itD d.probs it.1) (decBit d (itD d.probs it.1))) = setL (encNarrow e (itD e.probs it.1) it.2).probs it.1 (adaptE (itD e.probs it.1) it.2)
      rw [hp, r.1, q.probs]
    · show (decDecide d (itD d.probs it.1)).span = (encNarrow e (itD e.probs it.1) it.2).span
      rw [hp]
      exact q.span
    · show (decDecide d (itD d.probs it.1)).place = if (o.length : Int) < ((encNarrow e (itD e.probs it.1) it.2).front.length : Int) + 4 then (o.length : Int) else ((encNarrow e (itD e.probs it.1) it.2).front.length : Int) + 4
      rw [hp]
      exact q.place
    · show (decDecide d (itD d.probs it.1)).value = accO o ((encNarrow e (itD e.probs it.1) it.2).front.length + 4) - bigL (encNarrow e (itD e.probs it.1) it.2)
      rw [hp]
      exact q.value
  · rw [if_neg z] at r
    rw [if_neg z, if_neg z, if_neg z]
    exact r
theorem items_split (e : EncS) (items : List (Int × Int)) (i : Nat) : encItems e items = encItems (encItems e (items.take i)) (items.drop i) := by
  rw [← items_app, List.take_append_drop]
theorem rel_turn {o : List Int} {items : List (Int × Int)} {i : Nat} {it : Int × Int} {d : DecS} (hi : items[i]? = some it) (hok : ItemsOk items) (ho : ∀ x ∈ o, 0 ≤ x ∧ x ≤ 255)
    (hc : accO o ((encItems encInit items).front.length + 4) = bigL (encItems encInit items)) (hr : Rel o (encItems encInit (items.take i)) d) :
    decItemBit d it = it.2 ∧ Rel o (encItems encInit (items.take (i + 1))) (decItem d it) := by
  have hg : EncG (encItems encInit (items.take i)) := items_ok init_ok (fun x hx => hok x (List.mem_of_mem_take hx))
  have hE : EncG (encItems encInit items) := items_ok init_ok hok
  have hit := hok _ (List.mem_of_getElem? hi)
  have e1 := items_turn (e := encInit) hi rfl
  have hw : Within (encItems encInit items) (encItem (encItems encInit (items.take i)) it) := by
    have hw := within_self hE.mid.span0
    have hs := items_split encInit items (i + 1)
    rw [← e1] at hs
    exact within_items (item_ok hg hit) (fun x hx => hok x (List.mem_of_mem_drop hx)) (by rw [← hs]; exact hw)
  rw [← e1]
  exact rel_item ho hc hr hg hit hw
theorem rel_start {o : List Int} {items : List (Int × Int)} (hok : ItemsOk items) (ho : ∀ x ∈ o, 0 ≤ x ∧ x ≤ 255) (hc : accO o ((encItems encInit items).front.length + 4) = bigL (encItems encInit items)) : Rel o encInit (decInit o) :=
  rel_init ho hc (within_items init_ok hok (within_self (items_ok init_ok hok).mid.span0))
end Pu
open Pu
theorem gd {α : Type} {xs : List α} {k n : Int} (e : (xs.length : Int) = n) (h0 : 0 ≤ k) (h1 : k < n) : -(xs.length : Int) ≤ k ∧ k < (xs.length : Int) := by omega
theorem big {x : Int} (h0 : 0 ≤ x) (h1 : x < 2 ^ 64) : -(2 ^ 4096) < x ∧ x < 2 ^ 4096 := by
  have h : (0 : Int) < 2 ^ 4032 := Int.pow_pos (by decide)
  have e : (2 : Int) ^ 4096 = 2 ^ 4032 * 2 ^ 64 := Int.pow_add 2 4032 64
  have l : (1 : Int) * 2 ^ 64 ≤ 2 ^ 4032 * 2 ^ 64 := Int.mul_le_mul_of_nonneg_right h (by decide)
  rw [← e] at l
  generalize (2 : Int) ^ 4096 = z at l ⊢
  omega
theorem e8 : (2 : Int) ^ Int.toNat 8 = 256 := by decide
theorem while_bk {σ ρ : Type} {n : Nat} {s s' : σ} {f : σ → Rx (Lp σ ρ)} (h : f s = .ok (.bk s')) : whileR (n + 1) s f = .ok (.go s') := by
  show (f s).bind _ = _
  rw [h]
  rfl
theorem while_go {σ ρ : Type} {n : Nat} {s s' : σ} {f : σ → Rx (Lp σ ρ)} (h : f s = .ok (.go s')) : whileR (n + 1) s f = whileR n s' f := by
  show (f s).bind _ = _
  rw [h]
  rfl
/-! the encoder -/
theorem carry_eq {e : EncS} (h : ∃ y ∈ e.front, y ≠ 255) (hl : e.front.length ≤ 900000) : F_Encoder__carry e = .ok ⟨e.probs, incE e.front, e.low, e.span⟩ := by
  refine Gv.get ?_
  unfold F_Encoder__carry
  refine Gv.bnd fun pl hpl => Gv.bind (Gv.whileR (P := fun s => s.1 = ⟨e.probs, s.1.front, e.low, e.span⟩ ∧ ∃ (A : List Int) (x : Int) (j : Nat), e.front = A ++ [x] ++ List.replicate j 255 ∧ s.1.front = A ++ [x] ++ List.replicate j 0 ∧ s.2 = (A.length : Int))
    (R := fun s => s.1 = ⟨e.probs, s.1.front, e.low, e.span⟩ ∧ ∃ (A : List Int) (x : Int) (j : Nat), e.front = A ++ [x] ++ List.replicate j 255 ∧ s.1.front = A ++ [x] ++ List.replicate j 0 ∧ s.2 = (A.length : Int) ∧ x ≠ 255) (fun s => s.2.toNat) (fun s p => ?_) ?_ ?_) ?_
  · obtain ⟨es, A, x, j, h1, h2, h3⟩ := p
    have hin := mid_in h2 h3
    have hat := mid_at h2 h3
    unfold F_Encoder__carry_b1
    refine Gv.grd hin ?_
    rw [hat]
    refine Gv.ite (fun c => Gv.grd hin (Gv.bnd fun y hy => Gv.bnd fun q hq => .ok (.inl ⟨_, rfl, ⟨by rw [es], ?_⟩, ?_⟩))) fun c => .ok (.inr ⟨_, rfl, es, A, x, j, h1, h2, h3, c⟩)
    · obtain ⟨B, z, k, b1, b2, b3⟩ := carry_turn h h1 h2 h3 c
      exact ⟨B, z, k, b1, by show y = _; rw [hy]; exact b2, by show q = _; rw [hq]; exact b3⟩
    · show q.toNat < s.2.toNat
      rw [hq]
      exact carry_less h h1 h3 c
  · obtain ⟨A, x, j, h1, h2, h3⟩ := carry_start h
    exact ⟨rfl, A, x, j, h1, h2, by show pl = _; rw [hpl]; exact h3⟩
  · show pl.toNat < 1000000
    omega
  · rintro l ⟨s, rfl, es, A, x, j, h1, h2, h3, hx⟩
    show Gv (F_Encoder__carry_r1 s.1 s.2) _
    have hin := mid_in h2 h3
    have hlen : s.1.front.length = e.front.length := by
      rw [h1, h2]
      simp
    unfold F_Encoder__carry_r1
    refine Gv.grd ⟨by omega, by omega, hin.2⟩ (Gv.grd hin (Gv.bnd fun y hy => .ok ?_))
    rw [hy, carry_end h1 h2 h3 hx, es]
theorem norm_eq {e : EncS} (h : EncMid e) (hl : e.front.length ≤ 900000) : F_Encoder__narrow_k1 e = .ok (encNorm e) := by
  have hs := h.span
  have hw := h.low
  unfold F_Encoder__narrow_k1 encNorm
  by_cases c : e.span < 16777216
  · rw [if_pos c, show (1000000 : Nat) = 999999 + 1 from rfl, while_go (s' := encNorm1 e)]
    · rw [show (999999 : Nat) = 999998 + 1 from rfl, while_bk (s' := encNorm1 e)]
      · rfl
      · unfold F_Encoder__narrow_b2
        rw [if_neg (by have := norm_span h; omega)]
    · unfold F_Encoder__narrow_b2
      rw [if_pos c, grd_pos (by omega), bnd_eq, grd_pos ⟨by decide, by decide, big hw.1 (by omega)⟩, bnd_eq, grd_pos ⟨by decide, by decide, big (by omega) (by omega)⟩, bnd_eq, e8, ← encNorm_eq]
  · rw [if_neg c, show (1000000 : Nat) = 999999 + 1 from rfl, while_bk (s' := e)]
    · rfl
    · unfold F_Encoder__narrow_b2
      rw [if_neg c]
theorem narrow_eq {e : EncS} (g : EncG e) {p d : Int} (hp : 31 ≤ p ∧ p ≤ 4065) (hl : e.front.length ≤ 900000) : F_Encoder__narrow e p d = .ok (encNarrow e p d) := by
  have hm := encPre_ok g hp d
  have hlp := len_pre e p d
  have hn := norm_eq hm (by omega)
  unfold F_Encoder__narrow encNarrow
  rw [grd_pos (.inr ⟨by omega, by omega⟩), bnd_eq, ← hn]
  have hc := carry_pre g hp
  unfold encPre
  by_cases c : d = 0
  · rw [if_pos c, if_pos c, bind_ok]
  · rw [if_neg c, if_neg c, bnd_eq, bnd_eq]
    by_cases q : 4294967296 ≤ e.low + e.span / 4096 * p
    · rw [if_pos q, if_pos q, bnd_eq, carry_eq (e := ⟨e.probs, e.front, e.low + e.span / 4096 * p - 4294967296, e.span - e.span / 4096 * p⟩) (hc q) hl, noEr_ok, bind_ok, bind_ok]
    · rw [if_neg q, if_neg q, bind_ok]
theorem adapted_eq (c b : Int) : F__adapted c b = .ok (adaptE c b) := by
  unfold F__adapted adaptE
  split <;> rfl
theorem ctx_ok {c : Int} (h0 : 0 ≤ c) (h1 : c < 256) : F__check_context c = .ok () := by
  unfold F__check_context
  rw [if_pos h0, if_pos h1]
theorem ctx_er {c : Int} (h : c < 0 ∨ 256 ≤ c) : F__check_context c = .er 1 := by
  unfold F__check_context
  split
  · rw [if_neg (by omega)]
  · rfl
theorem dec_ok {d : Int} (h0 : 0 ≤ d) (h1 : d ≤ 1) : F__check_decision d = .ok () := by
  unfold F__check_decision
  rw [if_pos h0, if_pos h1]
theorem dec_er {d : Int} (h : d < 0 ∨ 1 < d) : F__check_decision d = .er 1 := by
  unfold F__check_decision
  split
  · rw [if_neg (by omega)]
  · rfl
theorem code_eq {e : EncS} (g : EncG e) {c d : Int} (h0 : 0 ≤ c) (h1 : c < 256) (d0 : 0 ≤ d) (d1 : d ≤ 1) (hl : e.front.length ≤ 900000) : F_Encoder_code e c d = .ok (encCode e c d) := by
  have l := g.len
  have gi := gd (show (e.probs.length : Int) = 256 by omega) h0 h1
  unfold F_Encoder_code
  rw [ctx_ok h0 h1, bind_ok, dec_ok d0 d1, bind_ok, grd_pos gi, bnd_eq, narrow_eq g (g.chance h0 h1) hl, bind_ok, adapted_eq, noEr_ok, bind_ok, grd_pos (by rw [probs_narrow]; exact gi), bnd_eq]
  rfl
theorem even_eq {e : EncS} (g : EncG e) {d : Int} (d0 : 0 ≤ d) (d1 : d ≤ 1) (hl : e.front.length ≤ 900000) : F_Encoder_code_even e d = .ok (encNarrow e 2048 d) := by
  unfold F_Encoder_code_even
  rw [dec_ok d0 d1, bind_ok, narrow_eq g (by decide) hl, bind_ok]
theorem octets_eq {e : EncS} (hl : e.front.length ≤ 900000) : F_Encoder_octets e = .ok (encOctets e) := by
  refine Gv.get ?_
  unfold F_Encoder_octets
  refine Gv.bind_eq (mapA_pure0 (g := fun k => PySem.Builtin.bitAnd (e.low / 2 ^ Int.toNat k) 255) (fun k hk => ?_) (by decide)) (Gv.grd (by show e.front.length + 4 ≤ 1000000; omega) (Gv.bind (Gv.whileR (P := fun s => stripZ s = encOctets e) (R := fun s => s = encOctets e) (fun s => s.length) (fun s p => ?_) rfl ?_) ?_))
  · unfold F_Encoder_octets_c1
    rw [grd_pos (shifts_nn hk)]
    rfl
  · unfold F_Encoder_octets_b2
    refine Gv.ite (fun c => .ok (.inr ⟨_, rfl, ?_⟩)) fun c => Gv.grd (last_in c) (Gv.ite (fun z => Gv.grd c (Gv.bnd fun y hy => .ok (.inl ⟨_, rfl, ?_, ?_⟩))) fun z => .ok (.inr ⟨_, rfl, ?_⟩))
    · rw [← p, strip_done (.inl c)]
    · rw [hy, strip_pop c z]
      exact p
    · rw [hy]
      exact drop_less c
    · rw [← p, strip_done (.inr z)]
  · show (e.front ++ _).length < 1000000
    rw [List.length_append]
    show e.front.length + 4 < 1000000
    omega
  · rintro l ⟨s, rfl, h⟩
    exact .ok h
abbrev intW (c : Int) : Int := ((PySem.Builtin.Int.intBits (c - 1) : Nat) : Int)
theorem bits16 : ∀ n : Nat, n < 16 → PySem.Builtin.Int.intBits (n : Int) ≤ 4 := by decide
theorem intW_in {c : Int} (h0 : 1 ≤ c) (h1 : c ≤ 16) : 0 ≤ intW c ∧ intW c ≤ 4 := by
  have e : c - 1 = ((c - 1).toNat : Int) := by omega
  have := bits16 (c - 1).toNat (by omega)
  rw [← e] at this
  show (0 : Int) ≤ ((PySem.Builtin.Int.intBits (c - 1) : Nat) : Int) ∧ ((PySem.Builtin.Int.intBits (c - 1) : Nat) : Int) ≤ 4
  omega
theorem pow4 {w : Int} (h0 : 0 ≤ w) (h1 : w ≤ 4) : (1 : Int) * 2 ^ Int.toNat w = 2 ^ Int.toNat w ∧ 1 ≤ (2 : Int) ^ Int.toNat w ∧ (2 : Int) ^ Int.toNat w ≤ 16 := by
  have : w = 0 ∨ w = 1 ∨ w = 2 ∨ w = 3 ∨ w = 4 := by omega
  rcases this with rfl | rfl | rfl | rfl | rfl <;> decide
theorem fst_ne {α : Type} {k j : Int} {r : α} (h : ¬ k = j) : ¬ ((k, r).1 = j) := h
theorem one_big : (0 : Int) ≤ 4 → -(2 ^ 4096) < (1 : Int) ∧ (1 : Int) < 2 ^ 4096 := fun _ => big (by decide) (by decide)
/-- what a symbol must keep -/
def Sy (y : Int × Int × Int × Int) : Prop :=
  (y.1 = 0 ∧ 0 ≤ y.2.1 ∧ y.2.1 ≤ 255) ∨ (y.1 = 1 ∧ 1 ≤ y.2.2.2 ∧ y.2.2.2 ≤ 16 ∧ (y.2.2.2 = 1 ∨ (0 ≤ y.2.1 ∧ y.2.1 + 2 ^ Int.toNat (intW y.2.2.2) ≤ 257))) ∨
  (y.1 = 2 ∧ 0 ≤ y.2.2.2 ∧ y.2.2.2 ≤ 64 ∧ (y.2.2.2 = 0 ∨ (0 ≤ y.2.1 ∧ y.2.1 ≤ 256 - (if 8 < y.2.2.2 then 8 else y.2.2.2)))) ∨ ((y.1 = 3 ∨ y.1 = 4) ∧ 0 ≤ y.2.1 ∧ y.2.1 ≤ 240) ∨ y.1 = 5
/-- and its value -/
def Sv (y : Int × Int × Int × Int) : Prop :=
  (y.1 = 0 → 0 ≤ y.2.2.1 ∧ y.2.2.1 ≤ 1) ∧ (y.1 = 1 → 0 ≤ y.2.2.1 ∧ y.2.2.1 < y.2.2.2) ∧ (y.1 = 2 → 0 ≤ y.2.2.1 ∧ y.2.2.1 ≤ y.2.2.2) ∧ (y.1 = 3 → 0 ≤ y.2.2.1 ∧ y.2.2.1 ≤ 1048576) ∧
  (y.1 = 4 → -1048576 ≤ y.2.2.1 ∧ y.2.2.1 ≤ 1048576) ∧ (y.1 = 5 → 0 ≤ y.2.2.1 ∧ y.2.2.1 ≤ 1)
theorem grdi {n : Int} {xs : List Int} {k : Int} (e : (xs.length : Int) = n) (h0 : 0 ≤ k) (h1 : k < n) : -(xs.length : Int) ≤ k ∧ k < (xs.length : Int) := by omega
theorem pick {xs : List Int} {k : Int} (h0 : 0 ≤ k) (h1 : k < xs.length) : itD xs k ∈ xs := itD_mem h0 h1
theorem symbol_gv (cell : Int) : Gv (F__law_symbol cell) (fun y => Sy y ∧ Sv y) := by
  unfold F__law_symbol
  refine Gv.bind (draws_gv _ _ (fun l hl => ?_) (by show 7 ≤ 1000000; decide)) fun ds hd => ?_
  · simp only [List.mem_cons, List.not_mem_nil, or_false] at hl
    rcases hl with rfl | rfl | rfl | rfl | rfl | rfl | rfl <;> omega
  obtain ⟨d0, r0, rfl, a0, b0, hd⟩ := hd.cons
  obtain ⟨d1, r1, rfl, a1, b1, hd⟩ := hd.cons
  obtain ⟨d2, r2, rfl, a2, b2, hd⟩ := hd.cons
  obtain ⟨d3, r3, rfl, a3, b3, hd⟩ := hd.cons
  obtain ⟨d4, r4, rfl, a4, b4, hd⟩ := hd.cons
  obtain ⟨d5, r5, rfl, a5, b5, hd⟩ := hd.cons
  obtain ⟨d6, r6, rfl, a6, b6, hd⟩ := hd.cons
  obtain rfl := hd.nil
  have i0 : itD [d0, d1, d2, d3, d4, d5, d6] 0 = d0 := itD_lit 0 rfl rfl
  have i1 : itD [d0, d1, d2, d3, d4, d5, d6] 1 = d1 := itD_lit 1 rfl rfl
  have i2 : itD [d0, d1, d2, d3, d4, d5, d6] 2 = d2 := itD_lit 2 rfl rfl
  have i3 : itD [d0, d1, d2, d3, d4, d5, d6] 3 = d3 := itD_lit 3 rfl rfl
  have i4 : itD [d0, d1, d2, d3, d4, d5, d6] 4 = d4 := itD_lit 4 rfl rfl
  have i5 : itD [d0, d1, d2, d3, d4, d5, d6] 5 = d5 := itD_lit 5 rfl rfl
  have i6 : itD [d0, d1, d2, d3, d4, d5, d6] 6 = d6 := itD_lit 6 rfl rfl
  have hl : (([d0, d1, d2, d3, d4, d5, d6] : List Int).length : Int) = 7 := rfl
  generalize [d0, d1, d2, d3, d4, d5, d6] = ds at i0 i1 i2 i3 i4 i5 i6 hl
  have ix : ∀ k : Int, 0 ≤ k → k < 7 → -(ds.length : Int) ≤ k ∧ k < (ds.length : Int) := fun k h0 h1 => grdi hl h0 h1
  rw [i0, i1, i2, i3, i4, i5, i6]
  refine Gv.grd (ix 0 (by decide) (by decide)) (Gv.bnd fun kind hk => ?_)
  refine Gv.ite (fun k5 => Gv.grd (ix 6 (by decide) (by decide)) (.ok ⟨.inr (.inr (.inr (.inr rfl))), ?_⟩)) fun k5 => ?_
  · refine ⟨fun h => absurd h (fst_ne (by decide)), fun h => absurd h (fst_ne (by decide)), fun h => absurd h (fst_ne (by decide)), fun h => absurd h (fst_ne (by decide)), fun h => absurd h (fst_ne (by decide)), fun _ => ⟨a6, by show d6 ≤ 1; omega⟩⟩
  refine Gv.ite (fun k0 => Gv.grd (ix 4 (by decide) (by decide)) (Gv.grd (ix 4 (by decide) (by decide)) (Gv.grd (ix 3 (by decide) (by decide)) (Gv.grd (grdi (n := 6) rfl a3 b3) (Gv.grd (ix 6 (by decide) (by decide)) (.ok ⟨.inl ⟨rfl, ?_⟩, ?_⟩)))))) fun k0 => ?_
  · have hm := pick (xs := [0, 255, 128, 3, d4, d4]) a3 b3
    simp only [List.mem_cons, List.not_mem_nil, or_false] at hm
    show 0 ≤ itD [0, 255, 128, 3, d4, d4] d3 ∧ itD [0, 255, 128, 3, d4, d4] d3 ≤ 255
    omega
  · refine ⟨fun _ => ⟨a6, by show d6 ≤ 1; omega⟩, fun h => absurd h (fst_ne (by decide)), fun h => absurd h (fst_ne (by decide)), fun h => absurd h (fst_ne (by decide)), fun h => absurd h (fst_ne (by decide)), fun h => absurd h (fst_ne (by decide))⟩
  refine Gv.ite (fun k1 => Gv.grd (ix 5 (by decide) (by decide)) (Gv.bnd fun count hc => Gv.bnd fun width hw => Gv.grd (ix 4 (by decide) (by decide)) (Gv.grd (by decide) (Gv.bnd fun base hb => ?_)))) fun k1 => ?_
  · have c0 : 1 ≤ count ∧ count ≤ 16 := by omega
    have hwc : width = intW count := hw
    have w0 := intW_in c0.1 c0.2
    rw [← hwc] at w0
    obtain ⟨p1, p2, p3⟩ := pow4 w0.1 w0.2
    have hb0 : 0 ≤ base ∧ base ≤ 241 := by omega
    clear hw hb hc
    refine Gv.bind (P := fun z => 0 ≤ z ∧ z + 2 ^ Int.toNat width ≤ 257) (Gv.grd (ix 3 (by decide) (by decide)) (Gv.ite (fun _ => Gv.grd ⟨w0.1, by omega, one_big (by decide)⟩ (Gv.bnd fun z hz => .ok (by rw [hz, p1]; omega))) fun _ => .ok (by omega))) fun z hz => ?_
    unfold F__law_symbol_k1
    rw [i1, i2]
    refine Gv.ite (fun c1 => Gv.grd (ix 2 (by decide) (by decide)) (.ok ⟨.inr (.inl ⟨rfl, by show (1 : Int) ≤ 1; decide, by show (1 : Int) ≤ 16; decide, .inl rfl⟩), ?_⟩)) fun c1 => Gv.grd (ix 2 (by decide) (by decide)) (Gv.grd (by omega) (Gv.grd (ix 1 (by decide) (by decide)) (Gv.grd (grdi (n := 3) rfl (by omega) (by omega)) (.ok ⟨.inr (.inl ⟨rfl, c0.1, c0.2, .inr ?_⟩), ?_⟩))))
    · exact ⟨fun h => absurd h (fst_ne (by decide)), fun _ => ⟨by show (0 : Int) ≤ 0; decide, by show (0 : Int) < 1; decide⟩, fun h => absurd h (fst_ne (by decide)), fun h => absurd h (fst_ne (by decide)), fun h => absurd h (fst_ne (by decide)), fun h => absurd h (fst_ne (by decide))⟩
    · show 0 ≤ (if 255 < z then 255 else z) ∧ (if 255 < z then 255 else z) + 2 ^ Int.toNat (intW count) ≤ 257
      rw [← hwc]
      generalize (2 : Int) ^ Int.toNat width = p at p2 p3 hz
      split <;> omega
    · have hm := pick (xs := [0, count - 1, d2 % count]) (k := d1 % 3) (by omega) (by show d1 % 3 < (3 : Int); omega)
      simp only [List.mem_cons, List.not_mem_nil, or_false] at hm
      have e0 := Int.emod_nonneg d2 (show count ≠ 0 by omega)
      have e1 := Int.emod_lt_of_pos d2 (show 0 < count by omega)
      refine ⟨fun h => absurd h (fst_ne (by decide)), fun _ => ?_, fun h => absurd h (fst_ne (by decide)), fun h => absurd h (fst_ne (by decide)), fun h => absurd h (fst_ne (by decide)), fun h => absurd h (fst_ne (by decide))⟩
      show 0 ≤ itD [0, count - 1, d2 % count] (d1 % 3) ∧ itD [0, count - 1, d2 % count] (d1 % 3) < count
      generalize d2 % count = u at hm e0 e1 ⊢
      omega
  refine Gv.ite (fun k2 => Gv.grd (ix 5 (by decide) (by decide)) (Gv.bnd fun most hm => Gv.grd (ix 4 (by decide) (by decide)) (Gv.bnd fun base hb => ?_))) fun k2 => ?_
  · have hb0 : most = 0 ∨ (0 ≤ base ∧ base ≤ 256 - (if 8 < most then 8 else most)) := by
      rw [hb]
      repeat' split
      all_goals omega
    clear hb
    refine Gv.bind (P := fun z => most = 0 ∨ (0 ≤ z ∧ z ≤ 256 - (if 8 < most then 8 else most))) (Gv.ite (fun h => Gv.grd (ix 2 (by decide) (by decide)) (Gv.bnd fun z _ => .ok (.inl h))) fun _ => .ok hb0) fun z hz => ?_
    unfold F__law_symbol_k2
    rw [i1, i2]
    refine Gv.grd (ix 2 (by decide) (by decide)) (Gv.grd (by omega) (Gv.grd (ix 1 (by decide) (by decide)) (Gv.grd (grdi (n := 3) rfl (by omega) (by omega)) (.ok ⟨.inr (.inr (.inl ⟨rfl, by show 0 ≤ most; omega, by show most ≤ 64; omega, hz⟩)), ?_⟩))))
    have hmm := pick (xs := [0, most, d2 % (most + 1)]) (k := d1 % 3) (by omega) (by show d1 % 3 < (3 : Int); omega)
    simp only [List.mem_cons, List.not_mem_nil, or_false] at hmm
    have e0 := Int.emod_nonneg d2 (show most + 1 ≠ 0 by omega)
    have e1 := Int.emod_lt_of_pos d2 (show 0 < most + 1 by omega)
    refine ⟨fun h => absurd h (fst_ne (by decide)), fun h => absurd h (fst_ne (by decide)), fun _ => ?_, fun h => absurd h (fst_ne (by decide)), fun h => absurd h (fst_ne (by decide)), fun h => absurd h (fst_ne (by decide))⟩
    show 0 ≤ itD [0, most, d2 % (most + 1)] (d1 % 3) ∧ itD [0, most, d2 % (most + 1)] (d1 % 3) ≤ most
    generalize d2 % (most + 1) = u at hmm e0 e1 ⊢
    omega
  refine Gv.grd (ix 4 (by decide) (by decide)) (Gv.grd (ix 4 (by decide) (by decide)) (Gv.grd (ix 3 (by decide) (by decide)) (Gv.grd (grdi (n := 6) rfl a3 b3) (Gv.bnd fun base hb => Gv.grd (ix 2 (by decide) (by decide)) (Gv.grd (ix 2 (by decide) (by decide)) (Gv.grd (ix 2 (by decide) (by decide)) (Gv.grd (ix 1 (by decide) (by decide)) (Gv.grd (grdi (n := 6) rfl a1 b1) (Gv.bnd fun value hv => ?_)))))))))
  have hb0 : 0 ≤ base ∧ base ≤ 240 := by
    have hm := pick (xs := [0, 240, 25, 41, d4 % 241, d4 % 241]) a3 b3
    rw [← hb] at hm
    simp only [List.mem_cons, List.not_mem_nil, or_false] at hm
    omega
  have hv0 : 0 ≤ value ∧ value ≤ 1048576 := by
    have hm := pick (xs := [0, 1048576, 1048576 - 1, d2 % 40, d2 % 1000, d2]) a1 b1
    rw [← hv] at hm
    simp only [List.mem_cons, List.not_mem_nil, or_false] at hm
    omega
  clear hb hv
  have hkk : kind = 3 ∨ kind = 4 := by omega
  refine Gv.bind (P := fun z => (kind = 3 → z = value) ∧ (z = value ∨ z = -value)) (Gv.ite (fun h => Gv.grd (ix 6 (by decide) (by decide)) (Gv.ite (fun _ => Gv.bnd fun z hz => .ok ⟨fun h3 => by omega, .inr hz⟩) fun _ => .ok ⟨fun _ => rfl, .inl rfl⟩)) fun _ => .ok ⟨fun _ => rfl, .inl rfl⟩) fun z hz => ?_
  unfold F__law_symbol_k3
  refine .ok ⟨.inr (.inr (.inr (.inl ⟨hkk, hb0.1, hb0.2⟩))), ?_⟩
  refine ⟨fun (h : kind = 0) => by omega, fun (h : kind = 1) => by omega, fun (h : kind = 2) => by omega, fun (h : kind = 3) => ?_, fun (h : kind = 4) => ?_, fun (h : kind = 5) => by omega⟩
  · show 0 ≤ z ∧ z ≤ 1048576
    omega
  · show -1048576 ≤ z ∧ z ≤ 1048576
    omega
theorem dbl (v : Int) (a : Nat) : v / 2 ^ a = 2 * (v / 2 ^ (a + 1)) + v / 2 ^ a % 2 := by
  have e : v / 2 ^ (a + 1) = v / 2 ^ a / 2 := by
    rw [Int.pow_succ, ← Int.ediv_ediv_of_nonneg (Int.le_of_lt (Int.pow_pos (by decide)))]
  rw [e]
  omega
theorem bit_and (x : Int) : PySem.Builtin.bitAnd x 1 = x % 2 := by
  have h := Bits.bit_at (x := x) 0
  simpa using h
theorem div_lt {v : Int} {a b : Nat} (h1 : v < 2 ^ (a + b)) : v / 2 ^ a < 2 ^ b := by
  have p : (0 : Int) < 2 ^ a := Int.pow_pos (by decide)
  refine Int.ediv_lt_of_lt_mul p ?_
  rw [← Int.pow_add, Nat.add_comm b a]
  exact h1
theorem div_nn {v : Int} {a : Nat} (h0 : 0 ≤ v) : 0 ≤ v / 2 ^ a := Int.ediv_nonneg h0 (Int.le_of_lt (Int.pow_pos (by decide)))
theorem pow_s (a : Nat) : (2 : Int) ^ (a + 1) = 2 * 2 ^ a := by rw [Int.pow_succ]; omega
theorem pow_p (a : Nat) : (1 : Int) ≤ 2 ^ a := by
  have : (0 : Int) < 2 ^ a := Int.pow_pos (by decide)
  omega
theorem powmono {i w : Nat} (h : i ≤ w) : (2 : Int) ^ i ≤ 2 ^ w := by
  obtain ⟨k, rfl⟩ := Nat.exists_eq_add_of_le h
  rw [Int.pow_add]
  have h1 := pow_p i
  have := Int.mul_le_mul_of_nonneg_left (pow_p k) (show (0 : Int) ≤ 2 ^ i by omega)
  omega
/-- the digits of a number and their length -/
def bl (v : Int) : Nat := PySem.Builtin.Int.intBits v
theorem bl_in {v : Int} (h : 1 ≤ v) : 1 ≤ bl v ∧ (2 : Int) ^ (bl v - 1) ≤ v ∧ v < 2 ^ (bl v) := by
  obtain ⟨n, rfl⟩ := Int.eq_ofNat_of_zero_le (show 0 ≤ v by omega)
  have hn : n ≠ 0 := by omega
  have e : bl (n : Int) = n.log2 + 1 := by
    unfold bl PySem.Builtin.Int.intBits
    rw [if_neg (by simp; omega)]
    rfl
  rw [e]
  have h1 : 2 ^ n.log2 ≤ n := Nat.log2_self_le hn
  have h2 : n < 2 ^ (n.log2 + 1) := Nat.lt_log2_self
  refine ⟨by omega, ?_, ?_⟩
  · rw [Nat.add_sub_cancel]
    exact_mod_cast h1
  · exact_mod_cast h2
theorem bl_small {v : Int} {k : Nat} (h0 : 1 ≤ v) (h : v < 2 ^ k) : bl v ≤ k := by
  have hb := bl_in h0
  rcases Nat.lt_or_ge k (bl v) with c | c
  · have := powmono (i := k) (w := bl v - 1) (by omega)
    omega
  · exact c
def cap (k : Int) : Int := if 7 < k then 7 else k
def unI (base v most : Int) : List (Int × Int) := ((rng 0 v.toNat).map fun k => (base + cap k, 1)) ++ (if v < most then [(base + cap v, 0)] else [])
def chI (base v : Int) (w : Nat) : List (Int × Int) := (List.range w).map fun k => (base + (2 ^ k + v / 2 ^ (w - k)) - 1, v / 2 ^ (w - 1 - k) % 2)
def nuD (v : Int) : Nat := bl (v + 1) - 1
def nuR (base v : Int) : List (Int × Int) := (List.range (nuD v)).map fun k => (if k = 0 then base + 8 + cap ((nuD v : Int) - 1) else -1, (v + 1) / 2 ^ (nuD v - 1 - k) % 2)
def nuI (base v : Int) : List (Int × Int) := unI base (nuD v : Nat) 20 ++ nuR base v
def absI (v : Int) : Int := if v < 0 then -v else v
def symI (y : Int × Int × Int × Int) : List (Int × Int) :=
  if y.1 = 0 then [(y.2.1, y.2.2.1)] else if y.1 = 1 then chI y.2.1 y.2.2.1 (intW y.2.2.2).toNat else if y.1 = 2 then unI y.2.1 y.2.2.1 y.2.2.2
  else if y.1 = 5 then [(-1, y.2.2.1)] else nuI y.2.1 (absI y.2.2.1) ++ (if y.1 = 4 ∧ y.2.2.1 ≠ 0 then [(-1, if y.2.2.1 < 0 then 1 else 0)] else [])
def ItOk (it : Int × Int) : Prop := (-1 ≤ it.1 ∧ it.1 ≤ 255) ∧ 0 ≤ it.2 ∧ it.2 ≤ 1
theorem items_app_ok {a b : List (Int × Int)} (ha : ItemsOk a) (hb : ItemsOk b) : ItemsOk (a ++ b) := fun x hx => (List.mem_append.mp hx).elim (ha x) (hb x)
theorem cap_in {k : Int} (h : 0 ≤ k) : 0 ≤ cap k ∧ cap k ≤ 7 ∧ cap k ≤ k := by
  unfold cap
  split <;> omega
/-- what unary values need of their contexts -/
def UnOk (base most : Int) : Prop := 0 ≤ most ∧ most ≤ 64 ∧ (most = 0 ∨ (0 ≤ base ∧ base ≤ 256 - (if 8 < most then 8 else most)))
theorem un_ctx {base most k : Int} (h : UnOk base most) (h0 : 0 ≤ k) (h1 : k < most) : 0 ≤ base + cap k ∧ base + cap k ≤ 255 := by
  obtain ⟨a, b, c⟩ := h
  rcases c with c | c
  · omega
  · unfold cap
    have := c.2
    split at this <;> split <;> omega
theorem unI_ok {base v most : Int} (h : UnOk base most) (h0 : 0 ≤ v) (h1 : v ≤ most) : ItemsOk (unI base v most) := by
  unfold unI
  refine items_app_ok (fun x hx => ?_) ?_
  · obtain ⟨k, hk, rfl⟩ := List.mem_map.mp hx
    have hk := rng_mem hk
    have := un_ctx (k := k) h hk.1 (by omega)
    exact ⟨⟨by show -1 ≤ base + cap k; omega, this.2⟩, by show (0 : Int) ≤ 1; decide, by show (1 : Int) ≤ 1; decide⟩
  · split
    · intro x hx
      rw [List.mem_singleton.mp hx]
      have := un_ctx (k := v) h h0 ‹_›
      exact ⟨⟨by show -1 ≤ base + cap v; omega, this.2⟩, by show (0 : Int) ≤ 0; decide, by show (0 : Int) ≤ 1; decide⟩
    · intro x hx
      nomatch hx
def ChOk (base v : Int) (w : Nat) : Prop := w ≤ 4 ∧ 0 ≤ v ∧ v < 2 ^ w ∧ (w = 0 ∨ (0 ≤ base ∧ base + 2 ^ w ≤ 257))
theorem ch_path {v : Int} {w k : Nat} (h0 : 0 ≤ v) (h1 : v < 2 ^ w) (hk : k ≤ w) : (1 : Int) ≤ 2 ^ k + v / 2 ^ (w - k) ∧ 2 ^ k + v / 2 ^ (w - k) < 2 * 2 ^ k := by
  have a := pow_p k
  have b : 0 ≤ v / 2 ^ (w - k) := div_nn h0
  have c : v / 2 ^ (w - k) < 2 ^ k := div_lt (by rw [show w - k + k = w by omega]; exact h1)
  omega
theorem ch_step {v : Int} {w k : Nat} (hk : k < w) : (2 : Int) ^ (k + 1) + v / 2 ^ (w - (k + 1)) = 2 * (2 ^ k + v / 2 ^ (w - k)) + v / 2 ^ (w - 1 - k) % 2 := by
  have d := dbl v (w - 1 - k)
  rw [show w - 1 - k + 1 = w - k by omega] at d
  rw [pow_s, show w - (k + 1) = w - 1 - k by omega]
  omega
theorem chI_ok {base v : Int} {w : Nat} (h : ChOk base v w) : ItemsOk (chI base v w) := fun x hx => by
  unfold chI at hx
  obtain ⟨k, hk, rfl⟩ := List.mem_map.mp hx
  have hk := List.mem_range.mp hk
  obtain ⟨_, h0, h1, hb⟩ := h
  have hb : 0 ≤ base ∧ base + 2 ^ w ≤ 257 := by
    rcases hb with h | h
    · omega
    · exact h
  have p := ch_path h0 h1 (show k ≤ w by omega)
  have q := powmono (i := k + 1) (w := w) (by omega)
  rw [pow_s] at q
  have m := Int.emod_nonneg (v / 2 ^ (w - 1 - k)) (show (2 : Int) ≠ 0 by decide)
  have m2 := Int.emod_lt_of_pos (v / 2 ^ (w - 1 - k)) (show (0 : Int) < 2 by decide)
  exact ⟨⟨by show -1 ≤ base + (2 ^ k + v / 2 ^ (w - k)) - 1; omega, by show base + (2 ^ k + v / 2 ^ (w - k)) - 1 ≤ 255; omega⟩, m, by show v / 2 ^ (w - 1 - k) % 2 ≤ 1; omega⟩
def NuOk (base v : Int) : Prop := 0 ≤ base ∧ base ≤ 240 ∧ 0 ≤ v ∧ v ≤ 1048576
theorem nuD_in {v : Int} (h0 : 0 ≤ v) (h1 : v ≤ 1048576) : nuD v ≤ 20 ∧ (2 : Int) ^ nuD v ≤ v + 1 ∧ v + 1 < 2 * 2 ^ nuD v := by
  have hb := bl_in (v := v + 1) (by omega)
  have hs := bl_small (v := v + 1) (k := 21) (by omega) (by show v + 1 < 2097152; omega)
  unfold nuD
  refine ⟨by omega, hb.2.1, ?_⟩
  rw [← pow_s, show bl (v + 1) - 1 + 1 = bl (v + 1) by omega]
  exact hb.2.2
theorem nuI_un {base v : Int} (h : NuOk base v) : UnOk base 20 := ⟨by decide, by decide, .inr ⟨h.1, by rw [if_pos (by decide)]; have := h.2.1; omega⟩⟩
theorem nuI_ok {base v : Int} (h : NuOk base v) : ItemsOk (nuI base v) := by
  obtain ⟨b0, b1, v0, v1⟩ := h
  have hd := nuD_in v0 v1
  unfold nuI
  refine items_app_ok (unI_ok (nuI_un ⟨b0, b1, v0, v1⟩) (by omega) (by omega)) fun x hx => ?_
  unfold nuR at hx
  obtain ⟨k, hk, rfl⟩ := List.mem_map.mp hx
  have hk := List.mem_range.mp hk
  have c := cap_in (k := (nuD v : Int) - 1) (by omega)
  have m := Int.emod_nonneg ((v + 1) / 2 ^ (nuD v - 1 - k)) (show (2 : Int) ≠ 0 by decide)
  have m2 := Int.emod_lt_of_pos ((v + 1) / 2 ^ (nuD v - 1 - k)) (show (0 : Int) < 2 by decide)
  refine ⟨?_, m, by show (v + 1) / 2 ^ (nuD v - 1 - k) % 2 ≤ 1; omega⟩
  show -1 ≤ (if k = 0 then base + 8 + cap ((nuD v : Int) - 1) else -1) ∧ (if k = 0 then base + 8 + cap ((nuD v : Int) - 1) else -1) ≤ 255
  split <;> omega
theorem Sy.ch {y : Int × Int × Int × Int} (h : Sy y) (hv : Sv y) (h1 : y.1 = 1) : ChOk y.2.1 y.2.2.1 (intW y.2.2.2).toNat := by
  have hvv := hv.2.1 h1
  rcases h with h | h | h | h | h
  · omega
  · obtain ⟨_, c0, c1, c2⟩ := h
    have w := intW_in c0 c1
    have hl : y.2.2.2 - 1 < 2 ^ (intW y.2.2.2).toNat := by
      by_cases e : y.2.2.2 = 1
      · rw [e]
        decide
      · have := (bl_in (v := y.2.2.2 - 1) (by omega)).2.2
        exact this
    refine ⟨by omega, hvv.1, by omega, ?_⟩
    rcases c2 with c2 | c2
    · left
      rw [c2]
      decide
    · exact .inr c2
  · omega
  · omega
  · omega
theorem Sy.un {y : Int × Int × Int × Int} (h : Sy y) (h1 : y.1 = 2) : UnOk y.2.1 y.2.2.2 := by
  rcases h with h | h | h | h | h
  · omega
  · omega
  · exact h.2
  · omega
  · omega
theorem Sy.nu {y : Int × Int × Int × Int} (h : Sy y) (hv : Sv y) (h1 : y.1 = 3 ∨ y.1 = 4) : NuOk y.2.1 (absI y.2.2.1) := by
  rcases h with h | h | h | h | h
  · omega
  · omega
  · omega
  · refine ⟨h.2.1, h.2.2, ?_⟩
    unfold absI
    rcases h1 with h1 | h1
    · have := hv.2.2.2.1 h1
      split <;> omega
    · have := hv.2.2.2.2.1 h1
      split <;> omega
  · omega
theorem sym_kind {y : Int × Int × Int × Int} (h : Sy y) : y.1 = 0 ∨ y.1 = 1 ∨ y.1 = 2 ∨ y.1 = 3 ∨ y.1 = 4 ∨ y.1 = 5 := by
  rcases h with h | h | h | h | h <;> omega
theorem symI_ok {y : Int × Int × Int × Int} (h : Sy y) (hv : Sv y) : ItemsOk (symI y) := by
  unfold symI
  split
  · intro x hx
    rw [List.mem_singleton.mp hx]
    have := hv.1 ‹_›
    rcases h with h | h | h | h | h
    · exact ⟨⟨by show -1 ≤ y.2.1; omega, h.2.2⟩, this.1, this.2⟩
    all_goals omega
  split
  · exact chI_ok (h.ch hv ‹_›)
  split
  · have := hv.2.2.1 ‹_›
    exact unI_ok (h.un ‹_›) this.1 this.2
  split
  · intro x hx
    rw [List.mem_singleton.mp hx]
    have := hv.2.2.2.2.2 ‹_›
    exact ⟨⟨by show (-1 : Int) ≤ -1; decide, by show (-1 : Int) ≤ 255; decide⟩, this.1, this.2⟩
  · have hk := sym_kind h
    refine items_app_ok (nuI_ok (h.nu hv (by omega))) ?_
    split
    · intro x hx
      rw [List.mem_singleton.mp hx]
      refine ⟨⟨by show (-1 : Int) ≤ -1; decide, by show (-1 : Int) ≤ 255; decide⟩, ?_⟩
      show 0 ≤ (if y.2.2.1 < 0 then (1 : Int) else 0) ∧ (if y.2.2.1 < 0 then (1 : Int) else 0) ≤ 1
      split <;> decide
    · intro x hx
      nomatch hx
theorem unI_len (base v most : Int) (h : v ≤ 64) : (unI base v most).length ≤ 65 := by
  unfold unI
  rw [List.length_append, List.length_map, rng_len]
  split
  · rw [List.length_singleton]
    omega
  · rw [List.length_nil]
    omega
theorem symI_len {y : Int × Int × Int × Int} (h : Sy y) (hv : Sv y) : (symI y).length ≤ 100 := by
  unfold symI
  split
  · simp
  split
  · unfold chI
    rw [List.length_map, List.length_range]
    have := (h.ch hv ‹_›).1
    omega
  split
  · have := hv.2.2.1 ‹_›
    have := h.un ‹_›
    have := unI_len y.2.1 y.2.2.1 y.2.2.2 (by have := this.2.1; omega)
    omega
  split
  · simp
  · have hk := sym_kind h
    have hn := h.nu hv (by omega)
    have hd := nuD_in hn.2.2.1 hn.2.2.2
    have l1 := unI_len y.2.1 (nuD (absI y.2.2.1) : Nat) 20 (by omega)
    unfold nuI nuR
    rw [List.length_append, List.length_append, List.length_map, List.length_range]
    have : (if y.1 = 4 ∧ y.2.2.1 ≠ 0 then [((-1 : Int), (if y.2.2.1 < 0 then (1 : Int) else 0))] else []).length ≤ 1 := by
      split <;> simp
    omega
theorem checks_ok {base count : Int} (h : count ≤ 0 ∨ (0 ≤ base ∧ base ≤ 256 - count)) : F__check_contexts base count = .ok () := by
  unfold F__check_contexts
  by_cases c : 0 < count
  · rw [if_pos c, if_pos (by omega), if_pos (by omega)]
  · rw [if_neg c]
theorem un_check {base most : Int} (h : UnOk base most) : F__check_unary base most = .ok () := by
  obtain ⟨m0, m1, hb⟩ := h
  unfold F__check_unary
  rw [if_pos m0, if_pos m1, checks_ok]
  · rfl
  · rcases hb with h | h
    · left
      rw [if_neg (by omega)]
      omega
    · right
      exact h
theorem ch_check {base count : Int} {v : Int} (c0 : 1 ≤ count) (c1 : count ≤ 16) (h : ChOk base v (intW count).toNat) : F__choice_digits base count = .ok (intW count) := by
  have hw := intW_in c0 c1
  obtain ⟨p1, p2, p3⟩ := pow4 hw.1 hw.2
  unfold F__choice_digits
  rw [if_pos c0, if_pos c1, bnd_eq, grd_pos ⟨hw.1, by show intW count ≤ 4096; omega, one_big (by decide)⟩, p1, checks_ok]
  · rfl
  · rcases h.2.2.2 with e | e
    · left
      rw [e]
      decide
    · right
      omega
/-! the writer -/
theorem code_item {e : EncS} (g : EncG e) {c b : Int} (c0 : 0 ≤ c) (h : ItOk (c, b)) (hl : e.front.length ≤ 900000) : F_Encoder_code e c b = .ok (encItem e (c, b)) := by
  rw [code_eq g c0 (by have : c ≤ 255 := h.1.2; omega) h.2.1 h.2.2 hl]
  unfold encItem
  rw [if_pos c0]
theorem even_item {e : EncS} (g : EncG e) {b : Int} (h : ItOk (-1, b)) (hl : e.front.length ≤ 900000) : F_Encoder_code_even e b = .ok (encItem e (-1, b)) := by
  rw [even_eq g h.2.1 h.2.2 hl]
  unfold encItem
  rw [if_neg (by show ¬ (0 : Int) ≤ -1; decide)]
theorem enc_loop {α σ : Type} {f : σ → α → Rx σ} : ∀ {xs : List α} {its : List (Int × Int)} (mk : Nat → EncS → σ) {e : EncS}, xs.length = its.length → ItemsOk its → EncG e → e.front.length + its.length ≤ 900000 →
    (∀ j x t e, xs[j]? = some x → its[j]? = some t → EncG e → e.front.length ≤ 900000 → f (mk j e) x = .ok (mk (j + 1) (encItem e t))) → forS xs (mk 0 e) f = .ok (mk its.length (encItems e its))
  | [], [], mk, e, _, _, _, _, _ => rfl
  | x :: xs, t :: its, mk, e, hl, ok, g, hf, st => by
    have h1 := st 0 x t e rfl rfl g (by omega)
    have g1 := item_ok g (ok t List.mem_cons_self)
    have l1 := item_len e t
    have ih := enc_loop (xs := xs) (its := its) (f := f) (fun j e => mk (j + 1) e) (e := encItem e t) (by simpa using hl) (fun x hx => ok x (List.mem_cons_of_mem _ hx)) g1 (by rw [List.length_cons] at hf; omega) fun j x t e hx ht g l => st (j + 1) x t e (by simpa using hx) (by simpa using ht) g l
    show (f (mk 0 e) x).bind _ = _
    rw [h1]
    exact ih
  | [], _ :: _, _, _, h, _, _, _, _ => nomatch h
  | _ :: _, [], _, _, h, _, _, _, _ => nomatch h
theorem put_unary {e : EncS} (g : EncG e) {base v most : Int} (h : UnOk base most) (h0 : 0 ≤ v) (h1 : v ≤ most) (hl : e.front.length ≤ 899000) : F_SymbolWriter_unary ⟨e⟩ base v most = .ok ⟨encItems e (unI base v most)⟩ := by
  have hm := h.2.1
  have ok := unI_ok h h0 h1
  have okl : ItemsOk ((rng 0 v.toNat).map fun k => (base + cap k, (1 : Int))) := fun x hx => ok x (List.mem_append_left _ hx)
  have ll : ((rng 0 v.toNat).map fun k => (base + cap k, (1 : Int))).length = v.toNat := by rw [List.length_map, rng_len]
  unfold F_SymbolWriter_unary
  rw [un_check h, bind_ok, if_pos h0, if_pos h1, grd_pos ⟨by omega, by omega⟩]
  have hx := enc_loop (f := fun s x => F_SymbolWriter_unary_b1 base s x) (xs := rng 0 v.toNat) (its := (rng 0 v.toNat).map fun k => (base + cap k, (1 : Int))) (fun _ e => (⟨e⟩ : St_SymbolWriter)) (e := e) (by rw [ll, rng_len]) okl g (by rw [ll]; omega) fun j x t e hx ht g l => by
    have hj := rng_at hx
    rw [List.getElem?_map, hx] at ht
    obtain rfl := Option.some.inj ht
    have c := un_ctx (k := x) h (by omega) (by omega)
    show F_SymbolWriter_unary_b1 base ⟨e⟩ x = _
    unfold F_SymbolWriter_unary_b1
    have q := code_item (c := base + cap x) (b := 1) g c.1 ⟨⟨by show -1 ≤ base + cap x; omega, c.2⟩, by show (0 : Int) ≤ 1; decide, by show (1 : Int) ≤ 1; decide⟩ l
    unfold cap at q ⊢
    rw [show (8 : Int) - 1 = 7 from rfl, q]
    rfl
  rw [hx, bind_ok]
  have g1 := items_ok g okl
  have l1 := items_len ((rng 0 v.toNat).map fun k => (base + cap k, (1 : Int))) e
  rw [ll] at l1
  unfold F_SymbolWriter_unary_r1 unI
  rw [items_app]
  by_cases c : v < most
  · have cc := un_ctx (k := v) h h0 c
    have q := code_item (c := base + cap v) (b := 0) g1 cc.1 ⟨⟨by show -1 ≤ base + cap v; omega, cc.2⟩, by show (0 : Int) ≤ 0; decide, by show (0 : Int) ≤ 1; decide⟩ (by omega)
    rw [if_pos c, if_pos c]
    unfold cap at q ⊢
    rw [show (8 : Int) - 1 = 7 from rfl, q]
    rfl
  · rw [if_neg c, if_neg c]
    rfl
theorem rngD_at {lo x : Int} {n i : Nat} (h : (rngD lo n)[i]? = some x) : x = lo - i ∧ i < n := by
  have hl := get_len h
  have hn : i < n := by
    unfold rngD at hl
    rw [List.length_map, List.length_range] at hl
    exact hl
  rw [rngD_get hn] at h
  have := Option.some.inj h
  omega
theorem rngD_length (lo : Int) (n : Nat) : (rngD lo n).length = n := by
  unfold rngD
  rw [List.length_map, List.length_range]
theorem range_at {α : Type} {f : Nat → α} {w i : Nat} {t : α} (h : ((List.range w).map f)[i]? = some t) : i < w ∧ t = f i := by
  have hl := get_len h
  rw [List.length_map, List.length_range] at hl
  rw [List.getElem?_map, List.getElem?_range hl] at h
  exact ⟨hl, (Option.some.inj h).symm⟩
theorem put_choice {e : EncS} (g : EncG e) {base v count : Int} (c0 : 1 ≤ count) (c1 : count ≤ 16) (h : ChOk base v (intW count).toNat) (hv : v < count) (hl : e.front.length ≤ 899000) : F_SymbolWriter_choice ⟨e⟩ base v count = .ok ⟨encItems e (chI base v (intW count).toNat)⟩ := by
  have ok := chI_ok h
  have hw := intW_in c0 c1
  have ll : (chI base v (intW count).toNat).length = (intW count).toNat := by unfold chI; rw [List.length_map, List.length_range]
  unfold F_SymbolWriter_choice
  rw [ch_check c0 c1 h, bind_ok, if_pos h.2.1, if_pos hv, grd_pos ⟨by omega, by omega, by decide, by decide⟩]
  obtain ⟨w, hw'⟩ := Int.eq_ofNat_of_zero_le hw.1
  rw [hw'] at h ll ok hw ⊢
  rw [Int.toNat_natCast] at h ll ok ⊢
  rw [show Int.toNat ((w : Int) - 1 - -1) = w by omega]
  have hx := enc_loop (f := fun s x => F_SymbolWriter_choice_b1 base v s.1 s.2 x) (xs := rngD ((w : Int) - 1) w) (its := chI base v w) (fun j e => ((⟨e⟩ : St_SymbolWriter), (2 : Int) ^ j + v / 2 ^ (w - j))) (e := e) (by rw [ll, rngD_length]) ok g (by rw [ll]; omega) fun j x t e hx ht g l => by
    obtain ⟨hj, hjw⟩ := rngD_at hx
    have ho := ok t (List.mem_of_getElem? ht)
    unfold chI at ht
    obtain ⟨_, rfl⟩ := range_at ht
    show F_SymbolWriter_choice_b1 base v ⟨e⟩ (2 ^ j + v / 2 ^ (w - j)) x = _
    unfold F_SymbolWriter_choice_b1
    rw [grd_pos (by omega), bit_and, bnd_eq, show Int.toNat x = w - 1 - j by omega]
    have p := ch_path h.2.1 h.2.2.1 (show j ≤ w by omega)
    have hb : 0 ≤ base := by
      rcases h.2.2.2 with e | e
      · omega
      · exact e.1
    rw [code_item g (by omega) ho l, noEr_ok, bind_ok, bnd_eq, ← ch_step hjw]
  have e0 : (2 : Int) ^ 0 + v / 2 ^ (w - 0) = 1 := by
    have : v / 2 ^ (w - 0) = 0 := by
      rw [Nat.sub_zero]
      exact Int.ediv_eq_zero_of_lt h.2.1 h.2.2.1
    omega
  rw [e0] at hx
  rw [hx, bind_ok]
  rfl
theorem put_number {e : EncS} (g : EncG e) {base v : Int} (h : NuOk base v) (hl : e.front.length ≤ 899000) : F_SymbolWriter_number ⟨e⟩ base v = .ok ⟨encItems e (nuI base v)⟩ := by
  have ok := nuI_ok h
  have hd := nuD_in h.2.2.1 h.2.2.2
  have hu := nuI_un h
  have oku := unI_ok (v := (nuD v : Nat)) hu (by omega) (by omega)
  have okr : ItemsOk (nuR base v) := fun x hx => ok x (List.mem_append_right _ hx)
  have lr : (nuR base v).length = nuD v := by unfold nuR; rw [List.length_map, List.length_range]
  have lu := unI_len base (nuD v : Nat) 20 (by omega)
  unfold F_SymbolWriter_number
  rw [checks_ok (.inr ⟨h.1, by have := h.2.1; omega⟩), bind_ok, if_pos h.2.2.1, if_pos h.2.2.2, bnd_eq]
  have eb : ((PySem.Builtin.Int.intBits (v + 1) : Nat) : Int) - 1 = (nuD v : Nat) := by
    have := (bl_in (v := v + 1) (by have := h.2.2.1; omega)).1
    unfold nuD
    show ((bl (v + 1) : Nat) : Int) - 1 = _
    omega
  rw [eb, put_unary g hu (by omega) (by omega) hl, bind_ok, grd_pos ⟨by omega, by omega, by decide, by decide⟩, show Int.toNat (((nuD v : Nat) : Int) - 1 - -1) = nuD v by omega]
  have g1 := items_ok g oku
  have l1 := items_len (unI base (nuD v : Nat) 20) e
  have hx := enc_loop (f := fun s x => F_SymbolWriter_number_b1 base v (nuD v : Nat) s x) (xs := rngD (((nuD v : Nat) : Int) - 1) (nuD v)) (its := nuR base v) (fun j e => (⟨e⟩ : St_SymbolWriter)) (e := encItems e (unI base (nuD v : Nat) 20)) (by rw [lr, rngD_length]) okr g1 (by rw [lr]; omega) fun j x t e hx ht g l => by
    obtain ⟨hj, hjw⟩ := rngD_at hx
    have ho := okr t (List.mem_of_getElem? ht)
    unfold nuR at ht
    obtain ⟨_, rfl⟩ := range_at ht
    show F_SymbolWriter_number_b1 base v (nuD v : Nat) ⟨e⟩ x = _
    unfold F_SymbolWriter_number_b1
    rw [grd_pos (by omega), bit_and, bnd_eq, show Int.toNat x = nuD v - 1 - j by omega]
    by_cases c : j = 0
    · subst c
      have cc := cap_in (k := ((nuD v : Nat) : Int) - 1) (by omega)
      rw [if_pos rfl] at ho
      rw [if_pos (by omega), if_pos rfl]
      have ed : F__digit_context base ((nuD v : Nat) : Int) = .ok (base + 8 + cap (((nuD v : Nat) : Int) - 1)) := rfl
      rw [ed, noEr_ok, bind_ok, code_item g (by have := h.1; omega) ho l]
      rfl
    · rw [if_neg c] at ho
      rw [if_neg (by omega), if_neg c, even_item g ho l]
      rfl
  rw [hx, bind_ok]
  unfold nuI
  rw [items_app]
  rfl
theorem absI_eq (v : Int) : (if v < 0 then -v else v) = absI v := rfl
theorem put_ok {e : EncS} (g : EncG e) {y : Int × Int × Int × Int} (h : Sy y) (hv : Sv y) (hl : e.front.length ≤ 899000) : F__law_put ⟨e⟩ y = .ok ⟨encItems e (symI y)⟩ := by
  have ok := symI_ok h hv
  obtain ⟨k, base, v, c⟩ := y
  have hk := sym_kind h
  unfold F__law_put
  rcases hk with hk | hk | hk | hk | hk | hk
  · have hk : k = 0 := hk
    subst hk
    have ok : ItemsOk [(base, v)] := ok
    have o := ok _ (List.mem_singleton.mpr rfl)
    have hb : 0 ≤ base := by
      rcases h with h | h | h | h | h
      · exact h.2.1
      all_goals first | exact absurd h.1 (by simp) | exact absurd h (by simp)
    have e1 : F_SymbolWriter_flag ⟨e⟩ base (decide (v = 1)) = .ok ⟨encItems e [(base, v)]⟩ := by
      unfold F_SymbolWriter_flag
      have hb2 : base ≤ 255 := o.1.2
      have ev : (if decide (v = 1) = true then (1 : Int) else 0) = v := by
        have v0 : 0 ≤ v := o.2.1
        have v1 : v ≤ 1 := o.2.2
        by_cases c : v = 1
        · rw [if_pos (decide_eq_true c), c]
        · rw [if_neg (by rw [decide_eq_false c]; exact Bool.false_ne_true)]
          omega
      rw [checks_ok (.inr ⟨hb, by omega⟩), bind_ok, ev, code_item g hb o (by omega)]
      rfl
    rw [if_pos rfl]
    show (F_SymbolWriter_flag ⟨e⟩ base (decide (v = 1))).bind _ = _
    rw [e1, bind_ok, if_neg (fst_ne (by decide)), if_neg (fst_ne (by decide)), if_neg (fst_ne (by decide)), if_neg (fst_ne (by decide)), if_neg (fst_ne (by decide))]
    rfl
  · have hk : k = 1 := hk
    subst hk
    have hc := h.ch hv rfl
    have hvv := hv.2.1 rfl
    have hcc : 1 ≤ c ∧ c ≤ 16 := by
      rcases h with h | h | h | h | h
      · exact absurd h.1 (by simp)
      · exact ⟨h.2.1, h.2.2.1⟩
      · exact absurd h.1 (by simp)
      · exact absurd h.1 (by simp)
      · exact absurd h (by simp)
    rw [if_neg (fst_ne (by decide)), if_pos rfl]
    show (F_SymbolWriter_choice ⟨e⟩ base v c).bind _ = _
    rw [put_choice g hcc.1 hcc.2 hc hvv.2 hl, bind_ok, if_neg (fst_ne (by decide)), if_neg (fst_ne (by decide)), if_neg (fst_ne (by decide)), if_neg (fst_ne (by decide))]
    rfl
  · have hk : k = 2 := hk
    subst hk
    have hvv := hv.2.2.1 rfl
    rw [if_neg (fst_ne (by decide)), if_neg (fst_ne (by decide)), if_pos rfl]
    show (F_SymbolWriter_unary ⟨e⟩ base v c).bind _ = _
    rw [put_unary g (h.un rfl) hvv.1 hvv.2 hl, bind_ok, if_neg (fst_ne (by decide)), if_neg (fst_ne (by decide)), if_neg (fst_ne (by decide))]
    rfl
  · have hk : k = 3 := hk
    subst hk
    have hvv := hv.2.2.2.1 rfl
    have hn := h.nu hv (.inl rfl)
    have ea : absI v = v := by
      have h0 : 0 ≤ v := hvv.1
      unfold absI
      rw [if_neg (by omega)]
    have hn : NuOk base (absI v) := hn
    rw [ea] at hn
    rw [if_neg (fst_ne (by decide)), if_neg (fst_ne (by decide)), if_neg (fst_ne (by decide)), if_pos rfl]
    show (F_SymbolWriter_number ⟨e⟩ base v).bind _ = _
    rw [put_number g hn hl, bind_ok, if_neg (fst_ne (by decide)), if_neg (fst_ne (by decide))]
    have es : symI (3, base, v, c) = nuI base v := by
      show nuI base (absI v) ++ _ = _
      rw [ea]
      exact List.append_nil _
    rw [es]
  · have hk : k = 4 := hk
    subst hk
    have hn : NuOk base (absI v) := h.nu hv (.inr rfl)
    have okn := nuI_ok hn
    have e1 : F_SymbolWriter_signed ⟨e⟩ base v = .ok ⟨encItems e (symI (4, base, v, c))⟩ := by
      unfold F_SymbolWriter_signed
      rw [absI_eq, put_number g hn hl, bind_ok]
      show _ = Rx.ok (⟨encItems e (nuI base (absI v) ++ (if (4 : Int) = 4 ∧ v ≠ 0 then [((-1 : Int), if v < 0 then (1 : Int) else 0)] else []))⟩ : St_SymbolWriter)
      by_cases c : v = 0
      · rw [if_pos c, if_neg (fun h => h.2 c), List.append_nil]
      · have g1 := items_ok g okn
        have l1 := items_len (nuI base (absI v)) e
        have hd := nuD_in hn.2.2.1 hn.2.2.2
        have l2 : (nuI base (absI v)).length ≤ 85 := by
          have := unI_len base (nuD (absI v) : Nat) 20 (by omega)
          unfold nuI nuR
          rw [List.length_append, List.length_map, List.length_range]
          omega
        rw [if_neg c, if_pos (show (4 : Int) = 4 ∧ v ≠ 0 from ⟨rfl, c⟩), items_app, even_item g1 ⟨⟨by show (-1 : Int) ≤ -1; decide, by show (-1 : Int) ≤ 255; decide⟩, by show 0 ≤ (if v < 0 then (1 : Int) else 0); split <;> decide, by show (if v < 0 then (1 : Int) else 0) ≤ 1; split <;> decide⟩ (by omega)]
        rfl
    rw [if_neg (fst_ne (by decide)), if_neg (fst_ne (by decide)), if_neg (fst_ne (by decide)), if_neg (fst_ne (by decide)), if_pos rfl]
    show (F_SymbolWriter_signed ⟨e⟩ base v).bind _ = _
    rw [e1, bind_ok, if_neg (fst_ne (by decide))]
  · have hk : k = 5 := hk
    subst hk
    have ok : ItemsOk [(-1, v)] := ok
    have o := ok _ (List.mem_singleton.mpr rfl)
    rw [if_neg (fst_ne (by decide)), if_neg (fst_ne (by decide)), if_neg (fst_ne (by decide)), if_neg (fst_ne (by decide)), if_neg (fst_ne (by decide)), if_pos rfl]
    have e1 : F_SymbolWriter_even ⟨e⟩ v = .ok ⟨encItems e [(-1, v)]⟩ := by
      unfold F_SymbolWriter_even
      rw [even_item g o (by omega)]
      rfl
    show (F_SymbolWriter_even ⟨e⟩ v).bind _ = _
    rw [e1]
    rfl
theorem mapA_gv {α β : Type} {f : α → Rx β} {P : β → Prop} : ∀ {xs : List α} {acc : List β}, (∀ x, Gv (f x) P) → (∀ y ∈ acc, P y) → acc.length + xs.length ≤ 1000000 → Gv (mapA xs acc f) (fun ys => (∀ y ∈ ys, P y) ∧ ys.length = acc.length + xs.length)
  | [], acc, _, h, _ => .ok ⟨h, rfl⟩
  | x :: xs, acc, hf, h, hl => by
    obtain ⟨y, e, hy⟩ := hf x
    have ih := mapA_gv (f := f) (xs := xs) (acc := acc ++ [y]) hf (fun z hz => by
      rcases List.mem_append.mp hz with hz | hz
      · exact h z hz
      · rw [List.mem_singleton.mp hz]
        exact hy) (by rw [List.length_append, List.length_singleton]; rw [List.length_cons] at hl; omega)
    rw [List.length_append, List.length_singleton] at ih
    obtain ⟨ys, e2, h2⟩ := ih
    refine ⟨ys, ?_, h2.1, by rw [h2.2, List.length_cons]; omega⟩
    unfold mapA
    rw [e]
    rw [List.length_cons] at hl
    first | (rw [grd_pos (by omega)]; exact e2) | (simp only [bind_ok]; rw [if_pos (by omega)]; exact e2) | exact e2
theorem init_put : F_Encoder___init__ = .ok encInit := by
  unfold F_Encoder___init__
  rw [grd_pos ⟨by decide, by decide, by decide +kernel⟩, bnd_eq]
  rfl
theorem unary_items_ok {base v most : Int} (h0 : 0 ≤ v) (h1 : v ≤ 64) : F__law_unary_items base v most = .ok (unI base v most) := by
  refine Gv.get ?_
  unfold F__law_unary_items
  refine Gv.grd ⟨by omega, by omega⟩ (Gv.bind_eq (mapA_pure0 (g := fun k => (base + cap k, (1 : Int))) (fun k _ => rfl) (by rw [rng_len]; omega)) ?_)
  unfold unI F__law_unary_items_k2
  by_cases c : v < most
  · rw [if_pos c, if_pos c]
    rw [grd_pos (by rw [List.length_map, rng_len]; omega), bnd_eq, bind_ok]
    exact .ok rfl
  · rw [if_neg c, if_neg c]
    exact .ok (by rw [List.append_nil])
theorem take_next {α : Type} {xs : List α} {i : Nat} (h : i < xs.length) : xs.take (i + 1) = xs.take i ++ [xs[i]] := by
  rw [List.take_succ, List.getElem?_eq_getElem h]
  rfl
theorem number_items_ok {base v : Int} (h : NuOk base v) : F__law_number_items base v = .ok (nuI base v) := by
  have hd := nuD_in h.2.2.1 h.2.2.2
  have lr : (nuR base v).length = nuD v := by unfold nuR; rw [List.length_map, List.length_range]
  have lu := unI_len base (nuD v : Nat) 20 (by omega)
  have eb : ((PySem.Builtin.Int.intBits (v + 1) : Nat) : Int) - 1 = (nuD v : Nat) := by
    have := (bl_in (v := v + 1) (by have := h.2.2.1; omega)).1
    unfold nuD
    show ((bl (v + 1) : Nat) : Int) - 1 = _
    omega
  refine Gv.get ?_
  unfold F__law_number_items
  refine Gv.bnd fun size hsz => ?_
  have hsz : size - 1 = (nuD v : Nat) := by rw [hsz]; exact eb
  rw [hsz]
  refine Gv.bind_eq (unary_items_ok (by omega) (by omega)) (Gv.grd ⟨by omega, by omega⟩ (Gv.bind (Gv.forS (P := fun i r => r = unI base (nuD v : Nat) 20 ++ (nuR base v).take i) (by rw [List.take_zero, List.append_nil]) fun i x r hx p => ?_) fun r p => ?_))
  · obtain ⟨hj, hjw⟩ := rng_at hx
    have hjw : i < nuD v := by omega
    have hl : r.length ≤ 1000 := by
      rw [p, List.length_append, List.length_take, lr]
      omega
    have e : (nuR base v)[i]'(by rw [lr]; exact hjw) = (if i = 0 then base + 8 + cap ((nuD v : Int) - 1) else -1, (v + 1) / 2 ^ (nuD v - 1 - i) % 2) := by
      unfold nuR
      rw [List.getElem_map, List.getElem_range]
    unfold F__law_number_items_b1
    refine Gv.grd (by omega) (Gv.bnd fun b hb => ?_)
    rw [bit_and, show Int.toNat (size - 2 - x) = nuD v - 1 - i by omega] at hb
    refine Gv.ite (fun c => Gv.grd (by omega) (Gv.bnd fun y hy => .ok ?_)) fun c => Gv.grd (by omega) (Gv.bnd fun y hy => .ok ?_)
    · rw [hy, p, take_next (by rw [lr]; exact hjw), e, if_pos (show i = 0 by omega), List.append_assoc, hb, show size - 2 = (nuD v : Int) - 1 by omega]
      rfl
    · rw [hy, p, take_next (by rw [lr]; exact hjw), e, if_neg (show ¬ i = 0 by omega), List.append_assoc, hb]
  · unfold F__law_number_items_r1
    refine .ok ?_
    rw [p, rng_len, Int.toNat_natCast, List.take_of_length_le (by rw [lr]; exact Nat.le_refl _)]
    rfl
theorem symbol_items_ok {y : Int × Int × Int × Int} (h : Sy y) (hv : Sv y) : F__law_symbol_items y = .ok (symI y) := by
  have hk := sym_kind h
  refine Gv.get ?_
  unfold F__law_symbol_items symI
  refine Gv.ite (fun k0 => .ok (by rw [if_pos k0])) fun k0 => ?_
  rw [if_neg k0]
  refine Gv.ite (fun k1 => ?_) fun k1 => ?_
  · rw [if_pos k1]
    have hc := h.ch hv k1
    have hcc : 1 ≤ y.2.2.2 ∧ y.2.2.2 ≤ 16 := by
      rcases h with h | h | h | h | h <;> omega
    have hw := intW_in hcc.1 hcc.2
    have ll : (chI y.2.1 y.2.2.1 (intW y.2.2.2).toNat).length = (intW y.2.2.2).toNat := by unfold chI; rw [List.length_map, List.length_range]
    refine Gv.bnd fun w hww => ?_
    have hww : w = intW y.2.2.2 := hww
    rw [← hww] at hc ll hw ⊢
    clear hww
    obtain ⟨w, rfl⟩ := Int.eq_ofNat_of_zero_le hw.1
    rw [Int.toNat_natCast] at hc ll ⊢
    refine Gv.grd ⟨by omega, by omega⟩ (Gv.bind (Gv.forS (P := fun i r => r = (chI y.2.1 y.2.2.1 w).take i) (by rw [List.take_zero]) fun i x r hx p => ?_) fun r p => ?_)
    · obtain ⟨hj, hjw⟩ := rng_at hx
      have hl : r.length ≤ 1000 := by
        rw [p, List.length_take, ll]
        omega
      have e : (chI y.2.1 y.2.2.1 w)[i]'(by rw [ll]; exact hjw) = (y.2.1 + (2 ^ i + y.2.2.1 / 2 ^ (w - i)) - 1, y.2.2.1 / 2 ^ (w - 1 - i) % 2) := by
        unfold chI
        rw [List.getElem_map, List.getElem_range]
      unfold F__law_symbol_items_b1
      refine Gv.grd ⟨by omega, by omega, one_big (by decide)⟩ (Gv.grd (by omega) (Gv.bnd fun b hb => Gv.grd (by omega) (Gv.grd (by omega) (Gv.bnd fun z hz => .ok ?_))))
      rw [Int.one_mul, show Int.toNat x = i by omega, show Int.toNat ((w : Int) - x) = w - i by omega] at hb
      rw [bit_and, show Int.toNat ((w : Int) - 1 - x) = w - 1 - i by omega] at hz
      rw [hz, p, take_next (by rw [ll]; exact hjw), e, hb]
    · unfold F__law_symbol_items_r1
      refine .ok ?_
      rw [p, rng_len, List.take_of_length_le (by rw [ll]; exact Nat.le_refl _)]
  rw [if_neg k1]
  refine Gv.ite (fun k2 => ?_) fun k2 => ?_
  · have hvv := hv.2.2.1 k2
    have hu := h.un k2
    rw [if_pos k2]
    exact Gv.bind_eq (unary_items_ok hvv.1 (by have := hu.2.1; omega)) (.ok rfl)
  rw [if_neg k2]
  refine Gv.ite (fun k5 => .ok (by rw [if_pos k5])) fun k5 => ?_
  rw [if_neg k5]
  have hn := h.nu hv (by omega)
  have hd := nuD_in hn.2.2.1 hn.2.2.2
  have l2 : (nuI y.2.1 (absI y.2.2.1)).length ≤ 85 := by
    have := unI_len y.2.1 (nuD (absI y.2.2.1) : Nat) 20 (by omega)
    unfold nuI nuR
    rw [List.length_append, List.length_map, List.length_range]
    omega
  rw [absI_eq]
  refine Gv.bind_eq (number_items_ok hn) ?_
  unfold F__law_symbol_items_k2
  by_cases k4 : y.1 = 4
  · by_cases z : y.2.2.1 = 0
    · rw [if_pos k4, if_pos z, if_neg (fun h => h.2 z)]
      exact .ok (by rw [List.append_nil])
    · rw [if_pos k4, if_neg z, if_pos (show y.1 = 4 ∧ y.2.2.1 ≠ 0 from ⟨k4, z⟩)]
      rw [grd_pos (by omega), bnd_eq, bind_ok]
      refine .ok ?_
      by_cases q : y.2.2.1 < 0
      · rw [if_pos q, if_pos (decide_eq_true q)]
      · rw [if_neg q, if_neg (by rw [decide_eq_false q]; exact Bool.false_ne_true)]
  · rw [if_neg k4, if_neg (fun h => k4 h.1)]
    exact .ok (by rw [List.append_nil])
theorem moved_eq (c b : Int) : F__law_moved c b = .ok (adaptE c b) := by
  unfold F__law_moved adaptE
  split <;> rfl
theorem item_turn {items : List (Int × Int)} {i : Nat} {it : Int × Int} {chances : List Int} {low span count : Int} (hi : items[i]? = some it) (hg : EncG (encItems encInit (items.take i))) (hit : (-1 ≤ it.1 ∧ it.1 ≤ 255) ∧ 0 ≤ it.2 ∧ it.2 ≤ 1)
    (hr : CodeR (encItems encInit (items.take i)) chances low span count) (hcn : count ≤ (i : Int)) (h0 : 0 ≤ count) : Gv (F__law_code_b1 low span count chances it) (fun r => CodeR (encItems encInit (items.take (i + 1))) r.2.2.2 r.1 r.2.1 r.2.2.1 ∧ r.2.2.1 ≤ ((i + 1 : Nat) : Int) ∧ 0 ≤ r.2.2.1) := by
  obtain ⟨hch, hcp⟩ := codeR_chance hg hr hit.1
  have hmid := encPre_ok hg hcp it.2
  unfold F__law_code_b1
  refine Gv.grd hch (Gv.grd (.inr ⟨by omega, by omega⟩) (Gv.bnd fun part hpart => Gv.bind (P := fun c => codeChances chances it.1 it.2 = c) ?_ fun ch hcc => ?_))
  · unfold codeChances
    by_cases c : 0 ≤ it.1
    · rw [if_pos c, if_pos c]
      exact Gv.grd hch (Gv.bind_eq (moved_eq _ _) (Gv.grd hch (Gv.bnd fun y hy => .ok hy.symm)))
    · rw [if_neg c, if_neg c]
      exact .ok rfl
  unfold F__law_code_k2
  refine Gv.bind (P := fun s => CodeN (encPre (encItems encInit (items.take i)) (itD chances it.1) it.2) s.1 s.2 count) ?_ fun s hs => ?_
  · by_cases c : it.2 = 0
    · rw [if_pos c]
      exact .ok (codeN_pre hg hcp hr.toN (by rw [if_pos c]) (by rw [if_pos c, hpart]))
    · rw [if_neg c]
      refine Gv.bnd fun l hl => Gv.bnd fun sp hsp => .ok (codeN_pre hg hcp hr.toN (by rw [if_neg c, ← hpart]; exact hl) (by rw [if_neg c, ← hpart]; exact hsp))
  unfold F__law_code_k3
  refine Gv.bind (Gv.forS (P := fun j (q : Int × Int × Int) => CodeN (if j = 0 then encPre (encItems encInit (items.take i)) (itD chances it.1) it.2 else encNorm (encPre (encItems encInit (items.take i)) (itD chances it.1) it.2)) q.1 q.2.1 q.2.2 ∧ count ≤ q.2.2 ∧ q.2.2 ≤ count + 1 ∧ (j = 0 → q.2.2 = count)) ⟨hs, by show count ≤ count; omega, by show count ≤ count + 1; omega, fun _ => rfl⟩ fun j x q hx p => ?_) fun q p => ?_
  · obtain ⟨hn, hc0, hc1, hc2⟩ := p
    unfold F__law_code_b4
    refine Gv.ite (fun c => Gv.bnd fun l hl => Gv.bnd fun sp hsp => Gv.bnd fun cn hcn => .ok ?_) fun c => .ok ?_
    · exact codeN_turn hmid hn hc0 hc1 hc2 (.inl ⟨c, hl, hsp, hcn⟩)
    · exact codeN_turn hmid hn hc0 hc1 hc2 (.inr ⟨c, rfl, rfl, rfl⟩)
  · obtain ⟨hn, hc0, hc1, _⟩ := p
    have l4 : (rng 0 (Int.toNat 4)).length = 4 := by decide
    rw [l4, if_neg (by decide)] at hn
    unfold F__law_code_r4
    exact .ok ⟨codeR_turn hi hg hr hit rfl hcc hn, by show q.2.2 ≤ _; omega, by show 0 ≤ q.2.2; omega⟩
theorem law_code_ok {items : List (Int × Int)} (ok : ItemsOk items) (hl : items.length ≤ 100000) : F__law_code items = .ok (encOctets (encItems encInit items), (encItems encInit items).probs) := by
  refine Gv.get ?_
  have hg : EncG (encItems encInit items) := items_ok init_ok ok
  unfold F__law_code
  refine Gv.bnd fun sp hsp => Gv.grd ⟨by decide, by decide, by decide +kernel⟩ (Gv.bind (Gv.forS (P := fun i (q : Int × Int × Int × List Int) => CodeR (encItems encInit (items.take i)) q.2.2.2 q.1 q.2.1 q.2.2.1 ∧ q.2.2.1 ≤ (i : Int) ∧ 0 ≤ q.2.2.1) ⟨by rw [hsp]; exact codeR_init, by show (0 : Int) ≤ ((0 : Nat) : Int); decide, by show (0 : Int) ≤ 0; decide⟩ fun i it q hi p => ?_) fun q p => ?_)
  · exact item_turn hi (items_ok init_ok fun x hx => ok x (List.mem_of_mem_take hx)) (ok it (List.mem_of_getElem? hi)) p.1 p.2.1 p.2.2
  · obtain ⟨low, span, count, chances⟩ := q
    obtain ⟨hr, hc, h0⟩ := p
    rw [List.take_length] at hr
    dsimp only at hr hc h0
    show Gv (F__law_code_r1 low span count chances) _
    unfold F__law_code_r1
    have em : (rng 0 (Int.toNat (count + 4))).map (fun k => PySem.Builtin.bitAnd (low / 2 ^ Int.toNat (8 * (count + 3 - k))) 255) = (encItems encInit items).front ++ digits4 (encItems encInit items).low := by
      rw [← code_oct hg.mid hr.toN]
      unfold rng
      rw [List.map_map]
      rfl
    refine Gv.grd ⟨by omega, by omega⟩ (Gv.bind_eq (mapA_pure0 (g := fun k => PySem.Builtin.bitAnd (low / 2 ^ Int.toNat (8 * (count + 3 - k))) 255) (fun k hk => ?_) (by rw [rng_len]; omega)) (Gv.grd ⟨by omega, by omega⟩ (Gv.bind (Gv.forS (P := fun i o => stripZ o = encOctets (encItems encInit items) ∧ (o = encOctets (encItems encInit items) ∨ (o.length : Int) + i ≤ count + 4)) ⟨congrArg stripZ em, .inr ?_⟩ fun i x o hx p => ?_) fun o p => ?_)))
    · have hk := rng_mem hk
      unfold F__law_code_c5
      rw [grd_pos (by omega)]
      rfl
    · rw [List.length_map, rng_len]
      omega
    · obtain ⟨hs, hl⟩ := p
      unfold F__law_code_b6
      refine Gv.ite (fun c => Gv.grd (last_in (ne_len c)) (Gv.ite (fun z => Gv.grd (ne_len c) (Gv.bnd fun y hy => .ok ?_)) fun z => .ok ?_)) fun c => .ok ?_
      · exact oct_turn hs hl (.inl ⟨ne_len c, z, hy⟩)
      · exact oct_turn hs hl (.inr ⟨.inl z, rfl⟩)
      · exact oct_turn hs hl (.inr ⟨.inr (nil_len c), rfl⟩)
    · obtain ⟨hs, hl⟩ := p
      rw [rng_len] at hl
      unfold F__law_code_r6
      exact .ok (by rw [oct_end hs hl h0, chances_cut hg hr])
theorem sym_all (xs : List Int) (h : xs.length ≤ 63) : Gv (mapA xs [] (fun x => noEr (F_law_c1 x))) (fun ys => (∀ y ∈ ys, Sy y ∧ Sv y) ∧ ys.length = xs.length) := by
  have := mapA_gv (f := fun x => noEr (F_law_c1 x)) (P := fun y => Sy y ∧ Sv y) (xs := xs) (acc := []) (fun x => Gv.noEr (by unfold F_law_c1; exact Gv.bind (symbol_gv x) fun y hy => .ok hy)) (fun y hy => nomatch hy) (by show 0 + xs.length ≤ 1000000; omega)
  rw [List.length_nil, Nat.zero_add] at this
  exact this
theorem extra_ok : ∀ y ∈ ([(0, 0, 1, 0), (1, 8, 5, 8), (4, 25, (-3), 0), (1, 24, 1, 2), (3, 41, 70, 0)] : List (Int × Int × Int × Int)), Sy y ∧ Sv y := by
  intro y hy
  simp only [List.mem_cons, List.not_mem_nil, or_false] at hy
  rcases hy with rfl | rfl | rfl | rfl | rfl <;> (unfold Sy Sv; decide)
theorem law_true (xs : List Int) (h : xs.length ≤ 63) : F_law xs = .ok true := by
  refine Gv.get ?_
  unfold F_law
  refine Gv.bind_eq (a := true) (by unfold F__law_named; rfl) (Gv.pos rfl (Gv.bind (sym_all xs h) fun ys hy => Gv.grd (by show ys.length + 5 ≤ 1000000; omega) (Gv.bind_eq init_put (Gv.bind_eq (a := (⟨encInit⟩ : St_SymbolWriter)) rfl ?_))))
  have hz : ∀ y ∈ cutL (ys ++ [(0, 0, 1, 0), (1, 8, 5, 8), (4, 25, (-3), 0), (1, 24, 1, 2), (3, 41, 70, 0)]) none (some 40), Sy y ∧ Sv y := fun y hm => by
    unfold cutL at hm
    rcases List.mem_append.mp (List.mem_of_mem_drop (List.mem_of_mem_take hm)) with hm | hm
    · exact hy.1 y hm
    · exact extra_ok y hm
  have hl : (cutL (ys ++ [(0, 0, 1, 0), (1, 8, 5, 8), (4, 25, (-3), 0), (1, 24, 1, 2), (3, 41, 70, 0)]) none (some 40)).length ≤ 100 := by
    have := cutL_len (ys ++ [(0, 0, 1, 0), (1, 8, 5, 8), (4, 25, (-3), 0), (1, 24, 1, 2), (3, 41, 70, 0)]) none (some 40)
    rw [List.length_append] at this
    have e5 : ([(0, 0, 1, 0), (1, 8, 5, 8), (4, 25, (-3), 0), (1, 24, 1, 2), (3, 41, 70, 0)] : List (Int × Int × Int × Int)).length = 5 := rfl
    omega
  generalize cutL (ys ++ [(0, 0, 1, 0), (1, 8, 5, 8), (4, 25, (-3), 0), (1, 24, 1, 2), (3, 41, 70, 0)]) none (some 40) = zs at hz hl
  refine Gv.bind (Gv.forS (P := fun i (s : St_SymbolWriter × List (Int × Int)) => s.1 = ⟨encItems encInit s.2⟩ ∧ ItemsOk s.2 ∧ s.2.length ≤ 100 * i) ⟨rfl, (fun x hx => nomatch hx), Nat.le_refl 0⟩ fun i y s hi p => ?_) fun s p => ?_
  · obtain ⟨w, its⟩ := s
    obtain ⟨p1, p2, p3⟩ := p
    have p1 : w = ⟨encItems encInit its⟩ := p1
    have p2 : ItemsOk its := p2
    have p3 : its.length ≤ 100 * i := p3
    subst p1
    have b := hz y (List.mem_of_getElem? hi)
    have hil := get_len hi
    have fl := items_len its encInit
    have e0 : encInit.front.length = 0 := rfl
    have sl := symI_len b.1 b.2
    unfold F_law_b2
    refine Gv.bind_eq (put_ok (items_ok init_ok p2) b.1 b.2 (by show (encItems encInit its).front.length ≤ 899000; omega)) (Gv.bind_eq (symbol_items_ok b.1 b.2) (Gv.grd (by omega) (.ok ⟨?_, items_app_ok p2 (symI_ok b.1 b.2), ?_⟩)))
    · show (⟨_⟩ : St_SymbolWriter) = ⟨_⟩
      rw [items_app]
    · show (its ++ symI y).length ≤ 100 * (i + 1)
      rw [List.length_append]
      omega
  · obtain ⟨w, its⟩ := s
    obtain ⟨p1, p2, p3⟩ := p
    have p1 : w = ⟨encItems encInit its⟩ := p1
    have p2 : ItemsOk its := p2
    have p3 : its.length ≤ 100 * zs.length := p3
    subst p1
    have g := items_ok init_ok p2
    have fl := items_len its encInit
    have e0 : encInit.front.length = 0 := rfl
    have gl := g.len
    unfold F_law_r2
    refine Gv.bind_eq (law_code_ok p2 (by omega)) (Gv.bind_eq (octets_eq (by show (encItems encInit its).front.length ≤ 900000; omega)) (Gv.pos rfl (Gv.bind_eq (a := .go ()) (forR_unit fun c hc => ?_) (.of_eq rfl rfl))))
    have hc := rng_mem hc
    unfold F_law_b3 F_Encoder_probability
    have gl2 : (encItems encInit its).probs.length = 256 := gl
    have gi := gd (show ((encItems encInit its).probs.length : Int) = 256 by omega) hc.1 (show c < 256 by omega)
    show (((F__check_context c).bind _).bind _) = _
    rw [ctx_ok hc.1 (by omega), bind_ok]
    show ((grd (-((encItems encInit its).probs.length : Int) ≤ c ∧ c < ((encItems encInit its).probs.length : Int)) _).bind _) = _
    rw [grd_pos gi, bind_ok, grd_pos gi, if_pos rfl]

end Vx
namespace Vx
open PySem PySem.Spec PyProof.Rows L2
def topS (i : Nat) : Stmt := PySem.Challenge.pw_thaumatrope_k17_symbols_as_decisions.main.body.getD i (.Pass ⟨0, 0, 0, 0⟩)
abbrev s_Encoder___init__ : Stmt := inClass (topS 23) 0
abbrev s_SymbolWriter___init__ : Stmt := inClass (topS 10) 0
abbrev s__law_moved : Stmt := topS 45
abbrev s__law_code : Stmt := topS 46
abbrev s__law_named : Stmt := topS 53
abbrev s__law_draws : Stmt := topS 44
abbrev s__law_symbol : Stmt := topS 47
abbrev s__check_contexts : Stmt := topS 11
abbrev s__check_context : Stmt := topS 24
abbrev s__check_decision : Stmt := topS 25
abbrev s__adapted : Stmt := topS 26
abbrev s_Encoder__carry : Stmt := inClass (topS 23) 6
abbrev s_Encoder__narrow : Stmt := inClass (topS 23) 5
abbrev s_Encoder_code : Stmt := inClass (topS 23) 1
abbrev s_SymbolWriter_flag : Stmt := inClass (topS 10) 1
abbrev s__choice_digits : Stmt := topS 12
abbrev s_SymbolWriter_choice : Stmt := inClass (topS 10) 2
abbrev s__check_unary : Stmt := topS 13
abbrev s_SymbolWriter_unary : Stmt := inClass (topS 10) 3
abbrev s__digit_context : Stmt := topS 14
abbrev s_Encoder_code_even : Stmt := inClass (topS 23) 2
abbrev s_SymbolWriter_number : Stmt := inClass (topS 10) 4
abbrev s_SymbolWriter_signed : Stmt := inClass (topS 10) 5
abbrev s_SymbolWriter_even : Stmt := inClass (topS 10) 6
abbrev s__law_put : Stmt := topS 48
abbrev s__law_unary_items : Stmt := topS 50
abbrev s__law_number_items : Stmt := topS 51
abbrev s__law_symbol_items : Stmt := topS 52
abbrev s_Encoder_octets : Stmt := inClass (topS 23) 3
abbrev s_Encoder_probability : Stmt := inClass (topS 23) 4
abbrev s_law : Stmt := topS 54
structure Ads where
  c_Encoder : Addr
  c_SymbolWriter : Addr
  x_CodecError : Addr
  x_OutOfRange : Addr
  z0 : Addr
def excA (AD : Ads) : Nat → Addr
  | 0 => AD.x_CodecError
  | 1 => AD.x_OutOfRange
  | _ => AD.z0
structure Txt (K : PySem.W.Frag) (mg : Str → Option Value) (AD : Ads) : Prop where
  g_EVEN : ∃ u, mg "EVEN" = some u ∧ RelV (V.int 2048) u
  g_CONTEXTS_coder : ∃ u, mg "CONTEXTS_coder" = some u ∧ RelV (V.int 256) u
  g_WORD : ∃ u, mg "WORD" = some u ∧ RelV (V.int 4294967296) u
  b_range : mg "range" = none
  b_len : mg "len" = none
  g_LEVEL : ∃ u, mg "LEVEL" = some u ∧ RelV (V.int 192) u
  g_LAST : ∃ u, mg "LAST" = some u ∧ RelV (V.int 128) u
  g_SIGNIFICANT : ∃ u, mg "SIGNIFICANT" = some u ∧ RelV (V.int 64) u
  g_CODED : ∃ u, mg "CODED" = some u ∧ RelV (V.int 58) u
  g_SIZE : ∃ u, mg "SIZE" = some u ∧ RelV (V.int 57) u
  g_VECTOR_Y : ∃ u, mg "VECTOR_Y" = some u ∧ RelV (V.int 41) u
  g_VECTOR_X : ∃ u, mg "VECTOR_X" = some u ∧ RelV (V.int 25) u
  g_INDEX : ∃ u, mg "INDEX" = some u ∧ RelV (V.int 24) u
  g_DIRECTION : ∃ u, mg "DIRECTION" = some u ∧ RelV (V.int 20) u
  g_CHROMA : ∃ u, mg "CHROMA" = some u ∧ RelV (V.int 16) u
  g_MODE : ∃ u, mg "MODE" = some u ∧ RelV (V.int 8) u
  g_SPLIT : ∃ u, mg "SPLIT" = some u ∧ RelV (V.int 6) u
  g_INTRA : ∃ u, mg "INTRA" = some u ∧ RelV (V.int 3) u
  g_SKIP : ∃ u, mg "SKIP" = some u ∧ RelV (V.int 0) u
  g_OFFSET : ∃ u, mg "OFFSET" = some u ∧ RelV (V.int 224) u
  b_abs : mg "abs" = none
  b_int : mg "int" = none
  b_min : mg "min" = none
  b_max : mg "max" = none
  g_CONTEXTS_symbols : ∃ u, mg "CONTEXTS_symbols" = some u ∧ RelV (V.int 256) u
  g_SCALE : ∃ u, mg "SCALE" = some u ∧ RelV (V.int 4096) u
  g_RATE : ∃ u, mg "RATE" = some u ∧ RelV (V.int 5) u
  g_SCALE_BITS : ∃ u, mg "SCALE_BITS" = some u ∧ RelV (V.int 12) u
  g_LEAST_SPAN : ∃ u, mg "LEAST_SPAN" = some u ∧ RelV (V.int 16777216) u
  g_MOST_CHOICES : ∃ u, mg "MOST_CHOICES" = some u ∧ RelV (V.int 16) u
  g_GREATEST_UNARY : ∃ u, mg "GREATEST_UNARY" = some u ∧ RelV (V.int 64) u
  g_SHARED : ∃ u, mg "SHARED" = some u ∧ RelV (V.int 8) u
  g_GREATEST_NUMBER : ∃ u, mg "GREATEST_NUMBER" = some u ∧ RelV (V.int 1048576) u
  g_MOST_DIGITS : ∃ u, mg "MOST_DIGITS" = some u ∧ RelV (V.int 20) u
  cl_Encoder : Cls K AD.c_Encoder
  n_Encoder__probabilities : NoAttr K AD.c_Encoder "_probabilities"
  n_Encoder__front : NoAttr K AD.c_Encoder "_front"
  n_Encoder__low : NoAttr K AD.c_Encoder "_low"
  n_Encoder__span : NoAttr K AD.c_Encoder "_span"
  cl_SymbolWriter : Cls K AD.c_SymbolWriter
  n_SymbolWriter__encoder : NoAttr K AD.c_SymbolWriter "_encoder"
  xg_OutOfRange : mg "OutOfRange" = some (.ref AD.x_OutOfRange)
  xx_OutOfRange : PySem.W.excIn K AD.x_OutOfRange [.type "ValueError", .type "Exception", .type "BaseException", .type "object"] "ValueError.__new__" = true
  xk_OutOfRange : PySem.W.keepIn K (.ref AD.x_OutOfRange) = true
  xb_OutOfRange : PySem.W.subIn K (.ref AD.x_OutOfRange) (.type "BaseException") = some true
  xt_OutOfRange : PySem.W.typeIn K (.ref AD.x_OutOfRange) = some (.type "type")
abbrev pat_Encoder___init___0 : Pat := (1, [], fun vs _ => vs)
abbrev pats_Encoder___init__ : List Pat := [pat_Encoder___init___0]
abbrev pat_SymbolWriter___init___0 : Pat := (2, [], fun vs _ => vs)
abbrev pats_SymbolWriter___init__ : List Pat := [pat_SymbolWriter___init___0]
abbrev pat__law_moved_0 : Pat := (2, [], fun vs _ => vs)
abbrev pats__law_moved : List Pat := [pat__law_moved_0]
abbrev pat__law_code_0 : Pat := (1, [], fun vs _ => vs)
abbrev pats__law_code : List Pat := [pat__law_code_0]
abbrev pat__law_named_0 : Pat := (0, [], fun vs _ => vs)
abbrev pats__law_named : List Pat := [pat__law_named_0]
abbrev pat__law_draws_0 : Pat := (2, [], fun vs _ => vs)
abbrev pats__law_draws : List Pat := [pat__law_draws_0]
abbrev pat__law_symbol_0 : Pat := (1, [], fun vs _ => vs)
abbrev pats__law_symbol : List Pat := [pat__law_symbol_0]
abbrev pat__check_contexts_0 : Pat := (2, [], fun vs _ => vs)
abbrev pats__check_contexts : List Pat := [pat__check_contexts_0]
abbrev pat__check_context_0 : Pat := (1, [], fun vs _ => vs)
abbrev pats__check_context : List Pat := [pat__check_context_0]
abbrev pat__check_decision_0 : Pat := (1, [], fun vs _ => vs)
abbrev pats__check_decision : List Pat := [pat__check_decision_0]
abbrev pat__adapted_0 : Pat := (2, [], fun vs _ => vs)
abbrev pats__adapted : List Pat := [pat__adapted_0]
abbrev pat_Encoder__carry_0 : Pat := (1, [], fun vs _ => vs)
abbrev pats_Encoder__carry : List Pat := [pat_Encoder__carry_0]
abbrev pat_Encoder__narrow_0 : Pat := (3, [], fun vs _ => vs)
abbrev pats_Encoder__narrow : List Pat := [pat_Encoder__narrow_0]
abbrev pat_Encoder_code_0 : Pat := (3, [], fun vs _ => vs)
abbrev pats_Encoder_code : List Pat := [pat_Encoder_code_0]
abbrev pat_SymbolWriter_flag_0 : Pat := (3, [], fun vs _ => vs)
abbrev pats_SymbolWriter_flag : List Pat := [pat_SymbolWriter_flag_0]
abbrev pat__choice_digits_0 : Pat := (2, [], fun vs _ => vs)
abbrev pats__choice_digits : List Pat := [pat__choice_digits_0]
abbrev pat_SymbolWriter_choice_0 : Pat := (3, ["count"], fun vs zs => match vs, zs with | [a0, a1, a2], [b0] => [a0, a1, a2, b0] | _, _ => [])
abbrev pats_SymbolWriter_choice : List Pat := [pat_SymbolWriter_choice_0]
abbrev pat__check_unary_0 : Pat := (2, [], fun vs _ => vs)
abbrev pats__check_unary : List Pat := [pat__check_unary_0]
abbrev pat_SymbolWriter_unary_0 : Pat := (3, ["most"], fun vs zs => match vs, zs with | [a0, a1, a2], [b0] => [a0, a1, a2, b0] | _, _ => [])
abbrev pats_SymbolWriter_unary : List Pat := [pat_SymbolWriter_unary_0]
abbrev pat__digit_context_0 : Pat := (2, [], fun vs _ => vs)
abbrev pats__digit_context : List Pat := [pat__digit_context_0]
abbrev pat_Encoder_code_even_0 : Pat := (2, [], fun vs _ => vs)
abbrev pats_Encoder_code_even : List Pat := [pat_Encoder_code_even_0]
abbrev pat_SymbolWriter_number_0 : Pat := (3, [], fun vs _ => vs)
abbrev pats_SymbolWriter_number : List Pat := [pat_SymbolWriter_number_0]
abbrev pat_SymbolWriter_signed_0 : Pat := (3, [], fun vs _ => vs)
abbrev pats_SymbolWriter_signed : List Pat := [pat_SymbolWriter_signed_0]
abbrev pat_SymbolWriter_even_0 : Pat := (2, [], fun vs _ => vs)
abbrev pats_SymbolWriter_even : List Pat := [pat_SymbolWriter_even_0]
abbrev pat__law_put_0 : Pat := (2, [], fun vs _ => vs)
abbrev pats__law_put : List Pat := [pat__law_put_0]
abbrev pat__law_unary_items_0 : Pat := (3, [], fun vs _ => vs)
abbrev pats__law_unary_items : List Pat := [pat__law_unary_items_0]
abbrev pat__law_number_items_0 : Pat := (2, [], fun vs _ => vs)
abbrev pats__law_number_items : List Pat := [pat__law_number_items_0]
abbrev pat__law_symbol_items_0 : Pat := (1, [], fun vs _ => vs)
abbrev pats__law_symbol_items : List Pat := [pat__law_symbol_items_0]
abbrev pat_Encoder_octets_0 : Pat := (1, [], fun vs _ => vs)
abbrev pats_Encoder_octets : List Pat := [pat_Encoder_octets_0]
abbrev pat_Encoder_probability_0 : Pat := (2, [], fun vs _ => vs)
abbrev pats_Encoder_probability : List Pat := [pat_Encoder_probability_0]
abbrev pats_law : List Pat := []
def sp_Encoder___init__ (K : PySem.W.Frag) (AD : Ads) : Sp := fun vs H Q E => ∃ (G : Hp) (p_self dx_self : Addr), vs = [.ref p_self] ∧ Same G H ∧ (∀ a ∈ [p_self], G a = none) ∧ H p_self = some (.ins AD.c_Encoder dx_self []) ∧ cW (F_Encoder___init__ ) (fun v => ∀ (H' : Hp) (l_probs l_front : Addr), SameX p_self H H' → H l_probs = none → H l_front = none → l_probs ≠ l_front → H' p_self = some (.ins AD.c_Encoder dx_self [("_probabilities", V.ref l_probs), ("_front", V.ref l_front), ("_low", V.int v.low), ("_span", V.int v.span)]) → H' l_probs = some (.lst (v.probs.map V.int)) → H' l_front = some (.lst (v.front.map V.int)) → Q .non H') (fun e => ∀ H', Same H H' → E (.ref (excA AD e)) none H')
def sp_SymbolWriter___init__ (K : PySem.W.Frag) (AD : Ads) : Sp := fun vs H Q E => ∃ (G : Hp) (p_self dx_self : Addr) (p_encoder l_encoder_probs l_encoder_front dx_encoder : Addr) (encoder' : St_Encoder), vs = [.ref p_self, .ref p_encoder] ∧ Same G H ∧ (∀ a ∈ [p_self], G a = none) ∧ H p_self = some (.ins AD.c_SymbolWriter dx_self []) ∧ (hideL [p_self] H) p_encoder = some (.ins AD.c_Encoder dx_encoder [("_probabilities", V.ref l_encoder_probs), ("_front", V.ref l_encoder_front), ("_low", V.int encoder'.low), ("_span", V.int encoder'.span)]) ∧ (hideL [p_self] H) l_encoder_probs = some (.lst ((encoder'.probs : (List Int)).map V.int)) ∧ (hideL [p_self] H) l_encoder_front = some (.lst ((encoder'.front : (List Int)).map V.int)) ∧ cW (F_SymbolWriter___init__ encoder') (fun v => ∀ (H' : Hp), SameX p_self H H' → H' p_self = some (.ins AD.c_SymbolWriter dx_self [("_encoder", V.ref p_encoder)]) → Q .non H') (fun e => ∀ H', Same H H' → E (.ref (excA AD e)) none H')
def sp__law_moved (K : PySem.W.Frag) (AD : Ads) : Sp := fun vs H Q E => ∃ (G : Hp) (p' : Int) (decision' : Int), vs = [.int p', .int decision'] ∧ Same G H ∧ cW (F__law_moved p' decision') (fun v => Q (.int v) H) (fun e => E (.ref (excA AD e)) none H)
def sp__law_code (K : PySem.W.Frag) (AD : Ads) : Sp := fun vs H Q E => ∃ (G : Hp) (v_items : V) (items' : (List (Int × Int))), vs = [v_items] ∧ Same G H ∧ Rp (hideL [] H) v_items ((encL (encT2 PyData.int PyData.int)) items') ∧ cW (F__law_code items') (fun v => ∀ u H' G', Same H H' → Same G G' → Same G' H' → (∀ b, H b ≠ none → G b = none → G' b = none) → Rp G' u ((encT2 (encL PyData.int) (encL PyData.int)) v) → Q u H') (fun e => ∀ H', Same H H' → E (.ref (excA AD e)) none H')
def sp__law_named (K : PySem.W.Frag) (AD : Ads) : Sp := fun vs H Q E => ∃ (G : Hp), vs = [] ∧ Same G H ∧ cW (F__law_named ) (fun v => ∀ H', Same H H' → Q (.bl v) H') (fun e => ∀ H', Same H H' → E (.ref (excA AD e)) none H')
def sp__law_draws (K : PySem.W.Frag) (AD : Ads) : Sp := fun vs H Q E => ∃ (G : Hp) (cell' : Int) (a_limits : Addr) (limits' : List Int), vs = [.int cell', .ref a_limits] ∧ Same G H ∧ (hideL [] H) a_limits = some (.lst ((limits' : List Int).map V.int)) ∧ cW (F__law_draws cell' limits') (fun v => ∀ p H', H p = none → Same H H' → H' p = some (.lst (v.map V.int)) → Q (.ref p) H') (fun e => ∀ H', Same H H' → E (.ref (excA AD e)) none H')
def sp__law_symbol (K : PySem.W.Frag) (AD : Ads) : Sp := fun vs H Q E => ∃ (G : Hp) (cell' : Int), vs = [.int cell'] ∧ Same G H ∧ cW (F__law_symbol cell') (fun v => ∀ u H' G', Same H H' → Same G G' → Same G' H' → (∀ b, H b ≠ none → G b = none → G' b = none) → Rp G' u ((encT4 PyData.int PyData.int PyData.int PyData.int) v) → Q u H') (fun e => ∀ H', Same H H' → E (.ref (excA AD e)) none H')
def sp__check_contexts (K : PySem.W.Frag) (AD : Ads) : Sp := fun vs H Q E => ∃ (G : Hp) (base' : Int) (count' : Int), vs = [.int base', .int count'] ∧ Same G H ∧ cW (F__check_contexts base' count') (fun v => Q .non H) (fun e => E (.ref (excA AD e)) none H)
def sp__check_context (K : PySem.W.Frag) (AD : Ads) : Sp := fun vs H Q E => ∃ (G : Hp) (context' : Int), vs = [.int context'] ∧ Same G H ∧ cW (F__check_context context') (fun v => Q .non H) (fun e => E (.ref (excA AD e)) none H)
def sp__check_decision (K : PySem.W.Frag) (AD : Ads) : Sp := fun vs H Q E => ∃ (G : Hp) (decision' : Int), vs = [.int decision'] ∧ Same G H ∧ cW (F__check_decision decision') (fun v => Q .non H) (fun e => E (.ref (excA AD e)) none H)
def sp__adapted (K : PySem.W.Frag) (AD : Ads) : Sp := fun vs H Q E => ∃ (G : Hp) (chance' : Int) (decision' : Int), vs = [.int chance', .int decision'] ∧ Same G H ∧ cW (F__adapted chance' decision') (fun v => Q (.int v) H) (fun e => E (.ref (excA AD e)) none H)
def sp_Encoder__carry (K : PySem.W.Frag) (AD : Ads) : Sp := fun vs H Q E => ∃ (G : Hp) (p_self l_self_probs l_self_front dx_self : Addr) (self' : St_Encoder), vs = [.ref p_self] ∧ Same G H ∧ (∀ a ∈ [p_self, l_self_probs, l_self_front], G a = none) ∧ H p_self = some (.ins AD.c_Encoder dx_self [("_probabilities", V.ref l_self_probs), ("_front", V.ref l_self_front), ("_low", V.int self'.low), ("_span", V.int self'.span)]) ∧ H l_self_probs = some (.lst ((self'.probs : (List Int)).map V.int)) ∧ H l_self_front = some (.lst ((self'.front : (List Int)).map V.int)) ∧ l_self_probs ≠ l_self_front ∧ cW (F_Encoder__carry self') (fun v => ∀ (H' : Hp), SameXs [p_self, l_self_probs, l_self_front] H H' → H' p_self = some (.ins AD.c_Encoder dx_self [("_probabilities", V.ref l_self_probs), ("_front", V.ref l_self_front), ("_low", V.int v.low), ("_span", V.int v.span)]) → H' l_self_probs = some (.lst ((v.probs : (List Int)).map V.int)) → H' l_self_front = some (.lst ((v.front : (List Int)).map V.int)) → Q .non H') (fun e => ∀ H', Same H H' → E (.ref (excA AD e)) none H')
def sp_Encoder__narrow (K : PySem.W.Frag) (AD : Ads) : Sp := fun vs H Q E => ∃ (G : Hp) (p_self l_self_probs l_self_front dx_self : Addr) (self' : St_Encoder) (chance' : Int) (decision' : Int), vs = [.ref p_self, .int chance', .int decision'] ∧ Same G H ∧ (∀ a ∈ [p_self, l_self_probs, l_self_front], G a = none) ∧ H p_self = some (.ins AD.c_Encoder dx_self [("_probabilities", V.ref l_self_probs), ("_front", V.ref l_self_front), ("_low", V.int self'.low), ("_span", V.int self'.span)]) ∧ H l_self_probs = some (.lst ((self'.probs : (List Int)).map V.int)) ∧ H l_self_front = some (.lst ((self'.front : (List Int)).map V.int)) ∧ l_self_probs ≠ l_self_front ∧ cW (F_Encoder__narrow self' chance' decision') (fun v => ∀ (H' : Hp), SameXs [p_self, l_self_probs, l_self_front] H H' → H' p_self = some (.ins AD.c_Encoder dx_self [("_probabilities", V.ref l_self_probs), ("_front", V.ref l_self_front), ("_low", V.int v.low), ("_span", V.int v.span)]) → H' l_self_probs = some (.lst ((v.probs : (List Int)).map V.int)) → H' l_self_front = some (.lst ((v.front : (List Int)).map V.int)) → Q .non H') (fun e => ∀ H', Same H H' → E (.ref (excA AD e)) none H')
def sp_Encoder_code (K : PySem.W.Frag) (AD : Ads) : Sp := fun vs H Q E => ∃ (G : Hp) (p_self l_self_probs l_self_front dx_self : Addr) (self' : St_Encoder) (context' : Int) (decision' : Int), vs = [.ref p_self, .int context', .int decision'] ∧ Same G H ∧ (∀ a ∈ [p_self, l_self_probs, l_self_front], G a = none) ∧ H p_self = some (.ins AD.c_Encoder dx_self [("_probabilities", V.ref l_self_probs), ("_front", V.ref l_self_front), ("_low", V.int self'.low), ("_span", V.int self'.span)]) ∧ H l_self_probs = some (.lst ((self'.probs : (List Int)).map V.int)) ∧ H l_self_front = some (.lst ((self'.front : (List Int)).map V.int)) ∧ l_self_probs ≠ l_self_front ∧ cW (F_Encoder_code self' context' decision') (fun v => ∀ (H' : Hp), SameXs [p_self, l_self_probs, l_self_front] H H' → H' p_self = some (.ins AD.c_Encoder dx_self [("_probabilities", V.ref l_self_probs), ("_front", V.ref l_self_front), ("_low", V.int v.low), ("_span", V.int v.span)]) → H' l_self_probs = some (.lst ((v.probs : (List Int)).map V.int)) → H' l_self_front = some (.lst ((v.front : (List Int)).map V.int)) → Q .non H') (fun e => ∀ H', Same H H' → E (.ref (excA AD e)) none H')
def sp_SymbolWriter_flag (K : PySem.W.Frag) (AD : Ads) : Sp := fun vs H Q E => ∃ (G : Hp) (p_self p_self_enc l_self_enc_probs l_self_enc_front dx_self dx_self_enc : Addr) (self' : St_SymbolWriter) (base' : Int) (value' : Bool), vs = [.ref p_self, .int base', .bl value'] ∧ Same G H ∧ (∀ a ∈ [p_self, p_self_enc, l_self_enc_probs, l_self_enc_front], G a = none) ∧ H p_self = some (.ins AD.c_SymbolWriter dx_self [("_encoder", V.ref p_self_enc)]) ∧ H p_self_enc = some (.ins AD.c_Encoder dx_self_enc [("_probabilities", V.ref l_self_enc_probs), ("_front", V.ref l_self_enc_front), ("_low", V.int self'.enc.low), ("_span", V.int self'.enc.span)]) ∧ H l_self_enc_probs = some (.lst ((self'.enc.probs : (List Int)).map V.int)) ∧ H l_self_enc_front = some (.lst ((self'.enc.front : (List Int)).map V.int)) ∧ l_self_enc_probs ≠ l_self_enc_front ∧ p_self ≠ p_self_enc ∧ cW (F_SymbolWriter_flag self' base' value') (fun v => ∀ (H' : Hp), SameXs [p_self, p_self_enc, l_self_enc_probs, l_self_enc_front] H H' → H' p_self = some (.ins AD.c_SymbolWriter dx_self [("_encoder", V.ref p_self_enc)]) → H' p_self_enc = some (.ins AD.c_Encoder dx_self_enc [("_probabilities", V.ref l_self_enc_probs), ("_front", V.ref l_self_enc_front), ("_low", V.int v.enc.low), ("_span", V.int v.enc.span)]) → H' l_self_enc_probs = some (.lst ((v.enc.probs : (List Int)).map V.int)) → H' l_self_enc_front = some (.lst ((v.enc.front : (List Int)).map V.int)) → Q .non H') (fun e => ∀ H', Same H H' → E (.ref (excA AD e)) none H')
def sp__choice_digits (K : PySem.W.Frag) (AD : Ads) : Sp := fun vs H Q E => ∃ (G : Hp) (base' : Int) (count' : Int), vs = [.int base', .int count'] ∧ Same G H ∧ cW (F__choice_digits base' count') (fun v => ∀ H', Same H H' → Q (.int v) H') (fun e => ∀ H', Same H H' → E (.ref (excA AD e)) none H')
def sp_SymbolWriter_choice (K : PySem.W.Frag) (AD : Ads) : Sp := fun vs H Q E => ∃ (G : Hp) (p_self p_self_enc l_self_enc_probs l_self_enc_front dx_self dx_self_enc : Addr) (self' : St_SymbolWriter) (base' : Int) (value' : Int) (count' : Int), vs = [.ref p_self, .int base', .int value', .int count'] ∧ Same G H ∧ (∀ a ∈ [p_self, p_self_enc, l_self_enc_probs, l_self_enc_front], G a = none) ∧ H p_self = some (.ins AD.c_SymbolWriter dx_self [("_encoder", V.ref p_self_enc)]) ∧ H p_self_enc = some (.ins AD.c_Encoder dx_self_enc [("_probabilities", V.ref l_self_enc_probs), ("_front", V.ref l_self_enc_front), ("_low", V.int self'.enc.low), ("_span", V.int self'.enc.span)]) ∧ H l_self_enc_probs = some (.lst ((self'.enc.probs : (List Int)).map V.int)) ∧ H l_self_enc_front = some (.lst ((self'.enc.front : (List Int)).map V.int)) ∧ l_self_enc_probs ≠ l_self_enc_front ∧ p_self ≠ p_self_enc ∧ cW (F_SymbolWriter_choice self' base' value' count') (fun v => ∀ (H' : Hp), SameXs [p_self, p_self_enc, l_self_enc_probs, l_self_enc_front] H H' → H' p_self = some (.ins AD.c_SymbolWriter dx_self [("_encoder", V.ref p_self_enc)]) → H' p_self_enc = some (.ins AD.c_Encoder dx_self_enc [("_probabilities", V.ref l_self_enc_probs), ("_front", V.ref l_self_enc_front), ("_low", V.int v.enc.low), ("_span", V.int v.enc.span)]) → H' l_self_enc_probs = some (.lst ((v.enc.probs : (List Int)).map V.int)) → H' l_self_enc_front = some (.lst ((v.enc.front : (List Int)).map V.int)) → Q .non H') (fun e => ∀ H', Same H H' → E (.ref (excA AD e)) none H')
def sp__check_unary (K : PySem.W.Frag) (AD : Ads) : Sp := fun vs H Q E => ∃ (G : Hp) (base' : Int) (most' : Int), vs = [.int base', .int most'] ∧ Same G H ∧ cW (F__check_unary base' most') (fun v => Q .non H) (fun e => E (.ref (excA AD e)) none H)
def sp_SymbolWriter_unary (K : PySem.W.Frag) (AD : Ads) : Sp := fun vs H Q E => ∃ (G : Hp) (p_self p_self_enc l_self_enc_probs l_self_enc_front dx_self dx_self_enc : Addr) (self' : St_SymbolWriter) (base' : Int) (value' : Int) (most' : Int), vs = [.ref p_self, .int base', .int value', .int most'] ∧ Same G H ∧ (∀ a ∈ [p_self, p_self_enc, l_self_enc_probs, l_self_enc_front], G a = none) ∧ H p_self = some (.ins AD.c_SymbolWriter dx_self [("_encoder", V.ref p_self_enc)]) ∧ H p_self_enc = some (.ins AD.c_Encoder dx_self_enc [("_probabilities", V.ref l_self_enc_probs), ("_front", V.ref l_self_enc_front), ("_low", V.int self'.enc.low), ("_span", V.int self'.enc.span)]) ∧ H l_self_enc_probs = some (.lst ((self'.enc.probs : (List Int)).map V.int)) ∧ H l_self_enc_front = some (.lst ((self'.enc.front : (List Int)).map V.int)) ∧ l_self_enc_probs ≠ l_self_enc_front ∧ p_self ≠ p_self_enc ∧ cW (F_SymbolWriter_unary self' base' value' most') (fun v => ∀ (H' : Hp), SameXs [p_self, p_self_enc, l_self_enc_probs, l_self_enc_front] H H' → H' p_self = some (.ins AD.c_SymbolWriter dx_self [("_encoder", V.ref p_self_enc)]) → H' p_self_enc = some (.ins AD.c_Encoder dx_self_enc [("_probabilities", V.ref l_self_enc_probs), ("_front", V.ref l_self_enc_front), ("_low", V.int v.enc.low), ("_span", V.int v.enc.span)]) → H' l_self_enc_probs = some (.lst ((v.enc.probs : (List Int)).map V.int)) → H' l_self_enc_front = some (.lst ((v.enc.front : (List Int)).map V.int)) → Q .non H') (fun e => ∀ H', Same H H' → E (.ref (excA AD e)) none H')
def sp__digit_context (K : PySem.W.Frag) (AD : Ads) : Sp := fun vs H Q E => ∃ (G : Hp) (base' : Int) (digits' : Int), vs = [.int base', .int digits'] ∧ Same G H ∧ cW (F__digit_context base' digits') (fun v => Q (.int v) H) (fun e => E (.ref (excA AD e)) none H)
def sp_Encoder_code_even (K : PySem.W.Frag) (AD : Ads) : Sp := fun vs H Q E => ∃ (G : Hp) (p_self l_self_probs l_self_front dx_self : Addr) (self' : St_Encoder) (decision' : Int), vs = [.ref p_self, .int decision'] ∧ Same G H ∧ (∀ a ∈ [p_self, l_self_probs, l_self_front], G a = none) ∧ H p_self = some (.ins AD.c_Encoder dx_self [("_probabilities", V.ref l_self_probs), ("_front", V.ref l_self_front), ("_low", V.int self'.low), ("_span", V.int self'.span)]) ∧ H l_self_probs = some (.lst ((self'.probs : (List Int)).map V.int)) ∧ H l_self_front = some (.lst ((self'.front : (List Int)).map V.int)) ∧ l_self_probs ≠ l_self_front ∧ cW (F_Encoder_code_even self' decision') (fun v => ∀ (H' : Hp), SameXs [p_self, l_self_probs, l_self_front] H H' → H' p_self = some (.ins AD.c_Encoder dx_self [("_probabilities", V.ref l_self_probs), ("_front", V.ref l_self_front), ("_low", V.int v.low), ("_span", V.int v.span)]) → H' l_self_probs = some (.lst ((v.probs : (List Int)).map V.int)) → H' l_self_front = some (.lst ((v.front : (List Int)).map V.int)) → Q .non H') (fun e => ∀ H', Same H H' → E (.ref (excA AD e)) none H')
def sp_SymbolWriter_number (K : PySem.W.Frag) (AD : Ads) : Sp := fun vs H Q E => ∃ (G : Hp) (p_self p_self_enc l_self_enc_probs l_self_enc_front dx_self dx_self_enc : Addr) (self' : St_SymbolWriter) (base' : Int) (value' : Int), vs = [.ref p_self, .int base', .int value'] ∧ Same G H ∧ (∀ a ∈ [p_self, p_self_enc, l_self_enc_probs, l_self_enc_front], G a = none) ∧ H p_self = some (.ins AD.c_SymbolWriter dx_self [("_encoder", V.ref p_self_enc)]) ∧ H p_self_enc = some (.ins AD.c_Encoder dx_self_enc [("_probabilities", V.ref l_self_enc_probs), ("_front", V.ref l_self_enc_front), ("_low", V.int self'.enc.low), ("_span", V.int self'.enc.span)]) ∧ H l_self_enc_probs = some (.lst ((self'.enc.probs : (List Int)).map V.int)) ∧ H l_self_enc_front = some (.lst ((self'.enc.front : (List Int)).map V.int)) ∧ l_self_enc_probs ≠ l_self_enc_front ∧ p_self ≠ p_self_enc ∧ cW (F_SymbolWriter_number self' base' value') (fun v => ∀ (H' : Hp), SameXs [p_self, p_self_enc, l_self_enc_probs, l_self_enc_front] H H' → H' p_self = some (.ins AD.c_SymbolWriter dx_self [("_encoder", V.ref p_self_enc)]) → H' p_self_enc = some (.ins AD.c_Encoder dx_self_enc [("_probabilities", V.ref l_self_enc_probs), ("_front", V.ref l_self_enc_front), ("_low", V.int v.enc.low), ("_span", V.int v.enc.span)]) → H' l_self_enc_probs = some (.lst ((v.enc.probs : (List Int)).map V.int)) → H' l_self_enc_front = some (.lst ((v.enc.front : (List Int)).map V.int)) → Q .non H') (fun e => ∀ H', Same H H' → E (.ref (excA AD e)) none H')
def sp_SymbolWriter_signed (K : PySem.W.Frag) (AD : Ads) : Sp := fun vs H Q E => ∃ (G : Hp) (p_self p_self_enc l_self_enc_probs l_self_enc_front dx_self dx_self_enc : Addr) (self' : St_SymbolWriter) (base' : Int) (value' : Int), vs = [.ref p_self, .int base', .int value'] ∧ Same G H ∧ (∀ a ∈ [p_self, p_self_enc, l_self_enc_probs, l_self_enc_front], G a = none) ∧ H p_self = some (.ins AD.c_SymbolWriter dx_self [("_encoder", V.ref p_self_enc)]) ∧ H p_self_enc = some (.ins AD.c_Encoder dx_self_enc [("_probabilities", V.ref l_self_enc_probs), ("_front", V.ref l_self_enc_front), ("_low", V.int self'.enc.low), ("_span", V.int self'.enc.span)]) ∧ H l_self_enc_probs = some (.lst ((self'.enc.probs : (List Int)).map V.int)) ∧ H l_self_enc_front = some (.lst ((self'.enc.front : (List Int)).map V.int)) ∧ l_self_enc_probs ≠ l_self_enc_front ∧ p_self ≠ p_self_enc ∧ cW (F_SymbolWriter_signed self' base' value') (fun v => ∀ (H' : Hp), SameXs [p_self, p_self_enc, l_self_enc_probs, l_self_enc_front] H H' → H' p_self = some (.ins AD.c_SymbolWriter dx_self [("_encoder", V.ref p_self_enc)]) → H' p_self_enc = some (.ins AD.c_Encoder dx_self_enc [("_probabilities", V.ref l_self_enc_probs), ("_front", V.ref l_self_enc_front), ("_low", V.int v.enc.low), ("_span", V.int v.enc.span)]) → H' l_self_enc_probs = some (.lst ((v.enc.probs : (List Int)).map V.int)) → H' l_self_enc_front = some (.lst ((v.enc.front : (List Int)).map V.int)) → Q .non H') (fun e => ∀ H', Same H H' → E (.ref (excA AD e)) none H')
def sp_SymbolWriter_even (K : PySem.W.Frag) (AD : Ads) : Sp := fun vs H Q E => ∃ (G : Hp) (p_self p_self_enc l_self_enc_probs l_self_enc_front dx_self dx_self_enc : Addr) (self' : St_SymbolWriter) (decision' : Int), vs = [.ref p_self, .int decision'] ∧ Same G H ∧ (∀ a ∈ [p_self, p_self_enc, l_self_enc_probs, l_self_enc_front], G a = none) ∧ H p_self = some (.ins AD.c_SymbolWriter dx_self [("_encoder", V.ref p_self_enc)]) ∧ H p_self_enc = some (.ins AD.c_Encoder dx_self_enc [("_probabilities", V.ref l_self_enc_probs), ("_front", V.ref l_self_enc_front), ("_low", V.int self'.enc.low), ("_span", V.int self'.enc.span)]) ∧ H l_self_enc_probs = some (.lst ((self'.enc.probs : (List Int)).map V.int)) ∧ H l_self_enc_front = some (.lst ((self'.enc.front : (List Int)).map V.int)) ∧ l_self_enc_probs ≠ l_self_enc_front ∧ p_self ≠ p_self_enc ∧ cW (F_SymbolWriter_even self' decision') (fun v => ∀ (H' : Hp), SameXs [p_self, p_self_enc, l_self_enc_probs, l_self_enc_front] H H' → H' p_self = some (.ins AD.c_SymbolWriter dx_self [("_encoder", V.ref p_self_enc)]) → H' p_self_enc = some (.ins AD.c_Encoder dx_self_enc [("_probabilities", V.ref l_self_enc_probs), ("_front", V.ref l_self_enc_front), ("_low", V.int v.enc.low), ("_span", V.int v.enc.span)]) → H' l_self_enc_probs = some (.lst ((v.enc.probs : (List Int)).map V.int)) → H' l_self_enc_front = some (.lst ((v.enc.front : (List Int)).map V.int)) → Q .non H') (fun e => ∀ H', Same H H' → E (.ref (excA AD e)) none H')
def sp__law_put (K : PySem.W.Frag) (AD : Ads) : Sp := fun vs H Q E => ∃ (G : Hp) (p_writer p_writer_enc l_writer_enc_probs l_writer_enc_front dx_writer dx_writer_enc : Addr) (writer' : St_SymbolWriter) (v_symbol : V) (symbol' : (Int × Int × Int × Int)), vs = [.ref p_writer, v_symbol] ∧ Same G H ∧ (∀ a ∈ [p_writer, p_writer_enc, l_writer_enc_probs, l_writer_enc_front], G a = none) ∧ H p_writer = some (.ins AD.c_SymbolWriter dx_writer [("_encoder", V.ref p_writer_enc)]) ∧ H p_writer_enc = some (.ins AD.c_Encoder dx_writer_enc [("_probabilities", V.ref l_writer_enc_probs), ("_front", V.ref l_writer_enc_front), ("_low", V.int writer'.enc.low), ("_span", V.int writer'.enc.span)]) ∧ H l_writer_enc_probs = some (.lst ((writer'.enc.probs : (List Int)).map V.int)) ∧ H l_writer_enc_front = some (.lst ((writer'.enc.front : (List Int)).map V.int)) ∧ l_writer_enc_probs ≠ l_writer_enc_front ∧ p_writer ≠ p_writer_enc ∧ Rp (hideL [p_writer, p_writer_enc, l_writer_enc_probs, l_writer_enc_front] H) v_symbol ((encT4 PyData.int PyData.int PyData.int PyData.int) symbol') ∧ cW (F__law_put writer' symbol') (fun v => ∀ (H' : Hp), SameXs [p_writer, p_writer_enc, l_writer_enc_probs, l_writer_enc_front] H H' → H' p_writer = some (.ins AD.c_SymbolWriter dx_writer [("_encoder", V.ref p_writer_enc)]) → H' p_writer_enc = some (.ins AD.c_Encoder dx_writer_enc [("_probabilities", V.ref l_writer_enc_probs), ("_front", V.ref l_writer_enc_front), ("_low", V.int v.enc.low), ("_span", V.int v.enc.span)]) → H' l_writer_enc_probs = some (.lst ((v.enc.probs : (List Int)).map V.int)) → H' l_writer_enc_front = some (.lst ((v.enc.front : (List Int)).map V.int)) → Q .non H') (fun e => ∀ H', Same H H' → E (.ref (excA AD e)) none H')
def sp__law_unary_items (K : PySem.W.Frag) (AD : Ads) : Sp := fun vs H Q E => ∃ (G : Hp) (base' : Int) (value' : Int) (most' : Int), vs = [.int base', .int value', .int most'] ∧ Same G H ∧ cW (F__law_unary_items base' value' most') (fun v => ∀ p vs H' G', H p = none → Same H H' → Same G G' → Same G' H' → (∀ b, H b ≠ none → G b = none → G' b = none) → G' p = none → H' p = some (.lst vs) → RpAll G' vs (v.map (encT2 PyData.int PyData.int)) → Q (.ref p) H') (fun e => ∀ H', Same H H' → E (.ref (excA AD e)) none H')
def sp__law_number_items (K : PySem.W.Frag) (AD : Ads) : Sp := fun vs H Q E => ∃ (G : Hp) (base' : Int) (value' : Int), vs = [.int base', .int value'] ∧ Same G H ∧ cW (F__law_number_items base' value') (fun v => ∀ p vs H' G', H p = none → Same H H' → Same G G' → Same G' H' → (∀ b, H b ≠ none → G b = none → G' b = none) → G' p = none → H' p = some (.lst vs) → RpAll G' vs (v.map (encT2 PyData.int PyData.int)) → Q (.ref p) H') (fun e => ∀ H', Same H H' → E (.ref (excA AD e)) none H')
def sp__law_symbol_items (K : PySem.W.Frag) (AD : Ads) : Sp := fun vs H Q E => ∃ (G : Hp) (v_symbol : V) (symbol' : (Int × Int × Int × Int)), vs = [v_symbol] ∧ Same G H ∧ Rp (hideL [] H) v_symbol ((encT4 PyData.int PyData.int PyData.int PyData.int) symbol') ∧ cW (F__law_symbol_items symbol') (fun v => ∀ p vs H' G', H p = none → Same H H' → Same G G' → Same G' H' → (∀ b, H b ≠ none → G b = none → G' b = none) → G' p = none → H' p = some (.lst vs) → RpAll G' vs (v.map (encT2 PyData.int PyData.int)) → Q (.ref p) H') (fun e => ∀ H', Same H H' → E (.ref (excA AD e)) none H')
def sp_Encoder_octets (K : PySem.W.Frag) (AD : Ads) : Sp := fun vs H Q E => ∃ (G : Hp) (p_self l_self_probs l_self_front dx_self : Addr) (self' : St_Encoder), vs = [.ref p_self] ∧ Same G H ∧ (hideL [] H) p_self = some (.ins AD.c_Encoder dx_self [("_probabilities", V.ref l_self_probs), ("_front", V.ref l_self_front), ("_low", V.int self'.low), ("_span", V.int self'.span)]) ∧ (hideL [] H) l_self_probs = some (.lst ((self'.probs : (List Int)).map V.int)) ∧ (hideL [] H) l_self_front = some (.lst ((self'.front : (List Int)).map V.int)) ∧ cW (F_Encoder_octets self') (fun v => ∀ p H', H p = none → Same H H' → H' p = some (.lst (v.map V.int)) → Q (.ref p) H') (fun e => ∀ H', Same H H' → E (.ref (excA AD e)) none H')
def sp_Encoder_probability (K : PySem.W.Frag) (AD : Ads) : Sp := fun vs H Q E => ∃ (G : Hp) (p_self l_self_probs l_self_front dx_self : Addr) (self' : St_Encoder) (context' : Int), vs = [.ref p_self, .int context'] ∧ Same G H ∧ (hideL [] H) p_self = some (.ins AD.c_Encoder dx_self [("_probabilities", V.ref l_self_probs), ("_front", V.ref l_self_front), ("_low", V.int self'.low), ("_span", V.int self'.span)]) ∧ (hideL [] H) l_self_probs = some (.lst ((self'.probs : (List Int)).map V.int)) ∧ (hideL [] H) l_self_front = some (.lst ((self'.front : (List Int)).map V.int)) ∧ cW (F_Encoder_probability self' context') (fun v => ∀ H', Same H H' → Q (.int v) H') (fun e => ∀ H', Same H H' → E (.ref (excA AD e)) none H')
def sp_law (K : PySem.W.Frag) (AD : Ads) : Sp := fun vs H Q E => ∃ (a_script : Addr) (script : List Int), vs = [.ref a_script] ∧ SqL K H a_script (script.map V.int) ∧ cW (F_law script) (fun v => v = true) (fun _ => False) ∧ ∀ H', Q (.bl true) H'
section
variable {P : Program} {w : World} {K : PySem.W.Frag} {mg : Str → Option Value} {base : Heap} {AD : Ads}
abbrev N_Encoder___init__ : List Str := ["self"]
theorem sc_Encoder___init__ : FnScope N_Encoder___init__ ["self"] (defScope s_Encoder___init__) := ⟨rfl, rfl, rfl, by decide +kernel, rfl, by decide +kernel, by decide +kernel⟩
theorem ok_Encoder___init__ (D : InitX K mg AD.c_Encoder "Encoder" "Encoder.__init__" s_Encoder___init__ ["self"] pats_Encoder___init__) (T : Txt K mg AD)  : MakX P w K mg base 1 "Encoder" AD.c_Encoder (sp_Encoder___init__ K AD) pats_Encoder___init__ := by
  refine D.ok sc_Encoder___init__ (fun vs H Q E h => ?_) (fun f cdv A_ outer s H vs Q E hr h => ?_)
  · obtain ⟨G, p_self, dx_self, rfl, _⟩ := h
    rfl
  · obtain ⟨G, p_self, dx_self, rfl, sG, gM, h_self, hw⟩ := h
    refine ⟨_, (pss_cons (ps_fld (pv 0) (pe_op op_rep (pe_lst (pa_cons (C8.pe_gc rfl T.g_EVEN) pa_nil)) (C8.pe_gc rfl T.g_CONTEXTS_coder)) rfl)
      (pss_cons (ps_fld (pv 0) (pe_lst pa_nil) rfl)
      (pss_cons (ps_fld (pv 0) pe_int rfl)
      (pss_one (ps_fld (pv 0) (pe_op op_sub (C8.pe_gc rfl T.g_WORD) pe_int) rfl))))), ?_⟩
    obtain ⟨KK, EE, hK0, hE, hw⟩ := cW_gen hw
    have S0 := Sep.startM (M := [p_self]) sG (all_cons (some_ne h_self) all_nil) gM
    unfold F_Encoder___init__ at hw
    refine ⟨(by show 1 ≤ sizeLine; decide), fun p1 n2 => ?_⟩
    generalize g3 : upd H p1 _ = H4
    obtain ⟨e5, h6⟩ := gen_new n2 g3
    have h7 : H4 p1 = some (.lst (([2048] : (List Int)).map V.int)) := h6
    have fr8 := S0.free n2
    have S9 := S0.new n2 e5 h7 fr8
    obtain ⟨g10, hw⟩ := cW_grd hw
    refine ⟨_, _, _, rfl, rfl, h7, g10.1, g10.2.1, (rep_lenM g10.2.2), fun p11 n12 => ?_⟩
    generalize g13 : upd H4 p11 _ = H14
    obtain ⟨e15, h16⟩ := gen_new n12 g13
    have h17 : H14 p11 = some (.lst ((repL ([2048]) (256) : (List Int)).map V.int)) := rep_map h16
    have fr18 := S9.free n12
    have S19 := S9.new n12 e15 h17 fr18
    have h20 := (e15 _ _ (e5 _ _ h_self))
    refine ⟨_, rfl, _, _, _, _, rfl, h20, T.cl_Encoder, T.n_Encoder__probabilities, (by show 0 < 1000; decide), ?_⟩
    generalize g21 : upd H14 p_self _ = H22
    obtain ⟨x23, h24⟩ := gen_mut g21
    have h25 : H22 p_self = some (.ins AD.c_Encoder dx_self [("_probabilities", V.ref p11)]) := h24
    have S26 := S19.mut1 x23 (.tail _ (.tail _ (.head _))) h25
    refine ⟨(by show 0 ≤ sizeLine; decide), fun p27 n28 => ?_⟩
    generalize g29 : upd H22 p27 _ = H30
    obtain ⟨e31, h32⟩ := gen_new n28 g29
    have h33 : H30 p27 = some (.lst ((([] : (List Int)) : (List Int)).map V.int)) := h32
    have fr34 := S26.free n28
    have S35 := S26.new n28 e31 h33 fr34
    have h36 := (e31 _ _ h25)
    refine ⟨_, rfl, _, _, _, _, rfl, h36, T.cl_Encoder, T.n_Encoder__front, (by show 1 < 1000; decide), ?_⟩
    generalize g37 : upd H30 p_self _ = H38
    obtain ⟨x39, h40⟩ := gen_mut g37
    have h41 : H38 p_self = some (.ins AD.c_Encoder dx_self [("_probabilities", V.ref p11), ("_front", V.ref p27)]) := h40
    have S42 := S35.mut1 x39 (.tail _ (.tail _ (.tail _ (.head _)))) h41
    refine ⟨_, rfl, _, _, _, _, rfl, h41, T.cl_Encoder, T.n_Encoder__low, (by show 2 < 1000; decide), ?_⟩
    generalize g43 : upd H38 p_self _ = H44
    obtain ⟨x45, h46⟩ := gen_mut g43
    have h47 : H44 p_self = some (.ins AD.c_Encoder dx_self [("_probabilities", V.ref p11), ("_front", V.ref p27), ("_low", V.int (0))]) := h46
    have S48 := S42.mut1 x45 (.tail _ (.tail _ (.tail _ (.head _)))) h47
    have hw := cW_bnd hw
    refine ⟨_, _, rfl, rfl, _, rfl, _, _, _, _, rfl, h47, T.cl_Encoder, T.n_Encoder__span, (by show 3 < 1000; decide), ?_⟩
    generalize g50 : upd H44 p_self _ = H51
    obtain ⟨x52, h53⟩ := gen_mut g50
    have h54 : H51 p_self = some (.ins AD.c_Encoder dx_self [("_probabilities", V.ref p11), ("_front", V.ref p27), ("_low", V.int (0)), ("_span", V.int ((4294967296 - 1)))]) := h53
    have S55 := S48.mut1 x52 (.tail _ (.tail _ (.tail _ (.head _)))) h54
    have h56 := (x52 _ _ (x45 _ _ (x39 _ _ (e31 _ _ (x23 _ _ h17 (ne_of_none (e5 _ _ h_self) n12).symm)) (ne_of_none (e5 _ _ h_self) n12).symm) (ne_of_none (e5 _ _ h_self) n12).symm) (ne_of_none (e5 _ _ h_self) n12).symm)
    have h57 := (x52 _ _ (x45 _ _ (x39 _ _ h33 (ne_of_none h25 n28).symm) (ne_of_none h25 n28).symm) (ne_of_none h25 n28).symm)
    have hw := cW_ok hw
    exact hK0 _ hw _ _ _ (sameX_of S55.base) fr18 fr34 (ne_of_none (x23 _ _ h17 (ne_of_none (e5 _ _ h_self) n12).symm) n28) h54 h56 h57

abbrev N_SymbolWriter___init__ : List Str := ["self", "encoder"]
theorem sc_SymbolWriter___init__ : FnScope N_SymbolWriter___init__ ["self", "encoder"] (defScope s_SymbolWriter___init__) := ⟨rfl, rfl, rfl, by decide +kernel, rfl, by decide +kernel, by decide +kernel⟩
theorem ok_SymbolWriter___init__ (D : InitX K mg AD.c_SymbolWriter "SymbolWriter" "SymbolWriter.__init__" s_SymbolWriter___init__ ["self", "encoder"] pats_SymbolWriter___init__) (T : Txt K mg AD)  : MakX P w K mg base 1 "SymbolWriter" AD.c_SymbolWriter (sp_SymbolWriter___init__ K AD) pats_SymbolWriter___init__ := by
  refine D.ok sc_SymbolWriter___init__ (fun vs H Q E h => ?_) (fun f cdv A_ outer s H vs Q E hr h => ?_)
  · obtain ⟨G, p_self, dx_self, p_encoder, l_encoder_probs, l_encoder_front, dx_encoder, encoder', rfl, _⟩ := h
    rfl
  · obtain ⟨G, p_self, dx_self, p_encoder, l_encoder_probs, l_encoder_front, dx_encoder, encoder', rfl, sG, gM, h_self, h_p_encoder, h_l_encoder_probs, h_l_encoder_front, hw⟩ := h
    refine ⟨_, (pss_one (ps_fld (pv 0) (pv 1) rfl)), ?_⟩
    obtain ⟨KK, EE, hK0, hE, hw⟩ := cW_gen hw
    have S0 := Sep.startM (M := [p_self]) sG (all_cons (some_ne h_self) all_nil) gM
    unfold F_SymbolWriter___init__ at hw
    refine ⟨_, rfl, _, rfl, _, _, _, _, rfl, h_self, T.cl_SymbolWriter, T.n_SymbolWriter__encoder, (by show 0 < 1000; decide), ?_⟩
    generalize g58 : upd H p_self _ = H59
    obtain ⟨x60, h61⟩ := gen_mut g58
    have h62 : H59 p_self = some (.ins AD.c_SymbolWriter dx_self [("_encoder", V.ref p_encoder)]) := h61
    have S63 := S0.mut1 x60 (.head _) h62
    have hw := cW_ok hw
    exact hK0 _ hw _ (sameX_of S63.base) h62

abbrev N__law_moved : List Str := ["p", "decision"]
theorem sc__law_moved : FnScope N__law_moved ["p", "decision"] (defScope s__law_moved) := ⟨rfl, rfl, rfl, by decide +kernel, rfl, by decide +kernel, by decide +kernel⟩
theorem ok__law_moved (D : DefX K mg "_law_moved" s__law_moved ["p", "decision"] pats__law_moved) (T : Txt K mg AD)  : CalX P w K mg base 1 "_law_moved" (sp__law_moved K AD) pats__law_moved := by
  refine D.ok sc__law_moved (fun vs H Q E h => ?_) (fun f cdv A_ outer s H vs Q E hr h => ?_)
  · obtain ⟨G, p', decision', rfl, _⟩ := h
    rfl
  · obtain ⟨G, p', decision', rfl, sG, hw⟩ := h
    refine ⟨_, (pss_cons (ps_if (pt_cmp (pc_eqI (pv 1) pe_int)) (pss_one (ps_ret (pe_op op_add (pv 0) (pe_op op_shr (pe_op op_sub pe_int (pv 0)) pe_int)))) pss_nil)
      (pss_one (ps_ret (pe_op op_sub (pv 0) (pe_op op_shr (pv 0) pe_int))))), ?_⟩
    obtain ⟨KK, EE, hK0, hE, hw⟩ := cW_gen hw
    have S0 := Sep.startG sG
    unfold F__law_moved at hw
    refine ⟨_, rfl, _, _, rfl, rfl, _, rfl, ?_⟩
    refine iteD (fun c64 => ?_) (fun c64 => ?_)
    · have hw := cW_pos c64 hw
      refine ⟨_, rfl, _, rfl, _, _, rfl, rfl, _, _, rfl, rfl, (show (0 : Int) ≤ 5 by decide), _, _, rfl, rfl, ?_⟩
      have hw := cW_ok hw
      exact hK0 _ hw
    · have hw := cW_neg c64 hw
      refine ⟨_, rfl, _, rfl, _, _, rfl, rfl, (show (0 : Int) ≤ 5 by decide), _, _, rfl, rfl, ?_⟩
      have hw := cW_ok hw
      exact hK0 _ hw

abbrev N__law_code : List Str := ["items", "low", "span", "count", "chances", "item", "part", "k", "octets"]
theorem sc__law_code : FnScope N__law_code ["items"] (defScope s__law_code) := ⟨rfl, rfl, rfl, by decide +kernel, rfl, by decide +kernel, by decide +kernel⟩
theorem ok__law_code (D : DefX K mg "_law_code" s__law_code ["items"] pats__law_code) (T : Txt K mg AD) (c__law_moved : CalX P w K mg base 1 "_law_moved" (sp__law_moved K AD) pats__law_moved) : CalX P w K mg base 2 "_law_code" (sp__law_code K AD) pats__law_code := by
  refine D.ok sc__law_code (fun vs H Q E h => ?_) (fun f cdv A_ outer s H vs Q E hr h => ?_)
  · obtain ⟨G, v_items, items', rfl, _⟩ := h
    rfl
  · obtain ⟨G, v_items, items', rfl, sG, r_items, hw⟩ := h
    refine ⟨_, (pss_cons (ps_set (i := 1) sc__law_code.nd rfl (Or.inr rfl) pe_int)
      (pss_cons (ps_set (i := 2) sc__law_code.nd rfl (Or.inl rfl) (pe_op op_sub (pe_op op_pow pe_int pe_int) pe_int))
      (pss_cons (ps_set (i := 3) sc__law_code.nd rfl (Or.inr rfl) pe_int)
      (pss_cons (ps_set (i := 4) sc__law_code.nd rfl (Or.inl rfl) (pe_op op_rep (pe_lst (pa_cons pe_int pa_nil)) pe_int))
      (pss_cons (ps_for (passes_of rfl) rfl (pi_listK (K := K) (pv 0)) (pg_name (i := 5) sc__law_code.nd rfl (Or.inl rfl)) (pss_cons (ps_set (i := 6) sc__law_code.nd rfl (Or.inl rfl) (pe_op op_mul (pe_op op_shr (pv 2) pe_int) (pe_ix (ix_listK (K := K)) (pv 4) (pe_ix (ix_tupK (K := K)) (pv 5) pe_int (fun _ _ => rfl)) (fun _ _ => rfl))))
      (C8.pss_cut (ps_if (pt_cmp (pc_ge (pe_ix (ix_tupK (K := K)) (pv 5) pe_int (fun _ _ => rfl)) pe_int)) (pss_one (ps_asg (vx_callX c__law_moved pat__law_moved_0 (.head _) hr (by decide) (takes_of rfl rfl rfl rfl) rfl (pa_cons (pe_ix (ix_listK (K := K)) (pv 4) (pe_ix (ix_tupK (K := K)) (pv 5) pe_int (fun _ _ => rfl)) (fun _ _ => rfl)) (pa_cons (pe_ix (ix_tupK (K := K)) (pv 5) pe_int (fun _ _ => rfl)) pa_nil)) pk_nil) (pg_sub (pv 4) (pe_ix (ix_tupK (K := K)) (pv 5) pe_int (fun _ _ => rfl)) set_list))) pss_nil)
      (C8.pss_cut (ps_if (pt_cmp (pc_eqI (pe_ix (ix_tupK (K := K)) (pv 5) pe_int (fun _ _ => rfl)) pe_int)) (pss_one (ps_set (i := 2) sc__law_code.nd rfl (Or.inl rfl) (pv 6))) (pss_cons (ps_set (i := 1) sc__law_code.nd rfl (Or.inr rfl) (pe_op op_add (pv 1) (pv 6)))
      (pss_one (ps_set (i := 2) sc__law_code.nd rfl (Or.inl rfl) (pe_op op_sub (pv 2) (pv 6))))))
      (pss_one (ps_for (passes_of rfl) rfl (pi_range1 rfl T.b_range (pa_cons pe_int pa_nil)) (pg_name (i := 7) sc__law_code.nd rfl (Or.inl rfl)) (pss_one (ps_if (pt_cmp (pc_lt (pv 2) (pe_op op_pow pe_int pe_int))) (pss_cons (ps_set (i := 1) sc__law_code.nd rfl (Or.inr rfl) (pe_op op_mul (pv 1) pe_int))
      (pss_cons (ps_set (i := 2) sc__law_code.nd rfl (Or.inl rfl) (pe_op op_mul (pv 2) pe_int))
      (pss_one (ps_set (i := 3) sc__law_code.nd rfl (Or.inr rfl) (pe_op op_add (pv 3) pe_int))))) pss_nil))))))))
      (pss_cons (ps_setLc (i := 8) (y := "octets") rfl sc__law_code.nd rfl rfl (sw_true rfl rfl rfl (by decide +kernel)) (own := [("k", 7)]) (g := gName 7) (pi_range1 rfl T.b_range (pa_cons (pe_op op_add (pv 3) pe_int) pa_nil)) (blkOk_by (own := [("k", 7)]) (N := N__law_code) (sc := defScope s__law_code) (by decide +kernel)) (fun _ _ _ _ _ => (pg_name (i := 7) sc__law_code.nd rfl (Or.inl rfl))) (fun _ _ _ _ _ => pts_nil) (fun _ _ _ _ _ => (pe_op op_and (pe_op op_shr (pv 1) (pe_op op_mul pe_int (pe_op op_sub (pe_op op_add (pv 3) pe_int) (pv 7)))) pe_int)))
      (pss_cons (ps_for (passes_of rfl) rfl (pi_range1 rfl T.b_range (pa_cons (pe_op op_add (pv 3) pe_int) pa_nil)) (pg_name (i := 7) sc__law_code.nd rfl (Or.inl rfl)) (pss_one (ps_if (PW.pt (pw_and (pt_cmp (pc_gt (pe_callB (call_lenLiK (K := K)) (by rfl) T.b_len (by decide +kernel) (pa_cons (pv 8) pa_nil)) pe_int)) (pw_and1 (pt_cmp (pc_eqI (pe_ix (ix_listK (K := K)) (pv 8) (pe_un un_neg pe_int) (fun _ _ => rfl)) pe_int))))) (pss_one (ps_expr (pe_bm0 PySem.F.plainAttrs_list PySem.F.slot_list_pop PySem.F.type_list_pop mt_pop (pv 8)))) pss_nil)))
      (pss_one (ps_ret (pe_tup (pa_cons (pv 8) (pa_cons (pe_slice (sl_listK (K := K)) (pv 4) po_none (po_some pe_int)) pa_nil)))))))))))), ?_⟩
    obtain ⟨KK, EE, hK0, hE, hw⟩ := cW_gen hw
    have S0 := Sep.startG sG
    unfold F__law_code at hw
    obtain ⟨a65, vs66, rfl, h67, d68⟩ := rp_list r_items
    refine ⟨_, _, rfl, rfl, ⟨by decide, by decide, by decide⟩, _, _, rfl, rfl, ?_⟩
    have hw := cW_bnd hw
    refine ⟨(by show 1 ≤ sizeLine; decide), fun p70 n71 => ?_⟩
    generalize g72 : upd H p70 _ = H73
    obtain ⟨e74, h75⟩ := gen_new n71 g72
    have h76 : H73 p70 = some (.lst (([2048] : (List Int)).map V.int)) := h75
    have fr77 := S0.free n71
    have S78 := S0.new n71 e74 h76 fr77
    obtain ⟨g79, hw⟩ := cW_grd hw
    refine ⟨_, _, _, rfl, rfl, h76, g79.1, g79.2.1, (rep_lenM g79.2.2), fun p80 n81 => ?_⟩
    generalize g82 : upd H73 p80 _ = H83
    obtain ⟨e84, h85⟩ := gen_new n81 g82
    have h86 : H83 p80 = some (.lst ((repL ([2048]) (257) : (List Int)).map V.int)) := rep_map h85
    have fr87 := S78.free n81
    have S88 := S78.new n81 e84 h86 fr87
    obtain ⟨K89, hK90, hw⟩ := cW_push hw
    refine ⟨_, rfl, _, rfl, ⟨_, (SqL.of (S88.bM _ _ h67))⟩, for_list (K := K) (a := a65) (xs := vs66) (fun i σ H' => ∃ (low_91 : Int) (span_92 : Int) (count_93 : Int) (chances_94 : (List Int)) (u95 : Option V) (u96 : Option V) (u97 : Option V) (G' : Hp), σ = [some (V.ref a65), some (V.int low_91), some (V.int span_92), some (V.int count_93), some (V.ref p80), u95, u96, u97, none] ∧ Same G G' ∧ Sep [] H G G' H' [p80] ∧ H' p80 = some (.lst ((chances_94 : (List Int)).map V.int)) ∧ cW (forS (List.drop i (items')) (low_91, span_92, count_93, chances_94) (fun s x => F__law_code_b1  (s.1) (s.2.1) (s.2.2.1) (s.2.2.2) x)) K89 EE) ?_ ?_ ?_ ?_⟩
    · exact ⟨(0), ((4294967296 - 1)), (0), (repL ([2048]) (257)), _, _, _, _, rfl, (Same.refl _), (S88.sub (all_cons (.head _) all_nil)), h86, hw⟩
    · intro i σ H98 _ hw
      obtain ⟨low_91, span_92, count_93, chances_94, u95, u96, u97, G101, rfl, eG102, S99, h100, hw⟩ := hw
      exact (SqL.of (S99.bM _ _ h67))
    · intro i x σ H103 hj hw
      obtain ⟨low_91, span_92, count_93, chances_94, u95, u96, u97, G106, rfl, eG107, S104, h105, hw⟩ := hw
      obtain ⟨x108, hx, r109⟩ := RpAll.get d68 hj
      obtain ⟨a110, v112, v113, rfl, h111, r114, r115⟩ := rp_tup2 r109
      obtain rfl := rp_int r114
      obtain rfl := rp_int r115
      have hw := cW_forS hx hw
      have hw : cW (F__law_code_b1  (low_91) (span_92) (count_93) (chances_94) (x108)) _ EE := hw
      unfold F__law_code_b1 at hw
      obtain ⟨K120, hK121, hw⟩ := cW_name hw
      obtain ⟨g123, hw⟩ := cW_grd hw
      obtain ⟨g124, hw⟩ := cW_grd hw
      refine ⟨_, rfl, _, _, rfl, rfl, (show (0 : Int) ≤ 12 by decide), _, rfl, _, rfl, _, _, _, _, rfl, rfl, (SqT.of (S104.bM _ _ h111)), rfl, _, _, _, _, rfl, rfl, (SqL.of h105), (atI_map g123), _, _, rfl, rfl, g124, ?_⟩
      have hw := cW_bnd hw
      refine ⟨fun σ H' => ∃ (chances_132 : (List Int)) (G' : Hp), σ = [some (V.ref a65), some (V.int (low_91)), some (V.int (span_92)), some (V.int (count_93)), some (V.ref p80), some (V.ref a110), some (V.int (((span_92 / 4096) * (itD (chances_94) (x108.1))))), u97, none] ∧ Same G106 G' ∧ Sep [] H G G' H' [p80] ∧ H' p80 = some (.lst ((chances_132 : (List Int)).map V.int)) ∧ cW (F__law_code_k2 (low_91) (span_92) (count_93) (x108) (((span_92 / 4096) * (itD (chances_94) (x108.1)))) chances_132) K120 EE, ?_, ?_⟩
      · obtain ⟨K133, hK134, hw⟩ := cW_push hw
        refine ⟨_, rfl, _, _, _, _, rfl, rfl, (SqT.of (S104.bM _ _ h111)), rfl, _, _, rfl, rfl, _, rfl, ?_⟩
        refine iteD (fun c135 => ?_) (fun c135 => ?_)
        · have hw := cW_pos c135 hw
          obtain ⟨g136, hw⟩ := cW_grd hw
          refine ⟨_, rfl, _, rfl, _, _, _, _, rfl, rfl, (SqT.of (S104.bM _ _ h111)), rfl, _, _, _, _, rfl, rfl, (SqL.of h105), (atI_map g136), _, rfl, _, _, _, _, rfl, rfl, (SqT.of (S104.bM _ _ h111)), rfl, rfl, rfl, G106, _, _, rfl, S104.sG, cW_call hw (fun v137 hw => ?_) (fun e he => hE e he _ S104.b0)⟩
          obtain ⟨g138, hw⟩ := cW_grd hw
          refine ⟨_, rfl, _, rfl, _, _, _, _, rfl, rfl, (SqT.of (S104.bM _ _ h111)), rfl, _, _, _, _, rfl, rfl, h105, (ixN_map g138), ?_⟩
          generalize g139 : upd H103 p80 _ = H140
          obtain ⟨x141, h142⟩ := gen_mut g139
          have h143 : H140 p80 = some (.lst ((setL (chances_94) (x108.1) (v137) : (List Int)).map V.int)) := set_map h142
          have S144 := S104.mut1 x141 (.head _) h143
          have hw := cW_bnd hw
          have hw := cW_ok hw
          have hw := hK134 _ hw
          exact ⟨(setL (chances_94) (x108.1) (v137)), _, rfl, (Same.refl _), S144, h143, hw⟩
        · have hw := cW_neg c135 hw
          have hw := cW_ok hw
          have hw := hK134 _ hw
          exact ⟨(chances_94), _, rfl, (Same.refl _), S104, h105, hw⟩
      · intro σ H146 hw
        obtain ⟨chances_132, G149, rfl, eG150, S147, h148, hw⟩ := hw
        unfold F__law_code_k2 at hw
        refine ⟨fun σ H' => ∃ (low_155 : Int) (span_156 : Int) (G' : Hp), σ = [some (V.ref a65), some (V.int low_155), some (V.int span_156), some (V.int (count_93)), some (V.ref p80), some (V.ref a110), some (V.int (((span_92 / 4096) * (itD (chances_94) (x108.1))))), u97, none] ∧ Same G149 G' ∧ Sep [] H G G' H' [p80] ∧ H' p80 = some (.lst ((chances_132 : (List Int)).map V.int)) ∧ cW (F__law_code_k3 (count_93) (chances_132) low_155 span_156) K120 EE, ?_, ?_⟩
        · obtain ⟨K157, hK158, hw⟩ := cW_push hw
          refine ⟨_, rfl, _, _, _, _, rfl, rfl, (SqT.of (S147.bM _ _ h111)), rfl, _, _, rfl, rfl, _, rfl, ?_⟩
          refine iteD (fun c159 => ?_) (fun c159 => ?_)
          · have hw := cW_pos c159 hw
            refine ⟨_, rfl, ?_⟩
            have hw := cW_ok hw
            have hw := hK158 _ hw
            exact ⟨(low_91), (((span_92 / 4096) * (itD (chances_94) (x108.1)))), _, rfl, (Same.refl _), S147, h148, hw⟩
          · have hw := cW_neg c159 hw
            refine ⟨_, rfl, _, rfl, _, _, rfl, rfl, ?_⟩
            have hw := cW_bnd hw
            refine ⟨_, rfl, _, rfl, _, _, rfl, rfl, ?_⟩
            have hw := cW_bnd hw
            have hw := cW_ok hw
            have hw := hK158 _ hw
            exact ⟨((low_91 + ((span_92 / 4096) * (itD (chances_94) (x108.1))))), ((span_92 - ((span_92 / 4096) * (itD (chances_94) (x108.1))))), _, rfl, (Same.refl _), S147, h148, hw⟩
        · intro σ H162 hw
          obtain ⟨low_155, span_156, G165, rfl, eG166, S163, h164, hw⟩ := hw
          unfold F__law_code_k3 at hw
          obtain ⟨K168, hK169, hw⟩ := cW_push hw
          refine ⟨_, rfl, (by decide), (by decide), for_range (lo := 0) (n := Int.toNat (4)) (fun i σ H' => ∃ (low_170 : Int) (span_171 : Int) (count_172 : Int) (u173 : Option V) (G' : Hp), σ = [some (V.ref a65), some (V.int low_170), some (V.int span_171), some (V.int count_172), some (V.ref p80), some (V.ref a110), some (V.int (((span_92 / 4096) * (itD (chances_94) (x108.1))))), u173, none] ∧ Same G165 G' ∧ Sep [] H G G' H' [p80] ∧ H' p80 = some (.lst ((chances_132 : (List Int)).map V.int)) ∧ cW (forS (List.drop i (rng (0) (Int.toNat (4)))) (low_170, span_171, count_172) (fun s x => F__law_code_b4  (s.1) (s.2.1) (s.2.2) x)) K168 EE) ?_ ?_ ?_⟩
          · exact ⟨(low_155), (span_156), (count_93), _, _, rfl, (Same.refl _), S163, h164, hw⟩
          · intro i σ H174 hi hw
            obtain ⟨low_170, span_171, count_172, u173, G177, rfl, eG178, S175, h176, hw⟩ := hw
            have hw := cW_forS (rng_get hi) hw
            generalize (0 + (i : Int)) = x179 at hw ⊢
            have hw : cW (F__law_code_b4  (low_170) (span_171) (count_172) (x179)) _ EE := hw
            unfold F__law_code_b4 at hw
            obtain ⟨K183, hK184, hw⟩ := cW_name hw
            refine ⟨_, rfl, _, _, rfl, rfl, ⟨by decide, by decide, by decide⟩, _, _, rfl, rfl, _, rfl, ?_⟩
            refine iteD (fun c186 => ?_) (fun c186 => ?_)
            · have hw := cW_pos c186 hw
              refine ⟨_, rfl, _, _, rfl, rfl, (.inr ⟨by decide, by decide⟩), ?_⟩
              have hw := cW_bnd hw
              refine ⟨_, rfl, _, _, rfl, rfl, (.inr ⟨by decide, by decide⟩), ?_⟩
              have hw := cW_bnd hw
              refine ⟨_, rfl, _, _, rfl, rfl, ?_⟩
              have hw := cW_bnd hw
              have hw := cW_ok hw
              have hw := hK184 _ hw
              exact ⟨((low_170 * 256)), ((span_171 * 256)), ((count_172 + 1)), _, _, rfl, eG178, S175, h176, hw⟩
            · have hw := cW_neg c186 hw
              have hw := cW_ok hw
              have hw := hK184 _ hw
              exact ⟨(low_170), (span_171), (count_172), _, _, rfl, eG178, S175, h176, hw⟩
          · intro σ H190 hw
            obtain ⟨low_170, span_171, count_172, u173, G193, rfl, eG194, S191, h192, hw⟩ := hw
            have hw := hK169 _ (cW_forS0 (rng_len _ _).symm hw)
            have hw : cW (F__law_code_r4 (chances_132) (low_170) (span_171) (count_172)) _ EE := hw
            unfold F__law_code_r4 at hw
            have hw := cW_ok hw
            have hw := hK121 _ hw
            exact ⟨(low_170), (span_171), (count_172), (chances_132), _, _, _, _, rfl, (Same.trans (Same.trans (Same.trans eG107 eG150) eG166) eG194), S191, h192, hw⟩
    · intro σ H198 hw
      obtain ⟨low_91, span_92, count_93, chances_94, u95, u96, u97, G201, rfl, eG202, S199, h200, hw⟩ := hw
      have hw := hK90 _ (cW_forS0 (by rw [d68.len, List.length_map]) hw)
      have hw : cW (F__law_code_r1  (low_91) (span_92) (count_93) (chances_94)) _ EE := hw
      unfold F__law_code_r1 at hw
      obtain ⟨g207, hw⟩ := cW_grd hw
      obtain ⟨K211, hK212, hw⟩ := cW_push hw
      refine ⟨_, rfl, _, _, rfl, rfl, _, rfl, g207.1, g207.2, fun D213 n214 => lc_range (lo := 0) (n := Int.toNat ((count_93 + 4))) (fun i H' => ∃ (G' : Hp) (acc216 : (List Int)), Same G201 G' ∧ Sep [] H G G' H' [D213, p80] ∧ H' p80 = some (.lst ((chances_94 : (List Int)).map V.int)) ∧ H' D213 = some (.lst ((acc216 : (List Int)).map V.int)) ∧ Same H198 H' ∧ cW (mapA (List.drop i (rng (0) (Int.toNat ((count_93 + 4))))) acc216 (fun x => noEr (F__law_code_c5 (low_91) (count_93) x))) K211 EE) ?_ ?_ ?_⟩
      · generalize g218 : upd H198 D213 _ = H219
        obtain ⟨e220, h221⟩ := gen_new n214 g218
        have fr222 := S199.free n214
        have S223 := S199.new n214 e220 h221 fr222
        have h224 := (e220 _ _ h200)
        exact ⟨_, [], Same.refl _, S223, h224, h221, e220, hw⟩
      · intro i H225 hi hw
        obtain ⟨G228, acc230, eG229, S226, h237, h227, eo236, hw⟩ := hw
        obtain ⟨z238, hw⟩ := cW_mapA (rng_get hi) hw
        generalize (0 + (i : Int)) = x239 at hw ⊢
        have hw := cW_noEr hw
        have hw : cW (F__law_code_c5 (low_91) (count_93) (x239)) _ (fun _ => False) := hw
        unfold F__law_code_c5 at hw
        refine ⟨rfl, ?_⟩
        refine tyes_go ?_
        obtain ⟨g241, hw⟩ := cW_grd hw
        refine ⟨_, rfl, _, rfl, _, _, rfl, rfl, _, rfl, _, _, rfl, rfl, _, _, rfl, rfl, (.inl ⟨by decide, by decide⟩), _, _, rfl, rfl, g241, _, _, rfl, rfl, _, h227, (app_lenM z238), ?_⟩
        generalize g242 : upd H225 D213 _ = H243
        obtain ⟨x244, h245⟩ := gen_mut g242
        have S246 := S226.mut1 x244 (.head _) h245
        have hw := cW_ok hw
        have h247 := (x244 _ _ h237 (ne_of_none h200 n214))
        exact ⟨_, (acc230 ++ [(PySem.Builtin.bitAnd ((low_91 / 2 ^ Int.toNat ((8 * ((count_93 + 3) - x239))))) (255))]), eG229, S246, h247, (snoc_map h245), (same_mut eo236 x244 n214), hw⟩
      intro H248 hw
      obtain ⟨G251, acc253, eG252, S249, h260, h250, eo259, hw⟩ := hw
      have hw := hK212 _ (cW_mapA0 (rng_len _ _).symm hw)
      have fr261 := S199.free n214
      obtain ⟨g262, hw⟩ := cW_grd hw
      obtain ⟨K264, hK265, hw⟩ := cW_push hw
      refine ⟨_, rfl, _, _, rfl, rfl, _, rfl, g262.1, g262.2, for_range (lo := 0) (n := Int.toNat ((count_93 + 4))) (fun i σ H' => ∃ (u266 : Option V) (octets_267 : (List Int)) (G' : Hp), σ = [some (V.ref a65), some (V.int (low_91)), some (V.int (span_92)), some (V.int (count_93)), some (V.ref p80), u95, u96, u266, some (V.ref D213)] ∧ Same G251 G' ∧ Sep [] H G G' H' [p80, D213] ∧ H' p80 = some (.lst ((chances_94 : (List Int)).map V.int)) ∧ H' D213 = some (.lst ((octets_267 : (List Int)).map V.int)) ∧ cW (forS (List.drop i (rng (0) (Int.toNat ((count_93 + 4))))) octets_267 (fun s x => F__law_code_b6  s x)) K264 EE) ?_ ?_ ?_⟩
      · exact ⟨_, (acc253), _, rfl, (Same.refl _), (S249.sub (all_cons (.tail _ (.head _)) (all_cons (.head _) all_nil))), h260, h250, hw⟩
      · intro i σ H268 hi hw
        obtain ⟨u266, octets_267, G272, rfl, eG273, S269, h270, h271, hw⟩ := hw
        have hw := cW_forS (rng_get hi) hw
        generalize (0 + (i : Int)) = x274 at hw ⊢
        have hw : cW (F__law_code_b6  (octets_267) (x274)) _ EE := hw
        unfold F__law_code_b6 at hw
        obtain ⟨K276, hK277, hw⟩ := cW_name hw
        refine ⟨_, rfl, _, _, rfl, (SqL.of h271), _, _, rfl, rfl, _, rfl, ?_⟩
        refine iteD (fun c279 => ?_) (fun c279 => ?_)
        · have hw := cW_pos c279 hw
          obtain ⟨g280, hw⟩ := cW_grd hw
          refine ⟨_, rfl, _, rfl, _, _, _, _, rfl, rfl, (SqL.of h271), (atI_map g280), _, _, rfl, rfl, _, rfl, ?_⟩
          refine iteD (fun c281 => ?_) (fun c281 => ?_)
          · have hw := cW_pos c281 hw
            obtain ⟨g282, hw⟩ := cW_grd hw
            refine ⟨_, rfl, (.inl ⟨rfl, _, SqL.of h271⟩), _, _, _, rfl, rfl, h271, (pop_map g282), ?_⟩
            generalize g283 : upd H268 D213 _ = H284
            obtain ⟨x285, h286⟩ := gen_mut g283
            have h287 : H284 D213 = some (.lst (((octets_267).dropLast : (List Int)).map V.int)) := drop_map h286
            have S288 := S269.mut1 x285 (.tail _ (.head _)) h287
            have hw := cW_bnd hw
            have hw := cW_ok hw
            have hw := hK277 _ hw
            have h290 := (x285 _ _ h270 (ne_of_none h200 n214))
            exact ⟨_, ((octets_267).dropLast), _, rfl, eG273, S288, h290, h287, hw⟩
          · have hw := cW_neg c281 hw
            have hw := cW_ok hw
            have hw := hK277 _ hw
            exact ⟨_, (octets_267), _, rfl, eG273, S269, h270, h271, hw⟩
        · have hw := cW_neg c279 hw
          refine iteF ?_
          have hw := cW_ok hw
          have hw := hK277 _ hw
          exact ⟨_, (octets_267), _, rfl, eG273, S269, h270, h271, hw⟩
      · intro σ H291 hw
        obtain ⟨u266, octets_267, G295, rfl, eG296, S292, h293, h294, hw⟩ := hw
        have hw := hK265 _ (cW_forS0 (rng_len _ _).symm hw)
        have hw : cW (F__law_code_r6 (chances_94) (octets_267)) _ EE := hw
        unfold F__law_code_r6 at hw
        refine ⟨_, rfl, _, rfl, _, rfl, _, _, rfl, (SqL.of h293), fun p298 n299 => ?_⟩
        generalize g300 : upd H291 p298 _ = H301
        obtain ⟨e302, h303⟩ := gen_new n299 g300
        have h304 : H301 p298 = some (.lst ((cutL (chances_94) none (some (256)) : (List Int)).map V.int)) := cut_map h303
        have fr305 := S292.free n299
        have S306 := S292.new n299 e302 h304 fr305
        refine ⟨(by show 2 ≤ sizeLine; decide), fun p307 n308 => ?_⟩
        generalize g309 : upd H301 p307 _ = H310
        obtain ⟨e311, h312⟩ := gen_new n308 g309
        have h313 : H310 p307 = some (.tup [V.ref D213, V.ref p298]) := h312
        have fr314 := S306.free n308
        obtain ⟨G316, eG317, hg318, S315⟩ := S306.grow n308 e311 h313 fr314
        have h319 := (e311 _ _ (e302 _ _ h294))
        obtain ⟨G320, eG321, hg322, S323⟩ := Sep.freeze (O' := [p298, p80]) S315 (.tail _ (.tail _ (.head _))) h319 fr261 ((all_cons ⟨(.head _), (ne_of_none h294 n299).symm⟩ (all_cons ⟨(.tail _ (.head _)), (ne_of_none h200 n214)⟩ all_nil)))
        have h324 := (e311 _ _ h304)
        obtain ⟨G325, eG326, hg327, S328⟩ := Sep.freeze (O' := [p80]) S323 (.head _) h324 fr305 ((all_cons ⟨(.tail _ (.head _)), (ne_of_none h293 n299)⟩ all_nil))
        have hw := cW_ok hw
        exact hK0 _ hw _ _ _ S328.b0 S328.g0 S328.sG S328.gn (rp_mk2 (eG326 _ _ (eG321 _ _ hg318)) (rp_mk_ints (eG326 _ _ hg322)) (rp_mk_ints hg327))

abbrev N__law_named : List Str := ["names"]
theorem sc__law_named : FnScope N__law_named [] (defScope s__law_named) := ⟨rfl, rfl, rfl, by decide +kernel, rfl, by decide +kernel, by decide +kernel⟩
theorem ok__law_named (D : DefX K mg "_law_named" s__law_named [] pats__law_named) (T : Txt K mg AD)  : CalX P w K mg base 1 "_law_named" (sp__law_named K AD) pats__law_named := by
  refine D.ok sc__law_named (fun vs H Q E h => ?_) (fun f cdv A_ outer s H vs Q E hr h => ?_)
  · obtain ⟨G, rfl, _⟩ := h
    rfl
  · obtain ⟨G, rfl, sG, hw⟩ := h
    refine ⟨_, (pss_cons (ps_set (i := 0) sc__law_named.nd rfl (Or.inl rfl) (pe_lst (pa_cons (C8.pe_gc rfl T.g_SKIP) (pa_cons (C8.pe_gc rfl T.g_INTRA) (pa_cons (C8.pe_gc rfl T.g_SPLIT) (pa_cons (C8.pe_gc rfl T.g_MODE) (pa_cons (C8.pe_gc rfl T.g_CHROMA) (pa_cons (C8.pe_gc rfl T.g_DIRECTION) (pa_cons (C8.pe_gc rfl T.g_INDEX) (pa_cons (C8.pe_gc rfl T.g_VECTOR_X) (pa_cons (C8.pe_gc rfl T.g_VECTOR_Y) (pa_cons (C8.pe_gc rfl T.g_SIZE) (pa_cons (C8.pe_gc rfl T.g_CODED) (pa_cons (C8.pe_gc rfl T.g_SIGNIFICANT) (pa_cons (C8.pe_gc rfl T.g_LAST) (pa_cons (C8.pe_gc rfl T.g_LEVEL) pa_nil))))))))))))))))
      (pss_one (ps_ret (pe_cmpR (op_eqT (encOk_L encOk_int) hr.units) (pe_op op_cat (pv 0) (pe_lst (pa_cons (C8.pe_gc rfl T.g_OFFSET) pa_nil))) (pe_lst (pa_cons pe_int (pa_cons pe_int (pa_cons pe_int (pa_cons pe_int (pa_cons pe_int (pa_cons pe_int (pa_cons pe_int (pa_cons pe_int (pa_cons pe_int (pa_cons pe_int (pa_cons pe_int (pa_cons pe_int (pa_cons pe_int (pa_cons pe_int (pa_cons pe_int pa_nil)))))))))))))))) (nomark _))))), ?_⟩
    obtain ⟨KK, EE, hK0, hE, hw⟩ := cW_gen hw
    have S0 := Sep.startG sG
    unfold F__law_named at hw
    refine ⟨(by show 14 ≤ sizeLine; decide), fun p329 n330 => ?_⟩
    generalize g331 : upd H p329 _ = H332
    obtain ⟨e333, h334⟩ := gen_new n330 g331
    have h335 : H332 p329 = some (.lst (([0, 3, 6, 8, 16, 20, 24, 25, 41, 57, 58, 64, 128, 192] : (List Int)).map V.int)) := h334
    have fr336 := S0.free n330
    have S337 := S0.new n330 e333 h335 fr336
    refine ⟨_, rfl, (by show 1 ≤ sizeLine; decide), fun p338 n339 => ?_⟩
    generalize g340 : upd H332 p338 _ = H341
    obtain ⟨e342, h343⟩ := gen_new n339 g340
    have h344 : H341 p338 = some (.lst (([224] : (List Int)).map V.int)) := h343
    have fr345 := S337.free n339
    have S346 := S337.new n339 e342 h344 fr345
    obtain ⟨g347, hw⟩ := cW_grd hw
    have h348 := (e342 _ _ h335)
    refine ⟨_, _, _, _, rfl, rfl, h348, h344, (cat_lenM g347), fun p349 n350 => ?_⟩
    generalize g351 : upd H341 p349 _ = H352
    obtain ⟨e353, h354⟩ := gen_new n350 g351
    have h355 : H352 p349 = some (.lst ((([0, 3, 6, 8, 16, 20, 24, 25, 41, 57, 58, 64, 128, 192]) ++ ([224]) : (List Int)).map V.int)) := cat_map h354
    have fr356 := S346.free n350
    have S357 := S346.new n350 e353 h355 fr356
    refine ⟨(by show 15 ≤ sizeLine; decide), fun p358 n359 => ?_⟩
    generalize g360 : upd H352 p358 _ = H361
    obtain ⟨e362, h363⟩ := gen_new n359 g360
    have h364 : H361 p358 = some (.lst (([0, 3, 6, 8, 16, 20, 24, 25, 41, 57, 58, 64, 128, 192, 224] : (List Int)).map V.int)) := h363
    have fr365 := S357.free n359
    have S366 := S357.new n359 e362 h364 fr365
    have h367 := (e362 _ _ h355)
    refine ⟨_, _, (rp_mk_ints h367), (rp_mk_ints h364), ?_⟩
    have hw := cW_ok hw
    exact hK0 _ hw _ S366.b0

abbrev N__law_draws : List Str := ["cell", "limits", "found", "rest", "state", "free", "limit"]
theorem sc__law_draws : FnScope N__law_draws ["cell", "limits"] (defScope s__law_draws) := ⟨rfl, rfl, rfl, by decide +kernel, rfl, by decide +kernel, by decide +kernel⟩
theorem ok__law_draws (D : DefX K mg "_law_draws" s__law_draws ["cell", "limits"] pats__law_draws) (T : Txt K mg AD)  : CalX P w K mg base 1 "_law_draws" (sp__law_draws K AD) pats__law_draws := by
  refine D.ok sc__law_draws (fun vs H Q E h => ?_) (fun f cdv A_ outer s H vs Q E hr h => ?_)
  · obtain ⟨G, cell', a_limits, limits', rfl, _⟩ := h
    rfl
  · obtain ⟨G, cell', a_limits, limits', rfl, sG, q_limits, hw⟩ := h
    refine ⟨_, (pss_cons (ps_set (i := 2) sc__law_draws.nd rfl (Or.inl rfl) (pe_lst pa_nil))
      (pss_cons (ps_set (i := 3) sc__law_draws.nd rfl (Or.inl rfl) (pe_callB call_abs (by rfl) T.b_abs (by decide +kernel) (pa_cons (pe_callTy call_int1 (by rfl) T.b_int (by decide +kernel) (pa_cons (pv 0) pa_nil)) pa_nil)))
      (pss_cons (ps_set (i := 4) sc__law_draws.nd rfl (Or.inl rfl) (pe_op op_mod (pe_callTy call_int1 (by rfl) T.b_int (by decide +kernel) (pa_cons (pv 3) pa_nil)) pe_int))
      (pss_cons (ps_set (i := 5) sc__law_draws.nd rfl (Or.inl rfl) (pe_or (pe_cmp (pc_lt (pv 0) pe_int)) (pe_one (pe_cmp (pc_ge (pv 0) (pe_op op_pow pe_int pe_int))))))
      (pss_cons (ps_for (passes_of rfl) rfl (pi_listK (K := K) (pv 1)) (pg_name (i := 6) sc__law_draws.nd rfl (Or.inl rfl)) (pss_one (ps_if (PW.pt (pw_and (pt_val (pv 5)) (pw_and1 (pt_cmp (pc_gt (pv 3) pe_int))))) (pss_cons (ps_expr (pe_bm PySem.F.plainAttrs_list PySem.F.slot_list_append PySem.F.type_list_append mt_append (pv 2) (pa_cons (pe_op op_mod (pe_callTy call_int1 (by rfl) T.b_int (by decide +kernel) (pa_cons (pv 3) pa_nil)) (pv 6)) pa_nil)))
      (pss_one (ps_set (i := 3) sc__law_draws.nd rfl (Or.inl rfl) (pe_op op_fdivW (pv 3) (pv 6))))) (pss_cons (ps_set (i := 4) sc__law_draws.nd rfl (Or.inl rfl) (pe_op op_mod (pe_callTy call_int1 (by rfl) T.b_int (by decide +kernel) (pa_cons (pe_op op_add (pe_op op_mul (pv 4) pe_int) pe_int) pa_nil)) pe_int))
      (pss_cons (ps_set (i := 4) sc__law_draws.nd rfl (Or.inl rfl) (pe_op op_mod (pe_callTy call_int1 (by rfl) T.b_int (by decide +kernel) (pa_cons (pe_op op_add (pe_op op_mul (pv 4) pe_int) pe_int) pa_nil)) pe_int))
      (pss_one (ps_expr (pe_bm PySem.F.plainAttrs_list PySem.F.slot_list_append PySem.F.type_list_append mt_append (pv 2) (pa_cons (pe_op op_mod (pe_callTy call_int1 (by rfl) T.b_int (by decide +kernel) (pa_cons (pe_op op_fdivW (pv 4) pe_int) pa_nil)) (pv 6)) pa_nil)))))))))
      (pss_one (ps_ret (pv 2)))))))), ?_⟩
    obtain ⟨KK, EE, hK0, hE, hw⟩ := cW_gen hw
    have S0 := Sep.startG sG
    unfold F__law_draws at hw
    refine ⟨(by show 0 ≤ sizeLine; decide), fun p368 n369 => ?_⟩
    generalize g370 : upd H p368 _ = H371
    obtain ⟨e372, h373⟩ := gen_new n369 g370
    have h374 : H371 p368 = some (.lst ((([] : (List Int)) : (List Int)).map V.int)) := h373
    have fr375 := S0.free n369
    have S376 := S0.new n369 e372 h374 fr375
    refine ⟨_, rfl, .inl ⟨_, rfl, ?_⟩⟩
    refine ⟨_, rfl, ?_⟩
    have hw := cW_bnd hw
    refine ⟨_, rfl, .inl ⟨_, rfl, ?_⟩⟩
    refine ⟨_, _, rfl, rfl, (show (0 : Int) < 2147483647 by decide), ?_⟩
    have hw := cW_bnd hw
    refine vv_or (ta := (tLt (tVar 0) (tC (V.int 0)))) (tb := (tGe (tVar 0) (tOp (rI CPow fun i j => V.int (i ^ j.toNat)) (tC (V.int 10)) (tC (V.int 18))))) (a := decide (cell' < 0)) (b := decide (((10 : Int) ^ Int.toNat 18) ≤ cell')) ?ha379 ?hb380 _ ?_
    case ha379 => exact (vv_cmp (val_var rfl) val_c (fun Q q => ⟨_, _, rfl, rfl, q⟩))
    case hb380 => exact (vv_cmp (val_var rfl) (val_op val_c val_c (fun Q q => ⟨_, _, rfl, rfl, ⟨by decide, by decide, by decide⟩, q⟩)) (fun Q q => ⟨_, _, rfl, rfl, q⟩))
    have hw := cW_bnd hw
    obtain ⟨K383, hK384, hw⟩ := cW_push hw
    refine ⟨_, rfl, _, rfl, ⟨_, (SqL.of (S376.bM _ _ q_limits))⟩, for_list (K := K) (a := a_limits) (xs := (limits' : List Int).map V.int) (fun i σ H' => ∃ (found_385 : (List Int)) (rest_386 : Int) (state_387 : Int) (u388 : Option V) (G' : Hp), σ = [some (V.int (cell')), some (V.ref a_limits), some (V.ref p368), some (V.int rest_386), some (V.int state_387), some (V.bl ((decide (cell' < 0) || decide (((10 : Int) ^ Int.toNat 18) ≤ cell')))), u388] ∧ Same G G' ∧ Sep [] H G G' H' [p368] ∧ H' p368 = some (.lst ((found_385 : (List Int)).map V.int)) ∧ cW (forS (List.drop i (limits')) (found_385, rest_386, state_387) (fun s x => F__law_draws_b1 ((decide (cell' < 0) || decide (((10 : Int) ^ Int.toNat 18) ≤ cell'))) (s.1) (s.2.1) (s.2.2) x)) K383 EE) ?_ ?_ ?_ ?_⟩
    · exact ⟨(([] : (List Int))), ((if cell' < 0 then -cell' else cell')), (((if cell' < 0 then -cell' else cell') % 2147483647)), _, _, rfl, (Same.refl _), S376, h374, hw⟩
    · intro i σ H389 _ hw
      obtain ⟨found_385, rest_386, state_387, u388, G392, rfl, eG393, S390, h391, hw⟩ := hw
      exact (SqL.of (S390.bM _ _ q_limits))
    · intro i x σ H394 hj hw
      obtain ⟨found_385, rest_386, state_387, u388, G397, rfl, eG398, S395, h396, hw⟩ := hw
      obtain ⟨x399, hx, rfl⟩ := map_get hj
      have hw := cW_forS hx hw
      have hw : cW (F__law_draws_b1 ((decide (cell' < 0) || decide (((10 : Int) ^ Int.toNat 18) ≤ cell'))) (found_385) (rest_386) (state_387) (x399)) _ EE := hw
      unfold F__law_draws_b1 at hw
      obtain ⟨K403, hK404, hw⟩ := cW_name hw
      refine ⟨_, rfl, _, rfl, ?_⟩
      refine iteB (fun c406 => ?_) (fun c406 => ?_)
      · have hw := cW_pos c406 hw
        refine ⟨_, rfl, _, _, rfl, rfl, _, rfl, ?_⟩
        refine iteD (fun c407 => ?_) (fun c407 => ?_)
        · have hw := cW_pos c407 hw
          refine ⟨_, rfl, (.inl ⟨rfl, _, SqL.of h396⟩), _, rfl, .inl ⟨_, rfl, ?_⟩⟩
          obtain ⟨g408, hw⟩ := cW_grd hw
          obtain ⟨g409, hw⟩ := cW_grd hw
          refine ⟨_, rfl, _, _, rfl, rfl, g408, _, _, _, rfl, rfl, h396, (app_lenM g409), ?_⟩
          generalize g410 : upd H394 p368 _ = H411
          obtain ⟨x412, h413⟩ := gen_mut g410
          have h414 : H411 p368 = some (.lst (((found_385) ++ [(rest_386 % x399)] : (List Int)).map V.int)) := snoc_map h413
          have S415 := S395.mut1 x412 (.head _) h414
          have hw := cW_bnd hw
          obtain ⟨g417, hw⟩ := cW_grd hw
          refine ⟨_, rfl, _, rfl, _, _, rfl, rfl, (divW_small g417.1 g417.2), ?_⟩
          have hw := cW_bnd hw
          have hw := cW_ok hw
          have hw := hK404 _ hw
          exact ⟨((found_385) ++ [(rest_386 % x399)]), ((rest_386 / x399)), (state_387), _, _, rfl, eG398, S415, h414, hw⟩
        · have hw := cW_neg c407 hw
          refine ⟨_, rfl, _, _, rfl, rfl, (.inr ⟨by decide, by decide⟩), _, _, rfl, rfl, .inl ⟨_, rfl, ?_⟩⟩
          refine ⟨_, _, rfl, rfl, (show (0 : Int) < 2147483647 by decide), ?_⟩
          have hw := cW_bnd hw
          refine ⟨_, rfl, _, _, rfl, rfl, (.inr ⟨by decide, by decide⟩), _, _, rfl, rfl, .inl ⟨_, rfl, ?_⟩⟩
          refine ⟨_, _, rfl, rfl, (show (0 : Int) < 2147483647 by decide), ?_⟩
          have hw := cW_bnd hw
          refine ⟨_, rfl, (.inl ⟨rfl, _, SqL.of h396⟩), _, rfl, _, _, rfl, rfl, (divW_lit (by decide) (by decide)), .inl ⟨_, rfl, ?_⟩⟩
          obtain ⟨g421, hw⟩ := cW_grd hw
          obtain ⟨g422, hw⟩ := cW_grd hw
          refine ⟨_, rfl, _, _, rfl, rfl, g421, _, _, _, rfl, rfl, h396, (app_lenM g422), ?_⟩
          generalize g423 : upd H394 p368 _ = H424
          obtain ⟨x425, h426⟩ := gen_mut g423
          have h427 : H424 p368 = some (.lst (((found_385) ++ [((((((((state_387 * 48271) + 11) % 2147483647) * 69621) + 7) % 2147483647) / 13) % x399)] : (List Int)).map V.int)) := snoc_map h426
          have S428 := S395.mut1 x425 (.head _) h427
          have hw := cW_bnd hw
          have hw := cW_ok hw
          have hw := hK404 _ hw
          exact ⟨((found_385) ++ [((((((((state_387 * 48271) + 11) % 2147483647) * 69621) + 7) % 2147483647) / 13) % x399)]), (rest_386), (((((((state_387 * 48271) + 11) % 2147483647) * 69621) + 7) % 2147483647)), _, _, rfl, eG398, S428, h427, hw⟩
      · have hw := cW_negB c406 hw
        refine iteF ?_
        refine ⟨_, rfl, _, _, rfl, rfl, (.inr ⟨by decide, by decide⟩), _, _, rfl, rfl, .inl ⟨_, rfl, ?_⟩⟩
        refine ⟨_, _, rfl, rfl, (show (0 : Int) < 2147483647 by decide), ?_⟩
        have hw := cW_bnd hw
        refine ⟨_, rfl, _, _, rfl, rfl, (.inr ⟨by decide, by decide⟩), _, _, rfl, rfl, .inl ⟨_, rfl, ?_⟩⟩
        refine ⟨_, _, rfl, rfl, (show (0 : Int) < 2147483647 by decide), ?_⟩
        have hw := cW_bnd hw
        refine ⟨_, rfl, (.inl ⟨rfl, _, SqL.of h396⟩), _, rfl, _, _, rfl, rfl, (divW_lit (by decide) (by decide)), .inl ⟨_, rfl, ?_⟩⟩
        obtain ⟨g432, hw⟩ := cW_grd hw
        obtain ⟨g433, hw⟩ := cW_grd hw
        refine ⟨_, rfl, _, _, rfl, rfl, g432, _, _, _, rfl, rfl, h396, (app_lenM g433), ?_⟩
        generalize g434 : upd H394 p368 _ = H435
        obtain ⟨x436, h437⟩ := gen_mut g434
        have h438 : H435 p368 = some (.lst (((found_385) ++ [((((((((state_387 * 48271) + 11) % 2147483647) * 69621) + 7) % 2147483647) / 13) % x399)] : (List Int)).map V.int)) := snoc_map h437
        have S439 := S395.mut1 x436 (.head _) h438
        have hw := cW_bnd hw
        have hw := cW_ok hw
        have hw := hK404 _ hw
        exact ⟨((found_385) ++ [((((((((state_387 * 48271) + 11) % 2147483647) * 69621) + 7) % 2147483647) / 13) % x399)]), (rest_386), (((((((state_387 * 48271) + 11) % 2147483647) * 69621) + 7) % 2147483647)), _, _, rfl, eG398, S439, h438, hw⟩
    · intro σ H441 hw
      obtain ⟨found_385, rest_386, state_387, u388, G444, rfl, eG445, S442, h443, hw⟩ := hw
      have hw := hK384 _ (cW_forS0 (by rw [List.length_map]) hw)
      have hw : cW (F__law_draws_r1  (found_385) (rest_386) (state_387)) _ EE := hw
      unfold F__law_draws_r1 at hw
      refine ⟨_, rfl, ?_⟩
      have hw := cW_ok hw
      exact hK0 _ hw _ _ fr375 S442.b0 h443

abbrev N__law_symbol : List Str := ["cell", "draws", "kind", "count", "width", "base", "most", "value"]
theorem sc__law_symbol : FnScope N__law_symbol ["cell"] (defScope s__law_symbol) := ⟨rfl, rfl, rfl, by decide +kernel, rfl, by decide +kernel, by decide +kernel⟩
theorem ok__law_symbol (D : DefX K mg "_law_symbol" s__law_symbol ["cell"] pats__law_symbol) (T : Txt K mg AD) (c__law_draws : CalX P w K mg base 1 "_law_draws" (sp__law_draws K AD) pats__law_draws) : CalX P w K mg base 2 "_law_symbol" (sp__law_symbol K AD) pats__law_symbol := by
  refine D.ok sc__law_symbol (fun vs H Q E h => ?_) (fun f cdv A_ outer s H vs Q E hr h => ?_)
  · obtain ⟨G, cell', rfl, _⟩ := h
    rfl
  · obtain ⟨G, cell', rfl, sG, hw⟩ := h
    refine ⟨_, (pss_cons (ps_set (i := 1) sc__law_symbol.nd rfl (Or.inl rfl) (vx_callX c__law_draws pat__law_draws_0 (.head _) hr (by decide) (takes_of rfl rfl rfl rfl) rfl (pa_cons (pv 0) (pa_cons (pe_lst (pa_cons pe_int (pa_cons pe_int (pa_cons (pe_op op_add (pe_op op_pow pe_int pe_int) pe_int) (pa_cons pe_int (pa_cons pe_int (pa_cons pe_int (pa_cons pe_int pa_nil)))))))) pa_nil)) pk_nil))
      (pss_cons (ps_set (i := 2) sc__law_symbol.nd rfl (Or.inl rfl) (pe_ix (ix_listK (K := K)) (pv 1) pe_int (fun _ _ => rfl)))
      (pss_cons (ps_if (pt_cmp (pc_eqI (pv 2) pe_int)) (pss_one (ps_ret (pe_tup (pa_cons pe_int (pa_cons pe_int (pa_cons (pe_ix (ix_listK (K := K)) (pv 1) pe_int (fun _ _ => rfl)) (pa_cons pe_int pa_nil))))))) pss_nil)
      (pss_cons (ps_if (pt_cmp (pc_eqI (pv 2) pe_int)) (pss_one (ps_ret (pe_tup (pa_cons pe_int (pa_cons (pe_ix (ix_listK (K := K)) (pe_lst (pa_cons pe_int (pa_cons pe_int (pa_cons pe_int (pa_cons pe_int (pa_cons (pe_ix (ix_listK (K := K)) (pv 1) pe_int (fun _ _ => rfl)) (pa_cons (pe_ix (ix_listK (K := K)) (pv 1) pe_int (fun _ _ => rfl)) pa_nil))))))) (pe_ix (ix_listK (K := K)) (pv 1) pe_int (fun _ _ => rfl)) (fun _ _ => rfl)) (pa_cons (pe_ix (ix_listK (K := K)) (pv 1) pe_int (fun _ _ => rfl)) (pa_cons pe_int pa_nil))))))) pss_nil)
      (pss_cons (ps_if (pt_cmp (pc_eqI (pv 2) pe_int)) (pss_cons (ps_set (i := 3) sc__law_symbol.nd rfl (Or.inl rfl) (pe_op op_add pe_int (pe_op op_mod (pe_callTy call_int1 (by rfl) T.b_int (by decide +kernel) (pa_cons (pe_ix (ix_listK (K := K)) (pv 1) pe_int (fun _ _ => rfl)) pa_nil)) pe_int)))
      (pss_cons (ps_set (i := 4) sc__law_symbol.nd rfl (Or.inl rfl) (pe_bits (pe_op op_sub (pv 3) pe_int)))
      (pss_cons (ps_set (i := 5) sc__law_symbol.nd rfl (Or.inl rfl) (pe_op op_mod (pe_callTy call_int1 (by rfl) T.b_int (by decide +kernel) (pa_cons (pe_ix (ix_listK (K := K)) (pv 1) pe_int (fun _ _ => rfl)) pa_nil)) (pe_op op_sub pe_int (pe_op op_pow pe_int pe_int))))
      (C8.pss_cut (ps_if (pt_cmp (pc_eqI (pe_ix (ix_listK (K := K)) (pv 1) pe_int (fun _ _ => rfl)) pe_int)) (pss_one (ps_set (i := 5) sc__law_symbol.nd rfl (Or.inl rfl) (pe_op op_sub pe_int (pe_op op_shlW pe_int (pv 4))))) pss_nil)
      (pss_cons (ps_if (pt_cmp (pc_eqI (pv 3) pe_int)) (pss_one (ps_ret (pe_tup (pa_cons pe_int (pa_cons (pe_op op_sub (pe_op op_mod (pe_callTy call_int1 (by rfl) T.b_int (by decide +kernel) (pa_cons (pe_ix (ix_listK (K := K)) (pv 1) pe_int (fun _ _ => rfl)) pa_nil)) pe_int) pe_int) (pa_cons pe_int (pa_cons pe_int pa_nil))))))) pss_nil)
      (pss_one (ps_ret (pe_tup (pa_cons pe_int (pa_cons (pe_callB (call_min2 rfl) (by rfl) T.b_min (by decide +kernel) (pa_cons (pv 5) (pa_cons pe_int pa_nil))) (pa_cons (pe_ix (ix_listK (K := K)) (pe_lst (pa_cons pe_int (pa_cons (pe_op op_sub (pv 3) pe_int) (pa_cons (pe_op op_mod (pe_callTy call_int1 (by rfl) T.b_int (by decide +kernel) (pa_cons (pe_ix (ix_listK (K := K)) (pv 1) pe_int (fun _ _ => rfl)) pa_nil)) (pv 3)) pa_nil)))) (pe_op op_mod (pe_callTy call_int1 (by rfl) T.b_int (by decide +kernel) (pa_cons (pe_ix (ix_listK (K := K)) (pv 1) pe_int (fun _ _ => rfl)) pa_nil)) pe_int) (fun _ _ => rfl)) (pa_cons (pv 3) pa_nil)))))))))))) pss_nil)
      (pss_cons (ps_if (pt_cmp (pc_eqI (pv 2) pe_int)) (pss_cons (ps_set (i := 6) sc__law_symbol.nd rfl (Or.inl rfl) (pe_ix (ix_listK (K := K)) (pv 1) pe_int (fun _ _ => rfl)))
      (pss_cons (ps_set (i := 5) sc__law_symbol.nd rfl (Or.inl rfl) (pe_callB (call_min2 rfl) (by rfl) T.b_min (by decide +kernel) (pa_cons (pe_callTy call_int1 (by rfl) T.b_int (by decide +kernel) (pa_cons (pe_ix (ix_listK (K := K)) (pv 1) pe_int (fun _ _ => rfl)) pa_nil)) (pa_cons (pe_op op_sub pe_int (pe_callB (call_min2 rfl) (by rfl) T.b_min (by decide +kernel) (pa_cons (pe_callB (call_max2 rfl) (by rfl) T.b_max (by decide +kernel) (pa_cons (pe_op op_sub (pv 6) pe_int) (pa_cons pe_int pa_nil))) (pa_cons pe_int pa_nil)))) pa_nil))))
      (C8.pss_cut (ps_if (pt_cmp (pc_eqI (pv 6) pe_int)) (pss_one (ps_set (i := 5) sc__law_symbol.nd rfl (Or.inl rfl) (pe_op op_sub (pe_op op_mod (pe_callTy call_int1 (by rfl) T.b_int (by decide +kernel) (pa_cons (pe_ix (ix_listK (K := K)) (pv 1) pe_int (fun _ _ => rfl)) pa_nil)) pe_int) pe_int))) pss_nil)
      (pss_one (ps_ret (pe_tup (pa_cons pe_int (pa_cons (pv 5) (pa_cons (pe_ix (ix_listK (K := K)) (pe_lst (pa_cons pe_int (pa_cons (pv 6) (pa_cons (pe_op op_mod (pe_callTy call_int1 (by rfl) T.b_int (by decide +kernel) (pa_cons (pe_ix (ix_listK (K := K)) (pv 1) pe_int (fun _ _ => rfl)) pa_nil)) (pe_op op_add (pv 6) pe_int)) pa_nil)))) (pe_op op_mod (pe_callTy call_int1 (by rfl) T.b_int (by decide +kernel) (pa_cons (pe_ix (ix_listK (K := K)) (pv 1) pe_int (fun _ _ => rfl)) pa_nil)) pe_int) (fun _ _ => rfl)) (pa_cons (pv 6) pa_nil)))))))))) pss_nil)
      (pss_cons (ps_set (i := 5) sc__law_symbol.nd rfl (Or.inl rfl) (pe_ix (ix_listK (K := K)) (pe_lst (pa_cons pe_int (pa_cons pe_int (pa_cons pe_int (pa_cons pe_int (pa_cons (pe_op op_mod (pe_callTy call_int1 (by rfl) T.b_int (by decide +kernel) (pa_cons (pe_ix (ix_listK (K := K)) (pv 1) pe_int (fun _ _ => rfl)) pa_nil)) pe_int) (pa_cons (pe_op op_mod (pe_callTy call_int1 (by rfl) T.b_int (by decide +kernel) (pa_cons (pe_ix (ix_listK (K := K)) (pv 1) pe_int (fun _ _ => rfl)) pa_nil)) pe_int) pa_nil))))))) (pe_ix (ix_listK (K := K)) (pv 1) pe_int (fun _ _ => rfl)) (fun _ _ => rfl)))
      (pss_cons (ps_set (i := 7) sc__law_symbol.nd rfl (Or.inl rfl) (pe_ix (ix_listK (K := K)) (pe_lst (pa_cons pe_int (pa_cons (pe_op op_pow pe_int pe_int) (pa_cons (pe_op op_sub (pe_op op_pow pe_int pe_int) pe_int) (pa_cons (pe_op op_mod (pe_callTy call_int1 (by rfl) T.b_int (by decide +kernel) (pa_cons (pe_ix (ix_listK (K := K)) (pv 1) pe_int (fun _ _ => rfl)) pa_nil)) pe_int) (pa_cons (pe_op op_mod (pe_callTy call_int1 (by rfl) T.b_int (by decide +kernel) (pa_cons (pe_ix (ix_listK (K := K)) (pv 1) pe_int (fun _ _ => rfl)) pa_nil)) pe_int) (pa_cons (pe_ix (ix_listK (K := K)) (pv 1) pe_int (fun _ _ => rfl)) pa_nil))))))) (pe_ix (ix_listK (K := K)) (pv 1) pe_int (fun _ _ => rfl)) (fun _ _ => rfl)))
      (C8.pss_cut (ps_if (PW.pt (pw_and (pt_cmp (pc_eqI (pv 2) pe_int)) (pw_and1 (pt_cmp (pc_eqI (pe_ix (ix_listK (K := K)) (pv 1) pe_int (fun _ _ => rfl)) pe_int))))) (pss_one (ps_set (i := 7) sc__law_symbol.nd rfl (Or.inl rfl) (pe_un un_neg (pv 7)))) pss_nil)
      (pss_one (ps_ret (pe_tup (pa_cons (pv 2) (pa_cons (pv 5) (pa_cons (pv 7) (pa_cons pe_int pa_nil)))))))))))))))), ?_⟩
    obtain ⟨KK, EE, hK0, hE, hw⟩ := cW_gen hw
    have S0 := Sep.startG sG
    unfold F__law_symbol at hw
    refine ⟨_, rfl, _, _, rfl, rfl, ⟨by decide, by decide, by decide⟩, _, _, rfl, rfl, (by show 7 ≤ sizeLine; decide), fun p449 n450 => ?_⟩
    generalize g451 : upd H p449 _ = H452
    obtain ⟨e453, h454⟩ := gen_new n450 g451
    have h455 : H452 p449 = some (.lst (([6, 6, (1048576 + 1), 6, 256, 65, 2] : (List Int)).map V.int)) := h454
    have fr456 := S0.free n450
    have S457 := S0.new n450 e453 h455 fr456
    refine ⟨rfl, rfl, G, _, _, _, rfl, S457.sG, (hide_nil h455), cW_call hw (fun v458 hw p461 H459 n462 e460 h463 => ?_) (fun e he H2 e2 => hE e he H2 (Same.trans S457.b0 e2))⟩
    have h464 : H459 p461 = some (.lst ((v458 : (List Int)).map V.int)) := h463
    have fr465 := S457.free n462
    have S466 := S457.new n462 e460 h464 fr465
    obtain ⟨g467, hw⟩ := cW_grd hw
    refine ⟨_, rfl, _, _, _, _, rfl, rfl, (SqL.of h464), (atI_map g467), ?_⟩
    have hw := cW_bnd hw
    refine ⟨_, rfl, _, _, rfl, rfl, _, rfl, ?_⟩
    refine iteD (fun c469 => ?_) (fun c469 => ?_)
    · have hw := cW_pos c469 hw
      obtain ⟨g470, hw⟩ := cW_grd hw
      refine ⟨_, rfl, _, _, _, _, rfl, rfl, (SqL.of h464), (atI_map g470), (by show 4 ≤ sizeLine; decide), fun p471 n472 => ?_⟩
      generalize g473 : upd H459 p471 _ = H474
      obtain ⟨e475, h476⟩ := gen_new n472 g473
      have h477 : H474 p471 = some (.tup [V.int (5), V.int (0), V.int ((itD (v458) (6))), V.int (0)]) := h476
      have fr478 := S466.free n472
      obtain ⟨G480, eG481, hg482, S479⟩ := S466.grow n472 e475 h477 fr478
      have hw := cW_ok hw
      exact hK0 _ hw _ _ _ S479.b0 S479.g0 S479.sG S479.gn (rp_mk4 hg482 (.int _) (.int _) (.int _) (.int _))
    · have hw := cW_neg c469 hw
      refine ⟨_, rfl, _, _, rfl, rfl, _, rfl, ?_⟩
      refine iteD (fun c483 => ?_) (fun c483 => ?_)
      · have hw := cW_pos c483 hw
        obtain ⟨g484, hw⟩ := cW_grd hw
        obtain ⟨g485, hw⟩ := cW_grd hw
        refine ⟨_, rfl, _, _, _, _, rfl, rfl, (SqL.of h464), (atI_map g484), _, rfl, _, _, _, _, rfl, rfl, (SqL.of h464), (atI_map g485), (by show 6 ≤ sizeLine; decide), fun p486 n487 => ?_⟩
        generalize g488 : upd H459 p486 _ = H489
        obtain ⟨e490, h491⟩ := gen_new n487 g488
        have h492 : H489 p486 = some (.lst (([0, 255, 128, 3, (itD (v458) (4)), (itD (v458) (4))] : (List Int)).map V.int)) := h491
        have fr493 := S466.free n487
        have S494 := S466.new n487 e490 h492 fr493
        obtain ⟨g495, hw⟩ := cW_grd hw
        have h496 := (e490 _ _ h464)
        obtain ⟨g497, hw⟩ := cW_grd hw
        obtain ⟨g498, hw⟩ := cW_grd hw
        refine ⟨_, rfl, _, _, _, _, rfl, rfl, (SqL.of h496), (atI_map g495), _, _, _, _, rfl, rfl, (SqL.of h492), (atI_map g497), _, rfl, _, _, _, _, rfl, rfl, (SqL.of h496), (atI_map g498), (by show 4 ≤ sizeLine; decide), fun p499 n500 => ?_⟩
        generalize g501 : upd H489 p499 _ = H502
        obtain ⟨e503, h504⟩ := gen_new n500 g501
        have h505 : H502 p499 = some (.tup [V.int (0), V.int ((itD ([0, 255, 128, 3, (itD (v458) (4)), (itD (v458) (4))]) ((itD (v458) (3))))), V.int ((itD (v458) (6))), V.int (0)]) := h504
        have fr506 := S494.free n500
        obtain ⟨G508, eG509, hg510, S507⟩ := S494.grow n500 e503 h505 fr506
        have hw := cW_ok hw
        exact hK0 _ hw _ _ _ S507.b0 S507.g0 S507.sG S507.gn (rp_mk4 hg510 (.int _) (.int _) (.int _) (.int _))
      · have hw := cW_neg c483 hw
        refine ⟨_, rfl, _, _, rfl, rfl, _, rfl, ?_⟩
        refine iteD (fun c511 => ?_) (fun c511 => ?_)
        · have hw := cW_pos c511 hw
          obtain ⟨g512, hw⟩ := cW_grd hw
          refine ⟨_, rfl, _, _, _, _, rfl, rfl, (SqL.of h464), (atI_map g512), .inl ⟨_, rfl, ?_⟩⟩
          refine ⟨_, _, rfl, rfl, (show (0 : Int) < 16 by decide), _, _, rfl, rfl, ?_⟩
          have hw := cW_bnd hw
          refine ⟨_, rfl, _, _, rfl, rfl, _, rfl, ?_⟩
          have hw := cW_bnd hw
          obtain ⟨g515, hw⟩ := cW_grd hw
          refine ⟨_, rfl, _, _, _, _, rfl, rfl, (SqL.of h464), (atI_map g515), .inl ⟨_, rfl, ?_⟩⟩
          obtain ⟨g516, hw⟩ := cW_grd hw
          refine ⟨_, _, rfl, rfl, ⟨by decide, by decide, by decide⟩, _, _, rfl, rfl, _, _, rfl, rfl, g516, ?_⟩
          have hw := cW_bnd hw
          refine ⟨fun σ H' => ∃ (base_522 : Int) (G' : Hp), σ = [some (V.int (cell')), some (V.ref p461), some (V.int ((itD (v458) (0)))), some (V.int ((1 + ((itD (v458) (5)) % 16)))), some (V.int (((PySem.Builtin.Int.intBits (((1 + ((itD (v458) (5)) % 16)) - 1)) : Nat) : Int))), some (V.int base_522), none, none] ∧ Same G G' ∧ Sep [] H G G' H' [p461] ∧ H' p461 = some (.lst ((v458 : (List Int)).map V.int)) ∧ cW (F__law_symbol_k1 (v458) ((itD (v458) (0))) ((1 + ((itD (v458) (5)) % 16))) base_522) KK EE, ?_, ?_⟩
          · obtain ⟨K523, hK524, hw⟩ := cW_push hw
            obtain ⟨g525, hw⟩ := cW_grd hw
            refine ⟨_, rfl, _, _, _, _, rfl, rfl, (SqL.of h464), (atI_map g525), _, _, rfl, rfl, _, rfl, ?_⟩
            refine iteD (fun c526 => ?_) (fun c526 => ?_)
            · have hw := cW_pos c526 hw
              obtain ⟨g527, hw⟩ := cW_grd hw
              refine ⟨_, rfl, _, _, rfl, rfl, (shl_side g527.1 g527.2.1 g527.2.2.1 g527.2.2.2), _, _, rfl, rfl, ?_⟩
              have hw := cW_bnd hw
              have hw := cW_ok hw
              have hw := hK524 _ hw
              exact ⟨((257 - (1 * 2 ^ Int.toNat (((PySem.Builtin.Int.intBits (((1 + ((itD (v458) (5)) % 16)) - 1)) : Nat) : Int))))), _, rfl, (Same.refl _), (S466.sub (all_cons (.head _) all_nil)), h464, hw⟩
            · have hw := cW_neg c526 hw
              have hw := cW_ok hw
              have hw := hK524 _ hw
              exact ⟨(((itD (v458) (4)) % (258 - 16))), _, rfl, (Same.refl _), (S466.sub (all_cons (.head _) all_nil)), h464, hw⟩
          · intro σ H529 hw
            obtain ⟨base_522, G532, rfl, eG533, S530, h531, hw⟩ := hw
            unfold F__law_symbol_k1 at hw
            refine ⟨_, rfl, _, _, rfl, rfl, _, rfl, ?_⟩
            refine iteD (fun c534 => ?_) (fun c534 => ?_)
            · have hw := cW_pos c534 hw
              obtain ⟨g535, hw⟩ := cW_grd hw
              refine ⟨_, rfl, _, _, _, _, rfl, rfl, (SqL.of h531), (atI_map g535), .inl ⟨_, rfl, ?_⟩⟩
              refine ⟨_, _, rfl, rfl, (show (0 : Int) < 901 by decide), _, _, rfl, rfl, (by show 4 ≤ sizeLine; decide), fun p536 n537 => ?_⟩
              generalize g538 : upd H529 p536 _ = H539
              obtain ⟨e540, h541⟩ := gen_new n537 g538
              have h542 : H539 p536 = some (.tup [V.int (1), V.int ((((itD (v458) (2)) % 901) - 300)), V.int (0), V.int (1)]) := h541
              have fr543 := S530.free n537
              obtain ⟨G545, eG546, hg547, S544⟩ := S530.grow n537 e540 h542 fr543
              have hw := cW_ok hw
              exact hK0 _ hw _ _ _ S544.b0 S544.g0 S544.sG S544.gn (rp_mk4 hg547 (.int _) (.int _) (.int _) (.int _))
            · have hw := cW_neg c534 hw
              obtain ⟨g548, hw⟩ := cW_grd hw
              refine ⟨_, rfl, _, _, rfl, _, rfl, _, _, rfl, rfl, _, rfl, _, _, _, _, rfl, rfl, (SqL.of h531), (atI_map g548), .inl ⟨_, rfl, ?_⟩⟩
              obtain ⟨g549, hw⟩ := cW_grd hw
              refine ⟨_, rfl, _, _, rfl, rfl, g549, (by show 3 ≤ sizeLine; decide), fun p550 n551 => ?_⟩
              generalize g552 : upd H529 p550 _ = H553
              obtain ⟨e554, h555⟩ := gen_new n551 g552
              have h556 : H553 p550 = some (.lst (([0, ((1 + ((itD (v458) (5)) % 16)) - 1), ((itD (v458) (2)) % (1 + ((itD (v458) (5)) % 16)))] : (List Int)).map V.int)) := h555
              have fr557 := S530.free n551
              have S558 := S530.new n551 e554 h556 fr557
              obtain ⟨g559, hw⟩ := cW_grd hw
              have h560 := (e554 _ _ h531)
              refine ⟨_, rfl, _, _, _, _, rfl, rfl, (SqL.of h560), (atI_map g559), .inl ⟨_, rfl, ?_⟩⟩
              obtain ⟨g561, hw⟩ := cW_grd hw
              refine ⟨_, _, rfl, rfl, (show (0 : Int) < 3 by decide), _, _, _, _, rfl, rfl, (SqL.of h556), (atI_map g561), _, rfl, (by show 4 ≤ sizeLine; decide), fun p562 n563 => ?_⟩
              generalize g564 : upd H553 p562 _ = H565
              obtain ⟨e566, h567⟩ := gen_new n563 g564
              have h568 : H565 p562 = some (.tup [V.int (1), V.int ((if 255 < base_522 then 255 else base_522)), V.int ((itD ([0, ((1 + ((itD (v458) (5)) % 16)) - 1), ((itD (v458) (2)) % (1 + ((itD (v458) (5)) % 16)))]) (((itD (v458) (1)) % 3)))), V.int ((1 + ((itD (v458) (5)) % 16)))]) := h567
              have fr569 := S558.free n563
              obtain ⟨G571, eG572, hg573, S570⟩ := S558.grow n563 e566 h568 fr569
              have hw := cW_ok hw
              exact hK0 _ hw _ _ _ S570.b0 S570.g0 S570.sG S570.gn (rp_mk4 hg573 (.int _) (.int _) (.int _) (.int _))
        · have hw := cW_neg c511 hw
          refine ⟨_, rfl, _, _, rfl, rfl, _, rfl, ?_⟩
          refine iteD (fun c574 => ?_) (fun c574 => ?_)
          · have hw := cW_pos c574 hw
            obtain ⟨g575, hw⟩ := cW_grd hw
            refine ⟨_, rfl, _, _, _, _, rfl, rfl, (SqL.of h464), (atI_map g575), ?_⟩
            have hw := cW_bnd hw
            obtain ⟨g577, hw⟩ := cW_grd hw
            refine ⟨_, rfl, _, _, _, _, rfl, rfl, (SqL.of h464), (atI_map g577), .inl ⟨_, rfl, ?_⟩⟩
            refine ⟨_, rfl, _, _, rfl, rfl, _, _, rfl, _, _, rfl, _, _, rfl, rfl, _, _, rfl, ?_⟩
            have hw := cW_bnd hw
            refine ⟨fun σ H' => ∃ (base_583 : Int) (G' : Hp), σ = [some (V.int (cell')), some (V.ref p461), some (V.int ((itD (v458) (0)))), none, none, some (V.int base_583), some (V.int ((itD (v458) (5)))), none] ∧ Same G G' ∧ Sep [] H G G' H' [p461] ∧ H' p461 = some (.lst ((v458 : (List Int)).map V.int)) ∧ cW (F__law_symbol_k2 (v458) ((itD (v458) (0))) ((itD (v458) (5))) base_583) KK EE, ?_, ?_⟩
            · obtain ⟨K584, hK585, hw⟩ := cW_push hw
              refine ⟨_, rfl, _, _, rfl, rfl, _, rfl, ?_⟩
              refine iteD (fun c586 => ?_) (fun c586 => ?_)
              · have hw := cW_pos c586 hw
                obtain ⟨g587, hw⟩ := cW_grd hw
                refine ⟨_, rfl, _, _, _, _, rfl, rfl, (SqL.of h464), (atI_map g587), .inl ⟨_, rfl, ?_⟩⟩
                refine ⟨_, _, rfl, rfl, (show (0 : Int) < 901 by decide), _, _, rfl, rfl, ?_⟩
                have hw := cW_bnd hw
                have hw := cW_ok hw
                have hw := hK585 _ hw
                exact ⟨((((itD (v458) (2)) % 901) - 300)), _, rfl, (Same.refl _), (S466.sub (all_cons (.head _) all_nil)), h464, hw⟩
              · have hw := cW_neg c586 hw
                have hw := cW_ok hw
                have hw := hK585 _ hw
                exact ⟨((if (255 - (if 7 < (if 0 > ((itD (v458) (5)) - 1) then 0 else ((itD (v458) (5)) - 1)) then 7 else (if 0 > ((itD (v458) (5)) - 1) then 0 else ((itD (v458) (5)) - 1)))) < (itD (v458) (4)) then (255 - (if 7 < (if 0 > ((itD (v458) (5)) - 1) then 0 else ((itD (v458) (5)) - 1)) then 7 else (if 0 > ((itD (v458) (5)) - 1) then 0 else ((itD (v458) (5)) - 1)))) else (itD (v458) (4)))), _, rfl, (Same.refl _), (S466.sub (all_cons (.head _) all_nil)), h464, hw⟩
            · intro σ H589 hw
              obtain ⟨base_583, G592, rfl, eG593, S590, h591, hw⟩ := hw
              unfold F__law_symbol_k2 at hw
              obtain ⟨g594, hw⟩ := cW_grd hw
              refine ⟨_, rfl, _, rfl, _, rfl, _, _, _, _, rfl, rfl, (SqL.of h591), (atI_map g594), .inl ⟨_, rfl, ?_⟩⟩
              obtain ⟨g595, hw⟩ := cW_grd hw
              refine ⟨_, rfl, _, _, rfl, rfl, _, _, rfl, rfl, g595, (by show 3 ≤ sizeLine; decide), fun p596 n597 => ?_⟩
              generalize g598 : upd H589 p596 _ = H599
              obtain ⟨e600, h601⟩ := gen_new n597 g598
              have h602 : H599 p596 = some (.lst (([0, (itD (v458) (5)), ((itD (v458) (2)) % ((itD (v458) (5)) + 1))] : (List Int)).map V.int)) := h601
              have fr603 := S590.free n597
              have S604 := S590.new n597 e600 h602 fr603
              obtain ⟨g605, hw⟩ := cW_grd hw
              have h606 := (e600 _ _ h591)
              refine ⟨_, rfl, _, _, _, _, rfl, rfl, (SqL.of h606), (atI_map g605), .inl ⟨_, rfl, ?_⟩⟩
              obtain ⟨g607, hw⟩ := cW_grd hw
              refine ⟨_, _, rfl, rfl, (show (0 : Int) < 3 by decide), _, _, _, _, rfl, rfl, (SqL.of h602), (atI_map g607), _, rfl, (by show 4 ≤ sizeLine; decide), fun p608 n609 => ?_⟩
              generalize g610 : upd H599 p608 _ = H611
              obtain ⟨e612, h613⟩ := gen_new n609 g610
              have h614 : H611 p608 = some (.tup [V.int (2), V.int (base_583), V.int ((itD ([0, (itD (v458) (5)), ((itD (v458) (2)) % ((itD (v458) (5)) + 1))]) (((itD (v458) (1)) % 3)))), V.int ((itD (v458) (5)))]) := h613
              have fr615 := S604.free n609
              obtain ⟨G617, eG618, hg619, S616⟩ := S604.grow n609 e612 h614 fr615
              have hw := cW_ok hw
              exact hK0 _ hw _ _ _ S616.b0 S616.g0 S616.sG S616.gn (rp_mk4 hg619 (.int _) (.int _) (.int _) (.int _))
          · have hw := cW_neg c574 hw
            obtain ⟨g620, hw⟩ := cW_grd hw
            refine ⟨_, rfl, _, _, _, _, rfl, rfl, (SqL.of h464), (atI_map g620), .inl ⟨_, rfl, ?_⟩⟩
            obtain ⟨g621, hw⟩ := cW_grd hw
            refine ⟨_, _, rfl, rfl, (show (0 : Int) < 241 by decide), _, rfl, _, _, _, _, rfl, rfl, (SqL.of h464), (atI_map g621), .inl ⟨_, rfl, ?_⟩⟩
            refine ⟨_, _, rfl, rfl, (show (0 : Int) < 241 by decide), (by show 6 ≤ sizeLine; decide), fun p622 n623 => ?_⟩
            generalize g624 : upd H459 p622 _ = H625
            obtain ⟨e626, h627⟩ := gen_new n623 g624
            have h628 : H625 p622 = some (.lst (([0, 240, 25, 41, ((itD (v458) (4)) % 241), ((itD (v458) (4)) % 241)] : (List Int)).map V.int)) := h627
            have fr629 := S466.free n623
            have S630 := S466.new n623 e626 h628 fr629
            obtain ⟨g631, hw⟩ := cW_grd hw
            have h632 := (e626 _ _ h464)
            obtain ⟨g633, hw⟩ := cW_grd hw
            refine ⟨_, rfl, _, _, _, _, rfl, rfl, (SqL.of h632), (atI_map g631), _, _, _, _, rfl, rfl, (SqL.of h628), (atI_map g633), ?_⟩
            have hw := cW_bnd hw
            obtain ⟨g635, hw⟩ := cW_grd hw
            refine ⟨_, _, rfl, rfl, ⟨by decide, by decide, by decide⟩, _, _, rfl, rfl, ⟨by decide, by decide, by decide⟩, _, _, rfl, rfl, _, rfl, _, _, _, _, rfl, rfl, (SqL.of h632), (atI_map g635), .inl ⟨_, rfl, ?_⟩⟩
            obtain ⟨g636, hw⟩ := cW_grd hw
            refine ⟨_, _, rfl, rfl, (show (0 : Int) < 40 by decide), _, rfl, _, _, _, _, rfl, rfl, (SqL.of h632), (atI_map g636), .inl ⟨_, rfl, ?_⟩⟩
            obtain ⟨g637, hw⟩ := cW_grd hw
            refine ⟨_, _, rfl, rfl, (show (0 : Int) < 1000 by decide), _, rfl, _, _, _, _, rfl, rfl, (SqL.of h632), (atI_map g637), (by show 6 ≤ sizeLine; decide), fun p638 n639 => ?_⟩
            generalize g640 : upd H625 p638 _ = H641
            obtain ⟨e642, h643⟩ := gen_new n639 g640
            have h644 : H641 p638 = some (.lst (([0, 1048576, (1048576 - 1), ((itD (v458) (2)) % 40), ((itD (v458) (2)) % 1000), (itD (v458) (2))] : (List Int)).map V.int)) := h643
            have fr645 := S630.free n639
            have S646 := S630.new n639 e642 h644 fr645
            obtain ⟨g647, hw⟩ := cW_grd hw
            have h648 := (e642 _ _ h632)
            obtain ⟨g649, hw⟩ := cW_grd hw
            refine ⟨_, rfl, _, _, _, _, rfl, rfl, (SqL.of h648), (atI_map g647), _, _, _, _, rfl, rfl, (SqL.of h644), (atI_map g649), ?_⟩
            have hw := cW_bnd hw
            refine ⟨fun σ H' => ∃ (value_654 : Int) (G' : Hp), σ = [some (V.int (cell')), some (V.ref p461), some (V.int ((itD (v458) (0)))), none, none, some (V.int ((itD ([0, 240, 25, 41, ((itD (v458) (4)) % 241), ((itD (v458) (4)) % 241)]) ((itD (v458) (3)))))), none, some (V.int value_654)] ∧ Same G G' ∧ Sep [] H G G' H' [p461] ∧ H' p461 = some (.lst ((v458 : (List Int)).map V.int)) ∧ cW (F__law_symbol_k3 ((itD (v458) (0))) ((itD ([0, 240, 25, 41, ((itD (v458) (4)) % 241), ((itD (v458) (4)) % 241)]) ((itD (v458) (3))))) value_654) KK EE, ?_, ?_⟩
            · obtain ⟨K655, hK656, hw⟩ := cW_push hw
              refine ⟨_, rfl, _, _, rfl, rfl, _, rfl, ?_⟩
              refine iteD (fun c657 => ?_) (fun c657 => ?_)
              · have hw := cW_pos c657 hw
                obtain ⟨g658, hw⟩ := cW_grd hw
                refine ⟨_, rfl, _, _, _, _, rfl, rfl, (SqL.of h648), (atI_map g658), _, _, rfl, rfl, _, rfl, ?_⟩
                refine iteD (fun c659 => ?_) (fun c659 => ?_)
                · have hw := cW_pos c659 hw
                  refine ⟨_, rfl, _, rfl, ?_⟩
                  have hw := cW_bnd hw
                  have hw := cW_ok hw
                  have hw := hK656 _ hw
                  exact ⟨((-(itD ([0, 1048576, (1048576 - 1), ((itD (v458) (2)) % 40), ((itD (v458) (2)) % 1000), (itD (v458) (2))]) ((itD (v458) (1)))))), _, rfl, (Same.refl _), (S646.sub (all_cons (.tail _ (.tail _ (.head _))) all_nil)), h648, hw⟩
                · have hw := cW_neg c659 hw
                  have hw := cW_ok hw
                  have hw := hK656 _ hw
                  exact ⟨((itD ([0, 1048576, (1048576 - 1), ((itD (v458) (2)) % 40), ((itD (v458) (2)) % 1000), (itD (v458) (2))]) ((itD (v458) (1))))), _, rfl, (Same.refl _), (S646.sub (all_cons (.tail _ (.tail _ (.head _))) all_nil)), h648, hw⟩
              · have hw := cW_neg c657 hw
                refine iteF ?_
                have hw := cW_ok hw
                have hw := hK656 _ hw
                exact ⟨((itD ([0, 1048576, (1048576 - 1), ((itD (v458) (2)) % 40), ((itD (v458) (2)) % 1000), (itD (v458) (2))]) ((itD (v458) (1))))), _, rfl, (Same.refl _), (S646.sub (all_cons (.tail _ (.tail _ (.head _))) all_nil)), h648, hw⟩
            · intro σ H661 hw
              obtain ⟨value_654, G664, rfl, eG665, S662, h663, hw⟩ := hw
              unfold F__law_symbol_k3 at hw
              refine ⟨_, rfl, _, rfl, _, rfl, (by show 4 ≤ sizeLine; decide), fun p666 n667 => ?_⟩
              generalize g668 : upd H661 p666 _ = H669
              obtain ⟨e670, h671⟩ := gen_new n667 g668
              have h672 : H669 p666 = some (.tup [V.int ((itD (v458) (0))), V.int ((itD ([0, 240, 25, 41, ((itD (v458) (4)) % 241), ((itD (v458) (4)) % 241)]) ((itD (v458) (3))))), V.int (value_654), V.int (0)]) := h671
              have fr673 := S662.free n667
              obtain ⟨G675, eG676, hg677, S674⟩ := S662.grow n667 e670 h672 fr673
              have hw := cW_ok hw
              exact hK0 _ hw _ _ _ S674.b0 S674.g0 S674.sG S674.gn (rp_mk4 hg677 (.int _) (.int _) (.int _) (.int _))

abbrev N__check_contexts : List Str := ["base", "count"]
theorem sc__check_contexts : FnScope N__check_contexts ["base", "count"] (defScope s__check_contexts) := ⟨rfl, rfl, rfl, by decide +kernel, rfl, by decide +kernel, by decide +kernel⟩
theorem ok__check_contexts (D : DefX K mg "_check_contexts" s__check_contexts ["base", "count"] pats__check_contexts) (T : Txt K mg AD)  : CalX P w K mg base 1 "_check_contexts" (sp__check_contexts K AD) pats__check_contexts := by
  refine D.ok sc__check_contexts (fun vs H Q E h => ?_) (fun f cdv A_ outer s H vs Q E hr h => ?_)
  · obtain ⟨G, base', count', rfl, _⟩ := h
    rfl
  · obtain ⟨G, base', count', rfl, sG, hw⟩ := h
    refine ⟨_, (pss_one (ps_if (PW.pt (pw_and (pt_cmp (pc_gt (pv 1) pe_int)) (pw_and1 (pt_not (pt_chain op_le op_le pe_int (pv 0) (pe_op op_sub (C8.pe_gc rfl T.g_CONTEXTS_symbols) (pv 1))))))) (pss_one (ps_raise rfl (takes_of rfl rfl rfl rfl) (pmk_own PySem.F.excBase_ValueError T.xx_OutOfRange T.xg_OutOfRange T.xk_OutOfRange (raises_own T.xb_OutOfRange T.xt_OutOfRange) rfl))) pss_nil)), ?_⟩
    obtain ⟨KK, EE, hK0, hE, hw⟩ := cW_gen hw
    have S0 := Sep.startG sG
    unfold F__check_contexts at hw
    refine ⟨_, rfl, _, _, rfl, rfl, _, rfl, ?_⟩
    refine iteD (fun c678 => ?_) (fun c678 => ?_)
    · have hw := cW_pos c678 hw
      refine ⟨_, rfl, _, _, rfl, rfl, _, rfl, ?_⟩
      refine iteD (fun c679 => ?_) (fun c679 => ?_)
      · have hw := cW_pos c679 hw
        refine ⟨_, rfl, _, _, rfl, rfl, _, _, rfl, rfl, _, rfl, ?_⟩
        refine iteN (fun c680 => ?_) (fun c680 => ?_)
        · have hw := cW_neg c680 hw
          exact hE 1 (cW_er hw)
        · have hw := cW_pos c680 hw
          have hw := cW_ok hw
          exact hK0 _ hw
      · have hw := cW_neg c679 hw
        refine ⟨_, rfl, ?_⟩
        refine iteT ?_
        exact hE 1 (cW_er hw)
    · have hw := cW_neg c678 hw
      refine iteF ?_
      have hw := cW_ok hw
      exact hK0 _ hw

abbrev N__check_context : List Str := ["context"]
theorem sc__check_context : FnScope N__check_context ["context"] (defScope s__check_context) := ⟨rfl, rfl, rfl, by decide +kernel, rfl, by decide +kernel, by decide +kernel⟩
theorem ok__check_context (D : DefX K mg "_check_context" s__check_context ["context"] pats__check_context) (T : Txt K mg AD)  : CalX P w K mg base 1 "_check_context" (sp__check_context K AD) pats__check_context := by
  refine D.ok sc__check_context (fun vs H Q E h => ?_) (fun f cdv A_ outer s H vs Q E hr h => ?_)
  · obtain ⟨G, context', rfl, _⟩ := h
    rfl
  · obtain ⟨G, context', rfl, sG, hw⟩ := h
    refine ⟨_, (pss_one (ps_if (pt_not (pt_chain op_le op_lt pe_int (pv 0) (C8.pe_gc rfl T.g_CONTEXTS_coder))) (pss_one (ps_raise rfl (takes_of rfl rfl rfl rfl) (pmk_own PySem.F.excBase_ValueError T.xx_OutOfRange T.xg_OutOfRange T.xk_OutOfRange (raises_own T.xb_OutOfRange T.xt_OutOfRange) rfl))) pss_nil)), ?_⟩
    obtain ⟨KK, EE, hK0, hE, hw⟩ := cW_gen hw
    have S0 := Sep.startG sG
    unfold F__check_context at hw
    refine ⟨_, rfl, _, _, rfl, rfl, _, rfl, ?_⟩
    refine iteD (fun c681 => ?_) (fun c681 => ?_)
    · have hw := cW_pos c681 hw
      refine ⟨_, _, rfl, rfl, _, rfl, ?_⟩
      refine iteN (fun c682 => ?_) (fun c682 => ?_)
      · have hw := cW_neg c682 hw
        exact hE 1 (cW_er hw)
      · have hw := cW_pos c682 hw
        have hw := cW_ok hw
        exact hK0 _ hw
    · have hw := cW_neg c681 hw
      refine ⟨_, rfl, ?_⟩
      refine iteT ?_
      exact hE 1 (cW_er hw)

abbrev N__check_decision : List Str := ["decision"]
theorem sc__check_decision : FnScope N__check_decision ["decision"] (defScope s__check_decision) := ⟨rfl, rfl, rfl, by decide +kernel, rfl, by decide +kernel, by decide +kernel⟩
theorem ok__check_decision (D : DefX K mg "_check_decision" s__check_decision ["decision"] pats__check_decision) (T : Txt K mg AD)  : CalX P w K mg base 1 "_check_decision" (sp__check_decision K AD) pats__check_decision := by
  refine D.ok sc__check_decision (fun vs H Q E h => ?_) (fun f cdv A_ outer s H vs Q E hr h => ?_)
  · obtain ⟨G, decision', rfl, _⟩ := h
    rfl
  · obtain ⟨G, decision', rfl, sG, hw⟩ := h
    refine ⟨_, (pss_one (ps_if (pt_not (pt_chain op_le op_le pe_int (pv 0) pe_int)) (pss_one (ps_raise rfl (takes_of rfl rfl rfl rfl) (pmk_own PySem.F.excBase_ValueError T.xx_OutOfRange T.xg_OutOfRange T.xk_OutOfRange (raises_own T.xb_OutOfRange T.xt_OutOfRange) rfl))) pss_nil)), ?_⟩
    obtain ⟨KK, EE, hK0, hE, hw⟩ := cW_gen hw
    have S0 := Sep.startG sG
    unfold F__check_decision at hw
    refine ⟨_, rfl, _, _, rfl, rfl, _, rfl, ?_⟩
    refine iteD (fun c683 => ?_) (fun c683 => ?_)
    · have hw := cW_pos c683 hw
      refine ⟨_, _, rfl, rfl, _, rfl, ?_⟩
      refine iteN (fun c684 => ?_) (fun c684 => ?_)
      · have hw := cW_neg c684 hw
        exact hE 1 (cW_er hw)
      · have hw := cW_pos c684 hw
        have hw := cW_ok hw
        exact hK0 _ hw
    · have hw := cW_neg c683 hw
      refine ⟨_, rfl, ?_⟩
      refine iteT ?_
      exact hE 1 (cW_er hw)

abbrev N__adapted : List Str := ["chance", "decision"]
theorem sc__adapted : FnScope N__adapted ["chance", "decision"] (defScope s__adapted) := ⟨rfl, rfl, rfl, by decide +kernel, rfl, by decide +kernel, by decide +kernel⟩
theorem ok__adapted (D : DefX K mg "_adapted" s__adapted ["chance", "decision"] pats__adapted) (T : Txt K mg AD)  : CalX P w K mg base 1 "_adapted" (sp__adapted K AD) pats__adapted := by
  refine D.ok sc__adapted (fun vs H Q E h => ?_) (fun f cdv A_ outer s H vs Q E hr h => ?_)
  · obtain ⟨G, chance', decision', rfl, _⟩ := h
    rfl
  · obtain ⟨G, chance', decision', rfl, sG, hw⟩ := h
    refine ⟨_, (pss_cons (ps_if (pt_cmp (pc_eqI (pv 1) pe_int)) (pss_one (ps_ret (pe_op op_add (pv 0) (pe_op op_shr (pe_op op_sub (C8.pe_gc rfl T.g_SCALE) (pv 0)) (C8.pe_gc rfl T.g_RATE))))) pss_nil)
      (pss_one (ps_ret (pe_op op_sub (pv 0) (pe_op op_shr (pv 0) (C8.pe_gc rfl T.g_RATE)))))), ?_⟩
    obtain ⟨KK, EE, hK0, hE, hw⟩ := cW_gen hw
    have S0 := Sep.startG sG
    unfold F__adapted at hw
    refine ⟨_, rfl, _, _, rfl, rfl, _, rfl, ?_⟩
    refine iteD (fun c685 => ?_) (fun c685 => ?_)
    · have hw := cW_pos c685 hw
      refine ⟨_, rfl, _, rfl, _, _, rfl, rfl, _, _, rfl, rfl, (show (0 : Int) ≤ 5 by decide), _, _, rfl, rfl, ?_⟩
      have hw := cW_ok hw
      exact hK0 _ hw
    · have hw := cW_neg c685 hw
      refine ⟨_, rfl, _, rfl, _, _, rfl, rfl, (show (0 : Int) ≤ 5 by decide), _, _, rfl, rfl, ?_⟩
      have hw := cW_ok hw
      exact hK0 _ hw

abbrev N_Encoder__carry : List Str := ["self", "place"]
theorem sc_Encoder__carry : FnScope N_Encoder__carry ["self"] (defScope s_Encoder__carry) := ⟨rfl, rfl, rfl, by decide +kernel, rfl, by decide +kernel, by decide +kernel⟩
theorem ok_Encoder__carry (D : MethX K AD.c_Encoder "Encoder._carry" "_carry" s_Encoder__carry ["self"] pats_Encoder__carry) (T : Txt K mg AD)  : MetX P w K mg base 1 AD.c_Encoder "_carry" (sp_Encoder__carry K AD) pats_Encoder__carry := by
  refine D.ok T.cl_Encoder sc_Encoder__carry (fun vs H Q E h => ?_) (fun f cdv A_ outer s H vs Q E hr h => ?_)
  · obtain ⟨G, p_self, l_self_probs, l_self_front, dx_self, self', rfl, _⟩ := h
    rfl
  · obtain ⟨G, p_self, l_self_probs, l_self_front, dx_self, self', rfl, sG, gM, h_p_self, h_l_self_probs, h_l_self_front, ne_self_0, hw⟩ := h
    refine ⟨_, (pss_cons (ps_set (i := 1) sc_Encoder__carry.nd rfl (Or.inl rfl) (pe_op op_sub (pe_callB (call_lenLiK (K := K)) (by rfl) T.b_len (by decide +kernel) (pa_cons (fldK (K := K) (pv 0)) pa_nil)) pe_int))
      (pss_cons (ps_while (passes_of rfl) (pt_cmp (pc_eqI (pe_ix (ix_listK (K := K)) (fldK (K := K) (pv 0)) (pv 1) (fun _ _ => rfl)) pe_int)) (pss_cons (ps_asg pe_int (pg_sub (fldK (K := K) (pv 0)) (pv 1) set_list))
      (pss_one (ps_aug (i := 1) sc_Encoder__carry.nd rfl (Or.inl rfl) pe_int (pip iop_sub)))))
      (pss_one (ps_augS (fldK (K := K) (pv 0)) (pv 1) (pget_list (K := K)) pe_int (pip iop_add) set_list)))), ?_⟩
    obtain ⟨KK, EE, hK0, hE, hw⟩ := cW_gen hw
    have S0 := Sep.startM (M := [p_self, l_self_probs, l_self_front]) sG (all_cons (some_ne h_p_self) (all_cons (some_ne h_l_self_probs) (all_cons (some_ne h_l_self_front) all_nil))) gM
    unfold F_Encoder__carry at hw
    refine ⟨_, rfl, _, _, _, _, _, rfl, h_p_self, T.cl_Encoder, T.n_Encoder__front, rfl, _, _, rfl, (SqL.of h_l_self_front), _, _, rfl, rfl, ?_⟩
    have hw := cW_bnd hw
    obtain ⟨K687, hK688, hw⟩ := cW_push hw
    refine ⟨fun m σ H' => ∃ (self_689 : St_Encoder) (place_690 : Int) (G' : Hp), σ = [some (V.ref p_self), some (V.int place_690)] ∧ Same G G' ∧ Sep [p_self, l_self_probs, l_self_front] H G G' H' [p_self, l_self_probs, l_self_front] ∧ H' p_self = some (.ins AD.c_Encoder dx_self [("_probabilities", V.ref l_self_probs), ("_front", V.ref l_self_front), ("_low", V.int (self_689.low)), ("_span", V.int (self_689.span))]) ∧ H' l_self_probs = some (.lst ((self_689.probs : (List Int)).map V.int)) ∧ H' l_self_front = some (.lst ((self_689.front : (List Int)).map V.int)) ∧ cW (whileR m (self_689, place_690) (fun s => F_Encoder__carry_b1  (s.1) (s.2))) K687 EE, ?_, ?_⟩
    · exact ⟨_, ⟨(self'), (((((self'.front) : (List Int)).length : Int) - 1)), _, rfl, (Same.refl _), S0, h_p_self, h_l_self_probs, h_l_self_front, hw⟩⟩
    · intro m σ H691 hw
      obtain ⟨self_689, place_690, G696, rfl, eG697, S692, h693, h694, h695, hw⟩ := hw
      obtain ⟨m698, rfl, hw2⟩ := cW_whileR hw
      have hw := hw2
      have hw : cW (F_Encoder__carry_b1  (self_689) (place_690)) _ EE := hw
      unfold F_Encoder__carry_b1 at hw
      obtain ⟨K701, hK702, hw⟩ := cW_name hw
      obtain ⟨g703, hw⟩ := cW_grd hw
      refine ⟨_, rfl, _, _, _, _, _, rfl, h693, T.cl_Encoder, T.n_Encoder__front, rfl, _, rfl, _, _, _, _, rfl, rfl, (SqL.of h695), (atI_map g703), _, _, rfl, rfl, _, rfl, ?_⟩
      refine iteD (fun c704 => ?_) (fun c704 => ?_)
      · have hw := cW_pos c704 hw
        refine ⟨(fun σ H' => ∃ m, (∃ (self_689 : St_Encoder) (place_690 : Int) (G' : Hp), σ = [some (V.ref p_self), some (V.int place_690)] ∧ Same G G' ∧ Sep [p_self, l_self_probs, l_self_front] H G G' H' [p_self, l_self_probs, l_self_front] ∧ H' p_self = some (.ins AD.c_Encoder dx_self [("_probabilities", V.ref l_self_probs), ("_front", V.ref l_self_front), ("_low", V.int (self_689.low)), ("_span", V.int (self_689.span))]) ∧ H' l_self_probs = some (.lst ((self_689.probs : (List Int)).map V.int)) ∧ H' l_self_front = some (.lst ((self_689.front : (List Int)).map V.int)) ∧ cW (whileR m (self_689, place_690) (fun s => F_Encoder__carry_b1  (s.1) (s.2))) K687 EE) ∧ m < m698 + 1), (fun _ _ ⟨m', a, b⟩ => ⟨m', b, a⟩), ?_⟩
        obtain ⟨g705, hw⟩ := cW_grd hw
        refine ⟨_, rfl, _, _, _, _, _, rfl, h693, T.cl_Encoder, T.n_Encoder__front, rfl, _, rfl, _, _, _, _, rfl, rfl, h695, (ixN_map g705), ?_⟩
        generalize g706 : upd H691 l_self_front _ = H707
        obtain ⟨x708, h709⟩ := gen_mut g706
        have h710 : H707 l_self_front = some (.lst ((setL (self_689.front) (place_690) (0) : (List Int)).map V.int)) := set_map h709
        have S711 := S692.mut1 x708 (.tail _ (.tail _ (.head _))) h710
        have hw := cW_bnd hw
        refine ⟨_, rfl, _, _, rfl, rfl, ?_⟩
        have hw := cW_bnd hw
        have hw := cW_ok hw
        have hw := hK702 _ hw
        have h714 := (x708 _ _ h693 (ne_of h693 h695 (fun z => nomatch z)))
        have h715 := (x708 _ _ h694 ne_self_0)
        exact ⟨m698, ⟨((⟨self_689.probs, setL (self_689.front) (place_690) (0), self_689.low, self_689.span⟩ : St_Encoder)), ((place_690 - 1)), _, rfl, eG697, S711, h714, h715, h710, hw⟩, Nat.lt_succ_self _⟩
      · have hw := cW_neg c704 hw
        have hw := cW_ok hw
        have hw := hK702 _ hw
        have hw := cW_aftgo (hK688 (.go _) hw)
        have hw : cW (F_Encoder__carry_r1  (self_689) (place_690)) _ EE := hw
        unfold F_Encoder__carry_r1 at hw
        obtain ⟨g718, hw⟩ := cW_grd hw
        obtain ⟨g719, hw⟩ := cW_grd hw
        refine ⟨_, rfl, _, _, _, _, _, rfl, h693, T.cl_Encoder, T.n_Encoder__front, rfl, _, rfl, _, _, _, _, rfl, rfl, (SqL.of h695), g718.1, g718.2.1, (atI_map (ix_nn g718.1 g718.2.2)), _, _, rfl, rfl, _, _, _, _, rfl, rfl, h695, (ixN_map g719), ?_⟩
        generalize g720 : upd H691 l_self_front _ = H721
        obtain ⟨x722, h723⟩ := gen_mut g720
        have h724 : H721 l_self_front = some (.lst ((setL (self_689.front) (place_690) (((itD (self_689.front) (place_690)) + 1)) : (List Int)).map V.int)) := set_map h723
        have S725 := S692.mut1 x722 (.tail _ (.tail _ (.head _))) h724
        have hw := cW_bnd hw
        have h727 := (x722 _ _ h693 (ne_of h693 h695 (fun z => nomatch z)))
        have h728 := (x722 _ _ h694 ne_self_0)
        have hw := cW_ok hw
        exact hK0 _ hw _ S725.base h727 h728 h724

abbrev N_Encoder__narrow : List Str := ["self", "chance", "decision", "part"]
theorem sc_Encoder__narrow : FnScope N_Encoder__narrow ["self", "chance", "decision"] (defScope s_Encoder__narrow) := ⟨rfl, rfl, rfl, by decide +kernel, rfl, by decide +kernel, by decide +kernel⟩
theorem ok_Encoder__narrow (D : MethX K AD.c_Encoder "Encoder._narrow" "_narrow" s_Encoder__narrow ["self", "chance", "decision"] pats_Encoder__narrow) (T : Txt K mg AD) (c_Encoder__carry : MetX P w K mg base 1 AD.c_Encoder "_carry" (sp_Encoder__carry K AD) pats_Encoder__carry) : MetX P w K mg base 2 AD.c_Encoder "_narrow" (sp_Encoder__narrow K AD) pats_Encoder__narrow := by
  refine D.ok T.cl_Encoder sc_Encoder__narrow (fun vs H Q E h => ?_) (fun f cdv A_ outer s H vs Q E hr h => ?_)
  · obtain ⟨G, p_self, l_self_probs, l_self_front, dx_self, self', chance', decision', rfl, _⟩ := h
    rfl
  · obtain ⟨G, p_self, l_self_probs, l_self_front, dx_self, self', chance', decision', rfl, sG, gM, h_p_self, h_l_self_probs, h_l_self_front, ne_self_0, hw⟩ := h
    refine ⟨_, (pss_cons (ps_set (i := 3) sc_Encoder__narrow.nd rfl (Or.inl rfl) (pe_op op_mul (pe_op op_shr (fldK (K := K) (pv 0)) (C8.pe_gc rfl T.g_SCALE_BITS)) (pv 1)))
      (C8.pss_cut (ps_if (pt_cmp (pc_eqI (pv 2) pe_int)) (pss_one (ps_fld (pv 0) (pv 3) rfl)) (pss_cons (ps_fldaug (pv 0) (pv 3) (pip iop_sub))
      (pss_cons (ps_fldaug (pv 0) (pv 3) (pip iop_add))
      (pss_one (ps_if (pt_cmp (pc_ge (fldK (K := K) (pv 0)) (C8.pe_gc rfl T.g_WORD))) (pss_cons (ps_fldaug (pv 0) (C8.pe_gc rfl T.g_WORD) (pip iop_sub))
      (pss_one (ps_expr (vx_methX0 c_Encoder__carry pat_Encoder__carry_0 (.head _) hr (by decide) (takes_of rfl rfl rfl rfl) (pv 0))))) pss_nil)))))
      (pss_one (ps_while (passes_of rfl) (pt_cmp (pc_lt (fldK (K := K) (pv 0)) (C8.pe_gc rfl T.g_LEAST_SPAN))) (pss_cons (ps_expr (pe_bm PySem.F.plainAttrs_list PySem.F.slot_list_append PySem.F.type_list_append mt_append (fldK (K := K) (pv 0)) (pa_cons (pe_op op_shr (fldK (K := K) (pv 0)) pe_int) pa_nil)))
      (pss_cons (ps_fld (pv 0) (pe_op op_and (pe_op op_shlW (fldK (K := K) (pv 0)) pe_int) (pe_op op_sub (C8.pe_gc rfl T.g_WORD) pe_int)) rfl)
      (pss_one (ps_fldaug (pv 0) pe_int (pip iop_shlW))))))))), ?_⟩
    obtain ⟨KK, EE, hK0, hE, hw⟩ := cW_gen hw
    have S0 := Sep.startM (M := [p_self, l_self_probs, l_self_front]) sG (all_cons (some_ne h_p_self) (all_cons (some_ne h_l_self_probs) (all_cons (some_ne h_l_self_front) all_nil))) gM
    unfold F_Encoder__narrow at hw
    obtain ⟨g729, hw⟩ := cW_grd hw
    refine ⟨_, rfl, _, _, _, _, _, rfl, h_p_self, T.cl_Encoder, T.n_Encoder__span, rfl, _, _, rfl, rfl, (show (0 : Int) ≤ 12 by decide), _, rfl, _, _, rfl, rfl, g729, ?_⟩
    have hw := cW_bnd hw
    refine ⟨fun σ H' => ∃ (self_732 : St_Encoder) (G' : Hp), σ = [some (V.ref p_self), some (V.int (chance')), some (V.int (decision')), some (V.int (((self'.span / 4096) * chance')))] ∧ Same G G' ∧ Sep [p_self, l_self_probs, l_self_front] H G G' H' [p_self, l_self_probs, l_self_front] ∧ H' p_self = some (.ins AD.c_Encoder dx_self [("_probabilities", V.ref l_self_probs), ("_front", V.ref l_self_front), ("_low", V.int (self_732.low)), ("_span", V.int (self_732.span))]) ∧ H' l_self_probs = some (.lst ((self_732.probs : (List Int)).map V.int)) ∧ H' l_self_front = some (.lst ((self_732.front : (List Int)).map V.int)) ∧ cW (F_Encoder__narrow_k1  self_732) KK EE, ?_, ?_⟩
    · obtain ⟨K733, hK734, hw⟩ := cW_push hw
      refine ⟨_, rfl, _, _, rfl, rfl, _, rfl, ?_⟩
      refine iteD (fun c735 => ?_) (fun c735 => ?_)
      · have hw := cW_pos c735 hw
        refine ⟨_, rfl, _, rfl, _, _, _, _, rfl, h_p_self, T.cl_Encoder, T.n_Encoder__span, (by show 4 < 1000; decide), ?_⟩
        generalize g736 : upd H p_self _ = H737
        obtain ⟨x738, h739⟩ := gen_mut g736
        have h740 : H737 p_self = some (.ins AD.c_Encoder dx_self [("_probabilities", V.ref l_self_probs), ("_front", V.ref l_self_front), ("_low", V.int (self'.low)), ("_span", V.int (((self'.span / 4096) * chance')))]) := h739
        have S741 := S0.mut1 x738 (.head _) h740
        have hw := cW_ok hw
        have hw := hK734 _ hw
        have h742 := (x738 _ _ h_l_self_probs (ne_of h_l_self_probs h_p_self (fun z => nomatch z)))
        have h743 := (x738 _ _ h_l_self_front (ne_of h_l_self_front h_p_self (fun z => nomatch z)))
        exact ⟨((⟨self'.probs, self'.front, self'.low, ((self'.span / 4096) * chance')⟩ : St_Encoder)), _, rfl, (Same.refl _), S741, h740, h742, h743, hw⟩
      · have hw := cW_neg c735 hw
        have hw := cW_bnd hw
        refine ⟨_, rfl, _, _, _, _, _, rfl, h_p_self, T.cl_Encoder, T.n_Encoder__span, rfl, _, rfl, _, _, rfl, rfl, _, _, h_p_self, (by show 4 < 1000; decide), ?_⟩
        generalize g745 : upd H p_self _ = H746
        obtain ⟨x747, h748⟩ := gen_mut g745
        have h749 : H746 p_self = some (.ins AD.c_Encoder dx_self [("_probabilities", V.ref l_self_probs), ("_front", V.ref l_self_front), ("_low", V.int (self'.low)), ("_span", V.int ((self'.span - ((self'.span / 4096) * chance'))))]) := h748
        have S750 := S0.mut1 x747 (.head _) h749
        have hw := cW_bnd hw
        refine ⟨_, rfl, _, _, _, _, _, rfl, h749, T.cl_Encoder, T.n_Encoder__low, rfl, _, rfl, _, _, rfl, rfl, _, _, h749, (by show 4 < 1000; decide), ?_⟩
        generalize g752 : upd H746 p_self _ = H753
        obtain ⟨x754, h755⟩ := gen_mut g752
        have h756 : H753 p_self = some (.ins AD.c_Encoder dx_self [("_probabilities", V.ref l_self_probs), ("_front", V.ref l_self_front), ("_low", V.int ((self'.low + ((self'.span / 4096) * chance')))), ("_span", V.int ((self'.span - ((self'.span / 4096) * chance'))))]) := h755
        have S757 := S750.mut1 x754 (.head _) h756
        refine ⟨_, rfl, _, _, _, _, _, rfl, h756, T.cl_Encoder, T.n_Encoder__low, rfl, _, _, rfl, rfl, _, rfl, ?_⟩
        refine iteD (fun c758 => ?_) (fun c758 => ?_)
        · have hw := cW_pos c758 hw
          have hw := cW_bnd hw
          refine ⟨_, rfl, _, _, _, _, _, rfl, h756, T.cl_Encoder, T.n_Encoder__low, rfl, _, _, rfl, rfl, _, _, h756, (by show 4 < 1000; decide), ?_⟩
          generalize g760 : upd H753 p_self _ = H761
          obtain ⟨x762, h763⟩ := gen_mut g760
          have h764 : H761 p_self = some (.ins AD.c_Encoder dx_self [("_probabilities", V.ref l_self_probs), ("_front", V.ref l_self_front), ("_low", V.int (((self'.low + ((self'.span / 4096) * chance')) - 4294967296))), ("_span", V.int ((self'.span - ((self'.span / 4096) * chance'))))]) := h763
          have S765 := S757.mut1 x762 (.head _) h764
          have h766 := (x762 _ _ (x754 _ _ (x747 _ _ h_l_self_probs (ne_of h_l_self_probs h_p_self (fun z => nomatch z))) (ne_of h_l_self_probs h_p_self (fun z => nomatch z))) (ne_of h_l_self_probs h_p_self (fun z => nomatch z)))
          have h767 := (x762 _ _ (x754 _ _ (x747 _ _ h_l_self_front (ne_of h_l_self_front h_p_self (fun z => nomatch z))) (ne_of h_l_self_front h_p_self (fun z => nomatch z))) (ne_of h_l_self_front h_p_self (fun z => nomatch z)))
          refine ⟨_, rfl, _, _, _, rfl, h764, rfl, rfl, rfl, G, _, _, _, _, (⟨self'.probs, self'.front, ((self'.low + ((self'.span / 4096) * chance')) - 4294967296), (self'.span - ((self'.span / 4096) * chance'))⟩ : St_Encoder), rfl, S765.sG, (S765.gno (all_cons (.head _) (all_cons (.tail _ (.head _)) (all_cons (.tail _ (.tail _ (.head _))) all_nil)))), h764, h766, h767, ne_self_0, cW_callN hw (fun v768 hw H769 x770 h772 h773 h774  => ?_) trivial⟩
          have S771 := S765.mut x770 (all_cons (.head _) (all_cons (.tail _ (.head _)) (all_cons (.tail _ (.tail _ (.head _))) all_nil))) (all_cons (some_ne h772) (all_cons (some_ne h773) (all_cons (some_ne h774) all_nil)))
          have hw := cW_ok hw
          have hw := hK734 _ hw
          exact ⟨(v768), _, rfl, (Same.refl _), S771, h772, h773, h774, hw⟩
        · have hw := cW_neg c758 hw
          have hw := cW_ok hw
          have hw := hK734 _ hw
          have h779 := (x754 _ _ (x747 _ _ h_l_self_probs (ne_of h_l_self_probs h_p_self (fun z => nomatch z))) (ne_of h_l_self_probs h_p_self (fun z => nomatch z)))
          have h780 := (x754 _ _ (x747 _ _ h_l_self_front (ne_of h_l_self_front h_p_self (fun z => nomatch z))) (ne_of h_l_self_front h_p_self (fun z => nomatch z)))
          exact ⟨((⟨self'.probs, self'.front, (self'.low + ((self'.span / 4096) * chance')), (self'.span - ((self'.span / 4096) * chance'))⟩ : St_Encoder)), _, rfl, (Same.refl _), S757, h756, h779, h780, hw⟩
    · intro σ H781 hw
      obtain ⟨self_732, G786, rfl, eG787, S782, h783, h784, h785, hw⟩ := hw
      unfold F_Encoder__narrow_k1 at hw
      obtain ⟨K788, hK789, hw⟩ := cW_push hw
      refine ⟨fun m σ H' => ∃ (self_790 : St_Encoder) (G' : Hp), σ = [some (V.ref p_self), some (V.int (chance')), some (V.int (decision')), some (V.int (((self'.span / 4096) * chance')))] ∧ Same G786 G' ∧ Sep [p_self, l_self_probs, l_self_front] H G G' H' [p_self, l_self_probs, l_self_front] ∧ H' p_self = some (.ins AD.c_Encoder dx_self [("_probabilities", V.ref l_self_probs), ("_front", V.ref l_self_front), ("_low", V.int (self_790.low)), ("_span", V.int (self_790.span))]) ∧ H' l_self_probs = some (.lst ((self_790.probs : (List Int)).map V.int)) ∧ H' l_self_front = some (.lst ((self_790.front : (List Int)).map V.int)) ∧ cW (whileR m self_790 (fun s => F_Encoder__narrow_b2  s)) K788 EE, ?_, ?_⟩
      · exact ⟨_, ⟨(self_732), _, rfl, (Same.refl _), S782, h783, h784, h785, hw⟩⟩
      · intro m σ H791 hw
        obtain ⟨self_790, G796, rfl, eG797, S792, h793, h794, h795, hw⟩ := hw
        obtain ⟨m798, rfl, hw2⟩ := cW_whileR hw
        have hw := hw2
        have hw : cW (F_Encoder__narrow_b2  (self_790)) _ EE := hw
        unfold F_Encoder__narrow_b2 at hw
        obtain ⟨K800, hK801, hw⟩ := cW_name hw
        refine ⟨_, rfl, _, _, _, _, _, rfl, h793, T.cl_Encoder, T.n_Encoder__span, rfl, _, _, rfl, rfl, _, rfl, ?_⟩
        refine iteD (fun c802 => ?_) (fun c802 => ?_)
        · have hw := cW_pos c802 hw
          refine ⟨(fun σ H' => ∃ m, (∃ (self_790 : St_Encoder) (G' : Hp), σ = [some (V.ref p_self), some (V.int (chance')), some (V.int (decision')), some (V.int (((self'.span / 4096) * chance')))] ∧ Same G786 G' ∧ Sep [p_self, l_self_probs, l_self_front] H G G' H' [p_self, l_self_probs, l_self_front] ∧ H' p_self = some (.ins AD.c_Encoder dx_self [("_probabilities", V.ref l_self_probs), ("_front", V.ref l_self_front), ("_low", V.int (self_790.low)), ("_span", V.int (self_790.span))]) ∧ H' l_self_probs = some (.lst ((self_790.probs : (List Int)).map V.int)) ∧ H' l_self_front = some (.lst ((self_790.front : (List Int)).map V.int)) ∧ cW (whileR m self_790 (fun s => F_Encoder__narrow_b2  s)) K788 EE) ∧ m < m798 + 1), (fun _ _ ⟨m', a, b⟩ => ⟨m', b, a⟩), ?_⟩
          obtain ⟨g803, hw⟩ := cW_grd hw
          refine ⟨_, rfl, _, _, _, _, _, rfl, h793, T.cl_Encoder, T.n_Encoder__front, rfl, (.inl ⟨rfl, _, SqL.of h795⟩), _, rfl, _, _, _, _, _, rfl, h793, T.cl_Encoder, T.n_Encoder__low, rfl, _, _, rfl, rfl, (show (0 : Int) ≤ 24 by decide), _, _, _, rfl, rfl, h795, (app_lenM g803), ?_⟩
          generalize g804 : upd H791 l_self_front _ = H805
          obtain ⟨x806, h807⟩ := gen_mut g804
          have h808 : H805 l_self_front = some (.lst (((self_790.front) ++ [(self_790.low / 16777216)] : (List Int)).map V.int)) := snoc_map h807
          have S809 := S792.mut1 x806 (.tail _ (.tail _ (.head _))) h808
          have hw := cW_bnd hw
          have h811 := (x806 _ _ h793 (ne_of h793 h795 (fun z => nomatch z)))
          obtain ⟨g812, hw⟩ := cW_grd hw
          have hw := cW_bnd hw
          refine ⟨_, rfl, _, _, _, _, _, rfl, h811, T.cl_Encoder, T.n_Encoder__low, rfl, _, _, rfl, rfl, (shl_side g812.1 g812.2.1 g812.2.2.1 g812.2.2.2), _, _, rfl, rfl, _, _, rfl, rfl, _, rfl, _, _, _, _, rfl, h811, T.cl_Encoder, T.n_Encoder__low, (by show 4 < 1000; decide), ?_⟩
          generalize g814 : upd H805 p_self _ = H815
          obtain ⟨x816, h817⟩ := gen_mut g814
          have h818 : H815 p_self = some (.ins AD.c_Encoder dx_self [("_probabilities", V.ref l_self_probs), ("_front", V.ref l_self_front), ("_low", V.int ((PySem.Builtin.bitAnd ((self_790.low * 2 ^ Int.toNat (8))) ((4294967296 - 1))))), ("_span", V.int (self_790.span))]) := h817
          have S819 := S809.mut1 x816 (.head _) h818
          obtain ⟨g820, hw⟩ := cW_grd hw
          have hw := cW_bnd hw
          refine ⟨_, rfl, _, _, _, _, _, rfl, h818, T.cl_Encoder, T.n_Encoder__span, rfl, _, _, rfl, rfl, (shl_side g820.1 g820.2.1 g820.2.2.1 g820.2.2.2), _, _, h818, (by show 4 < 1000; decide), ?_⟩
          generalize g822 : upd H815 p_self _ = H823
          obtain ⟨x824, h825⟩ := gen_mut g822
          have h826 : H823 p_self = some (.ins AD.c_Encoder dx_self [("_probabilities", V.ref l_self_probs), ("_front", V.ref l_self_front), ("_low", V.int ((PySem.Builtin.bitAnd ((self_790.low * 2 ^ Int.toNat (8))) ((4294967296 - 1))))), ("_span", V.int ((self_790.span * 2 ^ Int.toNat (8))))]) := h825
          have S827 := S819.mut1 x824 (.head _) h826
          have hw := cW_ok hw
          have hw := hK801 _ hw
          have h828 := (x824 _ _ (x816 _ _ (x806 _ _ h794 ne_self_0) (ne_of h794 h793 (fun z => nomatch z))) (ne_of h794 h793 (fun z => nomatch z)))
          have h829 := (x824 _ _ (x816 _ _ h808 (ne_of h808 h811 (fun z => nomatch z))) (ne_of h808 h811 (fun z => nomatch z)))
          exact ⟨m798, ⟨((⟨self_790.probs, (self_790.front) ++ [(self_790.low / 16777216)], (PySem.Builtin.bitAnd ((self_790.low * 2 ^ Int.toNat (8))) ((4294967296 - 1))), (self_790.span * 2 ^ Int.toNat (8))⟩ : St_Encoder)), _, rfl, eG797, S827, h826, h828, h829, hw⟩, Nat.lt_succ_self _⟩
        · have hw := cW_neg c802 hw
          have hw := cW_ok hw
          have hw := hK801 _ hw
          have hw := cW_aftgo (hK789 (.go _) hw)
          have hw : cW (F_Encoder__narrow_r2  (self_790)) _ EE := hw
          unfold F_Encoder__narrow_r2 at hw
          have hw := cW_ok hw
          exact hK0 _ hw _ S792.base h793 h794 h795

abbrev N_Encoder_code : List Str := ["self", "context", "decision", "chance"]
theorem sc_Encoder_code : FnScope N_Encoder_code ["self", "context", "decision"] (defScope s_Encoder_code) := ⟨rfl, rfl, rfl, by decide +kernel, rfl, by decide +kernel, by decide +kernel⟩
theorem ok_Encoder_code (D : MethX K AD.c_Encoder "Encoder.code" "code" s_Encoder_code ["self", "context", "decision"] pats_Encoder_code) (T : Txt K mg AD) (c__check_context : CalX P w K mg base 1 "_check_context" (sp__check_context K AD) pats__check_context) (c__check_decision : CalX P w K mg base 1 "_check_decision" (sp__check_decision K AD) pats__check_decision) (c_Encoder__narrow : MetX P w K mg base 2 AD.c_Encoder "_narrow" (sp_Encoder__narrow K AD) pats_Encoder__narrow) (c__adapted : CalX P w K mg base 1 "_adapted" (sp__adapted K AD) pats__adapted) : MetX P w K mg base 3 AD.c_Encoder "code" (sp_Encoder_code K AD) pats_Encoder_code := by
  refine D.ok T.cl_Encoder sc_Encoder_code (fun vs H Q E h => ?_) (fun f cdv A_ outer s H vs Q E hr h => ?_)
  · obtain ⟨G, p_self, l_self_probs, l_self_front, dx_self, self', context', decision', rfl, _⟩ := h
    rfl
  · obtain ⟨G, p_self, l_self_probs, l_self_front, dx_self, self', context', decision', rfl, sG, gM, h_p_self, h_l_self_probs, h_l_self_front, ne_self_0, hw⟩ := h
    refine ⟨_, (pss_cons (ps_expr (vx_callX c__check_context pat__check_context_0 (.head _) hr (by decide) (takes_of rfl rfl rfl rfl) rfl (pa_cons (pv 1) pa_nil) pk_nil))
      (pss_cons (ps_expr (vx_callX c__check_decision pat__check_decision_0 (.head _) hr (by decide) (takes_of rfl rfl rfl rfl) rfl (pa_cons (pv 2) pa_nil) pk_nil))
      (pss_cons (ps_set (i := 3) sc_Encoder_code.nd rfl (Or.inl rfl) (pe_ix (ix_listK (K := K)) (fldK (K := K) (pv 0)) (pv 1) (fun _ _ => rfl)))
      (pss_cons (ps_expr (vx_methX c_Encoder__narrow pat_Encoder__narrow_0 (.head _) hr (by decide) (takes_of rfl rfl rfl rfl) (pv 0) (pa_cons (pv 3) (pa_cons (pv 2) pa_nil)) pk_nil))
      (pss_one (ps_asg (vx_callX c__adapted pat__adapted_0 (.head _) hr (by decide) (takes_of rfl rfl rfl rfl) rfl (pa_cons (pv 3) (pa_cons (pv 2) pa_nil)) pk_nil) (pg_sub (fldK (K := K) (pv 0)) (pv 1) set_list))))))), ?_⟩
    obtain ⟨KK, EE, hK0, hE, hw⟩ := cW_gen hw
    have S0 := Sep.startM (M := [p_self, l_self_probs, l_self_front]) sG (all_cons (some_ne h_p_self) (all_cons (some_ne h_l_self_probs) (all_cons (some_ne h_l_self_front) all_nil))) gM
    unfold F_Encoder_code at hw
    refine ⟨_, rfl, rfl, rfl, G, _, rfl, S0.sG, cW_call hw (fun v831 hw => ?_) (fun e he => hE e he _ (Same.refl _))⟩
    refine ⟨_, rfl, rfl, rfl, G, _, rfl, S0.sG, cW_call hw (fun v832 hw => ?_) (fun e he => hE e he _ (Same.refl _))⟩
    obtain ⟨g833, hw⟩ := cW_grd hw
    refine ⟨_, rfl, _, _, _, _, _, rfl, h_p_self, T.cl_Encoder, T.n_Encoder__probabilities, rfl, _, rfl, _, _, _, _, rfl, rfl, (SqL.of h_l_self_probs), (atI_map g833), ?_⟩
    have hw := cW_bnd hw
    refine ⟨_, rfl, _, _, _, rfl, h_p_self, rfl, _, rfl, _, rfl, rfl, rfl, G, _, _, _, _, self', _, _, rfl, S0.sG, (S0.gno (all_cons (.head _) (all_cons (.tail _ (.head _)) (all_cons (.tail _ (.tail _ (.head _))) all_nil)))), h_p_self, h_l_self_probs, h_l_self_front, ne_self_0, cW_call hw (fun v835 hw H836 x837 h839 h840 h841  => ?_) (fun e he H2 e2 => hE e he H2 (Same.trans (Same.refl _) e2))⟩
    have S838 := S0.mut x837 (all_cons (.head _) (all_cons (.tail _ (.head _)) (all_cons (.tail _ (.tail _ (.head _))) all_nil))) (all_cons (some_ne h839) (all_cons (some_ne h840) (all_cons (some_ne h841) all_nil)))
    refine ⟨_, rfl, _, rfl, rfl, rfl, G, _, _, rfl, S838.sG, cW_callN hw (fun v846 hw => ?_) trivial⟩
    obtain ⟨g847, hw⟩ := cW_grd hw
    refine ⟨_, rfl, _, _, _, _, _, rfl, h839, T.cl_Encoder, T.n_Encoder__probabilities, rfl, _, rfl, _, _, _, _, rfl, rfl, h840, (ixN_map g847), ?_⟩
    generalize g848 : upd H836 l_self_probs _ = H849
    obtain ⟨x850, h851⟩ := gen_mut g848
    have h852 : H849 l_self_probs = some (.lst ((setL (v835.probs) (context') (v846) : (List Int)).map V.int)) := set_map h851
    have S853 := S838.mut1 x850 (.tail _ (.head _)) h852
    have hw := cW_bnd hw
    have h855 := (x850 _ _ h839 (ne_of h839 h840 (fun z => nomatch z)))
    have h856 := (x850 _ _ h841 (ne_self_0).symm)
    have hw := cW_ok hw
    exact hK0 _ hw _ S853.base h855 h852 h856

abbrev N_SymbolWriter_flag : List Str := ["self", "base", "value"]
theorem sc_SymbolWriter_flag : FnScope N_SymbolWriter_flag ["self", "base", "value"] (defScope s_SymbolWriter_flag) := ⟨rfl, rfl, rfl, by decide +kernel, rfl, by decide +kernel, by decide +kernel⟩
theorem ok_SymbolWriter_flag (D : MethX K AD.c_SymbolWriter "SymbolWriter.flag" "flag" s_SymbolWriter_flag ["self", "base", "value"] pats_SymbolWriter_flag) (T : Txt K mg AD) (c__check_contexts : CalX P w K mg base 1 "_check_contexts" (sp__check_contexts K AD) pats__check_contexts) (c_Encoder_code : MetX P w K mg base 3 AD.c_Encoder "code" (sp_Encoder_code K AD) pats_Encoder_code) : MetX P w K mg base 4 AD.c_SymbolWriter "flag" (sp_SymbolWriter_flag K AD) pats_SymbolWriter_flag := by
  refine D.ok T.cl_SymbolWriter sc_SymbolWriter_flag (fun vs H Q E h => ?_) (fun f cdv A_ outer s H vs Q E hr h => ?_)
  · obtain ⟨G, p_self, p_self_enc, l_self_enc_probs, l_self_enc_front, dx_self, dx_self_enc, self', base', value', rfl, _⟩ := h
    rfl
  · obtain ⟨G, p_self, p_self_enc, l_self_enc_probs, l_self_enc_front, dx_self, dx_self_enc, self', base', value', rfl, sG, gM, h_p_self, h_p_self_enc, h_l_self_enc_probs, h_l_self_enc_front, ne_self_0, ne_self_1, hw⟩ := h
    refine ⟨_, (pss_cons (ps_expr (vx_callX c__check_contexts pat__check_contexts_0 (.head _) hr (by decide) (takes_of rfl rfl rfl rfl) rfl (pa_cons (pv 1) (pa_cons pe_int pa_nil)) pk_nil))
      (pss_one (ps_expr (vx_methX c_Encoder_code pat_Encoder_code_0 (.head _) hr (by decide) (takes_of rfl rfl rfl rfl) (fldK (K := K) (pv 0)) (pa_cons (pv 1) (pa_cons (pe_ifExp (pt_val (pv 2)) pe_int pe_int) pa_nil)) pk_nil)))), ?_⟩
    obtain ⟨KK, EE, hK0, hE, hw⟩ := cW_gen hw
    have S0 := Sep.startM (M := [p_self, p_self_enc, l_self_enc_probs, l_self_enc_front]) sG (all_cons (some_ne h_p_self) (all_cons (some_ne h_p_self_enc) (all_cons (some_ne h_l_self_enc_probs) (all_cons (some_ne h_l_self_enc_front) all_nil)))) gM
    unfold F_SymbolWriter_flag at hw
    refine ⟨_, rfl, rfl, rfl, G, _, _, rfl, S0.sG, cW_call hw (fun v857 hw => ?_) (fun e he => hE e he _ (Same.refl _))⟩
    refine ⟨_, rfl, _, _, _, _, _, rfl, h_p_self, T.cl_SymbolWriter, T.n_SymbolWriter__encoder, rfl, _, _, _, rfl, h_p_self_enc, rfl, _, rfl, ?_⟩
    refine vv_ifb (vt_val (val_var rfl)) val_c val_c _ ?_
    refine ⟨rfl, rfl, G, _, _, _, _, self'.enc, _, _, rfl, S0.sG, (S0.gno (all_cons (.tail _ (.head _)) (all_cons (.tail _ (.tail _ (.head _))) (all_cons (.tail _ (.tail _ (.tail _ (.head _)))) all_nil)))), h_p_self_enc, h_l_self_enc_probs, h_l_self_enc_front, ne_self_0, cW_call hw (fun v861 hw H862 x863 h865 h866 h867  => ?_) (fun e he H2 e2 => hE e he H2 (Same.trans (Same.refl _) e2))⟩
    have S864 := S0.mut x863 (all_cons (.tail _ (.head _)) (all_cons (.tail _ (.tail _ (.head _))) (all_cons (.tail _ (.tail _ (.tail _ (.head _)))) all_nil))) (all_cons (some_ne h865) (all_cons (some_ne h866) (all_cons (some_ne h867) all_nil)))
    have h872 := (x863 _ _ h_p_self (ni3 ne_self_1 (ne_of h_p_self h_l_self_enc_probs (fun z => nomatch z)) (ne_of h_p_self h_l_self_enc_front (fun z => nomatch z))))
    have hw := cW_ok hw
    exact hK0 _ hw _ S864.base h872 h865 h866 h867

abbrev N__choice_digits : List Str := ["base", "count", "digits"]
theorem sc__choice_digits : FnScope N__choice_digits ["base", "count"] (defScope s__choice_digits) := ⟨rfl, rfl, rfl, by decide +kernel, rfl, by decide +kernel, by decide +kernel⟩
theorem ok__choice_digits (D : DefX K mg "_choice_digits" s__choice_digits ["base", "count"] pats__choice_digits) (T : Txt K mg AD) (c__check_contexts : CalX P w K mg base 1 "_check_contexts" (sp__check_contexts K AD) pats__check_contexts) : CalX P w K mg base 2 "_choice_digits" (sp__choice_digits K AD) pats__choice_digits := by
  refine D.ok sc__choice_digits (fun vs H Q E h => ?_) (fun f cdv A_ outer s H vs Q E hr h => ?_)
  · obtain ⟨G, base', count', rfl, _⟩ := h
    rfl
  · obtain ⟨G, base', count', rfl, sG, hw⟩ := h
    refine ⟨_, (pss_cons (ps_if (pt_not (pt_chain op_le op_le pe_int (pv 1) (C8.pe_gc rfl T.g_MOST_CHOICES))) (pss_one (ps_raise rfl (takes_of rfl rfl rfl rfl) (pmk_own PySem.F.excBase_ValueError T.xx_OutOfRange T.xg_OutOfRange T.xk_OutOfRange (raises_own T.xb_OutOfRange T.xt_OutOfRange) rfl))) pss_nil)
      (pss_cons (ps_set (i := 2) sc__choice_digits.nd rfl (Or.inl rfl) (pe_bits (pe_op op_sub (pv 1) pe_int)))
      (pss_cons (ps_expr (vx_callX c__check_contexts pat__check_contexts_0 (.head _) hr (by decide) (takes_of rfl rfl rfl rfl) rfl (pa_cons (pv 0) (pa_cons (pe_op op_sub (pe_op op_shlW pe_int (pv 2)) pe_int) pa_nil)) pk_nil))
      (pss_one (ps_ret (pv 2)))))), ?_⟩
    obtain ⟨KK, EE, hK0, hE, hw⟩ := cW_gen hw
    have S0 := Sep.startG sG
    unfold F__choice_digits at hw
    refine ⟨_, rfl, _, _, rfl, rfl, _, rfl, ?_⟩
    refine iteD (fun c873 => ?_) (fun c873 => ?_)
    · have hw := cW_pos c873 hw
      refine ⟨_, _, rfl, rfl, _, rfl, ?_⟩
      refine iteN (fun c874 => ?_) (fun c874 => ?_)
      · have hw := cW_neg c874 hw
        exact hE 1 (cW_er hw) _ S0.b0
      · have hw := cW_pos c874 hw
        refine ⟨_, rfl, _, _, rfl, rfl, _, rfl, ?_⟩
        have hw := cW_bnd hw
        obtain ⟨g876, hw⟩ := cW_grd hw
        refine ⟨_, rfl, _, rfl, _, _, rfl, rfl, (shl_side g876.1 g876.2.1 g876.2.2.1 g876.2.2.2), _, _, rfl, rfl, rfl, rfl, G, _, _, rfl, S0.sG, cW_call hw (fun v877 hw => ?_) (fun e he => hE e he _ S0.b0)⟩
        refine ⟨_, rfl, ?_⟩
        have hw := cW_ok hw
        exact hK0 _ hw _ S0.b0
    · have hw := cW_neg c873 hw
      refine ⟨_, rfl, ?_⟩
      refine iteT ?_
      exact hE 1 (cW_er hw) _ S0.b0

abbrev N_SymbolWriter_choice : List Str := ["self", "base", "value", "count", "digits", "path", "shift", "digit"]
theorem sc_SymbolWriter_choice : FnScope N_SymbolWriter_choice ["self", "base", "value", "count"] (defScope s_SymbolWriter_choice) := ⟨rfl, rfl, rfl, by decide +kernel, rfl, by decide +kernel, by decide +kernel⟩
theorem ok_SymbolWriter_choice (D : MethX K AD.c_SymbolWriter "SymbolWriter.choice" "choice" s_SymbolWriter_choice ["self", "base", "value", "count"] pats_SymbolWriter_choice) (T : Txt K mg AD) (c__choice_digits : CalX P w K mg base 2 "_choice_digits" (sp__choice_digits K AD) pats__choice_digits) (c_Encoder_code : MetX P w K mg base 3 AD.c_Encoder "code" (sp_Encoder_code K AD) pats_Encoder_code) : MetX P w K mg base 4 AD.c_SymbolWriter "choice" (sp_SymbolWriter_choice K AD) pats_SymbolWriter_choice := by
  refine D.ok T.cl_SymbolWriter sc_SymbolWriter_choice (fun vs H Q E h => ?_) (fun f cdv A_ outer s H vs Q E hr h => ?_)
  · obtain ⟨G, p_self, p_self_enc, l_self_enc_probs, l_self_enc_front, dx_self, dx_self_enc, self', base', value', count', rfl, _⟩ := h
    rfl
  · obtain ⟨G, p_self, p_self_enc, l_self_enc_probs, l_self_enc_front, dx_self, dx_self_enc, self', base', value', count', rfl, sG, gM, h_p_self, h_p_self_enc, h_l_self_enc_probs, h_l_self_enc_front, ne_self_0, ne_self_1, hw⟩ := h
    refine ⟨_, (pss_cons (ps_set (i := 4) sc_SymbolWriter_choice.nd rfl (Or.inl rfl) (vx_callX c__choice_digits pat__choice_digits_0 (.head _) hr (by decide) (takes_of rfl rfl rfl rfl) rfl (pa_cons (pv 1) (pa_cons (pv 3) pa_nil)) pk_nil))
      (pss_cons (ps_if (pt_not (pt_chain op_le op_lt pe_int (pv 2) (pv 3))) (pss_one (ps_raise rfl (takes_of rfl rfl rfl rfl) (pmk_own PySem.F.excBase_ValueError T.xx_OutOfRange T.xg_OutOfRange T.xk_OutOfRange (raises_own T.xb_OutOfRange T.xt_OutOfRange) rfl))) pss_nil)
      (pss_cons (ps_set (i := 5) sc_SymbolWriter_choice.nd rfl (Or.inl rfl) pe_int)
      (pss_one (ps_for (passes_of rfl) rfl (pi_range3 rfl T.b_range (pa_cons (pe_op op_sub (pv 4) pe_int) (pa_cons (pe_un un_neg pe_int) (pa_cons (pe_un un_neg pe_int) pa_nil)))) (pg_name (i := 6) sc_SymbolWriter_choice.nd rfl (Or.inl rfl)) (pss_cons (ps_set (i := 7) sc_SymbolWriter_choice.nd rfl (Or.inl rfl) (pe_op op_and (pe_op op_shr (pv 2) (pv 6)) pe_int))
      (pss_cons (ps_expr (vx_methX c_Encoder_code pat_Encoder_code_0 (.head _) hr (by decide) (takes_of rfl rfl rfl rfl) (fldK (K := K) (pv 0)) (pa_cons (pe_op op_sub (pe_op op_add (pv 1) (pv 5)) pe_int) (pa_cons (pv 7) pa_nil)) pk_nil))
      (pss_one (ps_set (i := 5) sc_SymbolWriter_choice.nd rfl (Or.inl rfl) (pe_op op_add (pe_op op_mul pe_int (pv 5)) (pv 7))))))))))), ?_⟩
    obtain ⟨KK, EE, hK0, hE, hw⟩ := cW_gen hw
    have S0 := Sep.startM (M := [p_self, p_self_enc, l_self_enc_probs, l_self_enc_front]) sG (all_cons (some_ne h_p_self) (all_cons (some_ne h_p_self_enc) (all_cons (some_ne h_l_self_enc_probs) (all_cons (some_ne h_l_self_enc_front) all_nil)))) gM
    unfold F_SymbolWriter_choice at hw
    refine ⟨_, rfl, _, rfl, rfl, rfl, G, _, _, rfl, S0.sG, cW_call hw (fun v878 hw H879 e880 => ?_) (fun e he H2 e2 => hE e he H2 (Same.trans (Same.refl _) e2))⟩
    have S881 := S0.same e880
    refine ⟨_, rfl, _, _, rfl, rfl, _, rfl, ?_⟩
    refine iteD (fun c882 => ?_) (fun c882 => ?_)
    · have hw := cW_pos c882 hw
      refine ⟨_, rfl, _, _, rfl, rfl, _, rfl, ?_⟩
      refine iteN (fun c883 => ?_) (fun c883 => ?_)
      · have hw := cW_neg c883 hw
        exact hE 1 (cW_er hw) _ e880
      · have hw := cW_pos c883 hw
        obtain ⟨g884, hw⟩ := cW_grd hw
        obtain ⟨K887, hK888, hw⟩ := cW_push hw
        refine ⟨_, rfl, _, _, rfl, rfl, _, rfl, _, rfl, _, _, _, _, rfl, (RgC.neg g884.1 g884.2.1 g884.2.2.1 g884.2.2.2), for_rangeC (lo := (v878 - 1)) (c := -1) (n := Int.toNat ((v878 - 1) - (-1))) (fun i σ H' => ∃ (self_889 : St_SymbolWriter) (path_890 : Int) (u891 : Option V) (u892 : Option V) (G' : Hp), σ = [some (V.ref p_self), some (V.int (base')), some (V.int (value')), some (V.int (count')), some (V.int (v878)), some (V.int path_890), u891, u892] ∧ Same G G' ∧ Sep [p_self, p_self_enc, l_self_enc_probs, l_self_enc_front] H G G' H' [p_self, p_self_enc, l_self_enc_probs, l_self_enc_front] ∧ H' p_self = some (.ins AD.c_SymbolWriter dx_self [("_encoder", V.ref p_self_enc)]) ∧ H' p_self_enc = some (.ins AD.c_Encoder dx_self_enc [("_probabilities", V.ref l_self_enc_probs), ("_front", V.ref l_self_enc_front), ("_low", V.int (self_889.enc.low)), ("_span", V.int (self_889.enc.span))]) ∧ H' l_self_enc_probs = some (.lst ((self_889.enc.probs : (List Int)).map V.int)) ∧ H' l_self_enc_front = some (.lst ((self_889.enc.front : (List Int)).map V.int)) ∧ cW (forS (List.drop i (rngD ((v878 - 1)) (Int.toNat ((v878 - 1) - (-1))))) (self_889, path_890) (fun s x => F_SymbolWriter_choice_b1 (base') (value') (s.1) (s.2) x)) K887 EE) ?_ ?_ ?_⟩
        · have h893 := (e880 _ _ h_p_self)
          have h894 := (e880 _ _ h_p_self_enc)
          have h895 := (e880 _ _ h_l_self_enc_probs)
          have h896 := (e880 _ _ h_l_self_enc_front)
          exact ⟨(self'), (1), _, _, _, rfl, (Same.refl _), S881, h893, h894, h895, h896, hw⟩
        · intro i σ H897 hi hw
          obtain ⟨self_889, path_890, u891, u892, G903, rfl, eG904, S898, h899, h900, h901, h902, hw⟩ := hw
          have hw := cW_forS (rngD_get hi) hw
          generalize ((v878 - 1) + ((i : Nat) : Int) * (-1)) = x905 at hw ⊢
          have hw : cW (F_SymbolWriter_choice_b1 (base') (value') (self_889) (path_890) (x905)) _ EE := hw
          unfold F_SymbolWriter_choice_b1 at hw
          obtain ⟨K908, hK909, hw⟩ := cW_name hw
          obtain ⟨g911, hw⟩ := cW_grd hw
          refine ⟨_, rfl, _, rfl, _, _, rfl, rfl, g911, _, _, rfl, rfl, ?_⟩
          have hw := cW_bnd hw
          refine ⟨_, rfl, _, _, _, _, _, rfl, h899, T.cl_SymbolWriter, T.n_SymbolWriter__encoder, rfl, _, _, _, rfl, h900, rfl, _, rfl, _, rfl, _, _, rfl, rfl, _, _, rfl, rfl, _, rfl, rfl, rfl, G903, _, _, _, _, self_889.enc, _, _, rfl, S898.sG, (S898.gno (all_cons (.tail _ (.head _)) (all_cons (.tail _ (.tail _ (.head _))) (all_cons (.tail _ (.tail _ (.tail _ (.head _)))) all_nil)))), h900, h901, h902, ne_self_0, cW_callN hw (fun v913 hw H914 x915 h917 h918 h919  => ?_) trivial⟩
          have S916 := S898.mut x915 (all_cons (.tail _ (.head _)) (all_cons (.tail _ (.tail _ (.head _))) (all_cons (.tail _ (.tail _ (.tail _ (.head _)))) all_nil))) (all_cons (some_ne h917) (all_cons (some_ne h918) (all_cons (some_ne h919) all_nil)))
          refine ⟨_, rfl, _, _, rfl, rfl, (.inl ⟨by decide, by decide⟩), _, rfl, _, _, rfl, rfl, ?_⟩
          have hw := cW_bnd hw
          have hw := cW_ok hw
          have hw := hK909 _ hw
          have h925 := (x915 _ _ h899 (ni3 ne_self_1 (ne_of h899 h901 (fun z => nomatch z)) (ne_of h899 h902 (fun z => nomatch z))))
          exact ⟨((⟨v913⟩ : St_SymbolWriter)), (((2 * path_890) + (PySem.Builtin.bitAnd ((value' / 2 ^ Int.toNat (x905))) (1)))), _, _, _, rfl, eG904, S916, h925, h917, h918, h919, hw⟩
        · intro σ H926 hw
          obtain ⟨self_889, path_890, u891, u892, G932, rfl, eG933, S927, h928, h929, h930, h931, hw⟩ := hw
          have hw := hK888 _ (cW_forS0 (rngD_len _ _).symm hw)
          have hw : cW (F_SymbolWriter_choice_r1  (self_889) (path_890)) _ EE := hw
          unfold F_SymbolWriter_choice_r1 at hw
          have hw := cW_ok hw
          exact hK0 _ hw _ S927.base h928 h929 h930 h931
    · have hw := cW_neg c882 hw
      refine ⟨_, rfl, ?_⟩
      refine iteT ?_
      exact hE 1 (cW_er hw) _ e880

abbrev N__check_unary : List Str := ["base", "most"]
theorem sc__check_unary : FnScope N__check_unary ["base", "most"] (defScope s__check_unary) := ⟨rfl, rfl, rfl, by decide +kernel, rfl, by decide +kernel, by decide +kernel⟩
theorem ok__check_unary (D : DefX K mg "_check_unary" s__check_unary ["base", "most"] pats__check_unary) (T : Txt K mg AD) (c__check_contexts : CalX P w K mg base 1 "_check_contexts" (sp__check_contexts K AD) pats__check_contexts) : CalX P w K mg base 2 "_check_unary" (sp__check_unary K AD) pats__check_unary := by
  refine D.ok sc__check_unary (fun vs H Q E h => ?_) (fun f cdv A_ outer s H vs Q E hr h => ?_)
  · obtain ⟨G, base', most', rfl, _⟩ := h
    rfl
  · obtain ⟨G, base', most', rfl, sG, hw⟩ := h
    refine ⟨_, (pss_cons (ps_if (pt_not (pt_chain op_le op_le pe_int (pv 1) (C8.pe_gc rfl T.g_GREATEST_UNARY))) (pss_one (ps_raise rfl (takes_of rfl rfl rfl rfl) (pmk_own PySem.F.excBase_ValueError T.xx_OutOfRange T.xg_OutOfRange T.xk_OutOfRange (raises_own T.xb_OutOfRange T.xt_OutOfRange) rfl))) pss_nil)
      (pss_one (ps_expr (vx_callX c__check_contexts pat__check_contexts_0 (.head _) hr (by decide) (takes_of rfl rfl rfl rfl) rfl (pa_cons (pv 0) (pa_cons (pe_callB (call_min2 rfl) (by rfl) T.b_min (by decide +kernel) (pa_cons (pv 1) (pa_cons (C8.pe_gc rfl T.g_SHARED) pa_nil))) pa_nil)) pk_nil)))), ?_⟩
    obtain ⟨KK, EE, hK0, hE, hw⟩ := cW_gen hw
    have S0 := Sep.startG sG
    unfold F__check_unary at hw
    refine ⟨_, rfl, _, _, rfl, rfl, _, rfl, ?_⟩
    refine iteD (fun c936 => ?_) (fun c936 => ?_)
    · have hw := cW_pos c936 hw
      refine ⟨_, _, rfl, rfl, _, rfl, ?_⟩
      refine iteN (fun c937 => ?_) (fun c937 => ?_)
      · have hw := cW_neg c937 hw
        exact hE 1 (cW_er hw)
      · have hw := cW_pos c937 hw
        refine ⟨_, rfl, _, rfl, _, _, rfl, rfl, rfl, G, _, _, rfl, S0.sG, cW_call hw (fun v938 hw => ?_) (fun e he => hE e he)⟩
        have hw := cW_ok hw
        exact hK0 _ hw
    · have hw := cW_neg c936 hw
      refine ⟨_, rfl, ?_⟩
      refine iteT ?_
      exact hE 1 (cW_er hw)

abbrev N_SymbolWriter_unary : List Str := ["self", "base", "value", "most", "index"]
theorem sc_SymbolWriter_unary : FnScope N_SymbolWriter_unary ["self", "base", "value", "most"] (defScope s_SymbolWriter_unary) := ⟨rfl, rfl, rfl, by decide +kernel, rfl, by decide +kernel, by decide +kernel⟩
theorem ok_SymbolWriter_unary (D : MethX K AD.c_SymbolWriter "SymbolWriter.unary" "unary" s_SymbolWriter_unary ["self", "base", "value", "most"] pats_SymbolWriter_unary) (T : Txt K mg AD) (c__check_unary : CalX P w K mg base 2 "_check_unary" (sp__check_unary K AD) pats__check_unary) (c_Encoder_code : MetX P w K mg base 3 AD.c_Encoder "code" (sp_Encoder_code K AD) pats_Encoder_code) : MetX P w K mg base 4 AD.c_SymbolWriter "unary" (sp_SymbolWriter_unary K AD) pats_SymbolWriter_unary := by
  refine D.ok T.cl_SymbolWriter sc_SymbolWriter_unary (fun vs H Q E h => ?_) (fun f cdv A_ outer s H vs Q E hr h => ?_)
  · obtain ⟨G, p_self, p_self_enc, l_self_enc_probs, l_self_enc_front, dx_self, dx_self_enc, self', base', value', most', rfl, _⟩ := h
    rfl
  · obtain ⟨G, p_self, p_self_enc, l_self_enc_probs, l_self_enc_front, dx_self, dx_self_enc, self', base', value', most', rfl, sG, gM, h_p_self, h_p_self_enc, h_l_self_enc_probs, h_l_self_enc_front, ne_self_0, ne_self_1, hw⟩ := h
    refine ⟨_, (pss_cons (ps_expr (vx_callX c__check_unary pat__check_unary_0 (.head _) hr (by decide) (takes_of rfl rfl rfl rfl) rfl (pa_cons (pv 1) (pa_cons (pv 3) pa_nil)) pk_nil))
      (pss_cons (ps_if (pt_not (pt_chain op_le op_le pe_int (pv 2) (pv 3))) (pss_one (ps_raise rfl (takes_of rfl rfl rfl rfl) (pmk_own PySem.F.excBase_ValueError T.xx_OutOfRange T.xg_OutOfRange T.xk_OutOfRange (raises_own T.xb_OutOfRange T.xt_OutOfRange) rfl))) pss_nil)
      (pss_cons (ps_for (passes_of rfl) rfl (pi_range1 rfl T.b_range (pa_cons (pv 2) pa_nil)) (pg_name (i := 4) sc_SymbolWriter_unary.nd rfl (Or.inl rfl)) (pss_one (ps_expr (vx_methX c_Encoder_code pat_Encoder_code_0 (.head _) hr (by decide) (takes_of rfl rfl rfl rfl) (fldK (K := K) (pv 0)) (pa_cons (pe_op op_add (pv 1) (pe_callB (call_min2 rfl) (by rfl) T.b_min (by decide +kernel) (pa_cons (pv 4) (pa_cons (pe_op op_sub (C8.pe_gc rfl T.g_SHARED) pe_int) pa_nil)))) (pa_cons pe_int pa_nil)) pk_nil))))
      (pss_one (ps_if (pt_cmp (pc_lt (pv 2) (pv 3))) (pss_one (ps_expr (vx_methX c_Encoder_code pat_Encoder_code_0 (.head _) hr (by decide) (takes_of rfl rfl rfl rfl) (fldK (K := K) (pv 0)) (pa_cons (pe_op op_add (pv 1) (pe_callB (call_min2 rfl) (by rfl) T.b_min (by decide +kernel) (pa_cons (pv 2) (pa_cons (pe_op op_sub (C8.pe_gc rfl T.g_SHARED) pe_int) pa_nil)))) (pa_cons pe_int pa_nil)) pk_nil))) pss_nil))))), ?_⟩
    obtain ⟨KK, EE, hK0, hE, hw⟩ := cW_gen hw
    have S0 := Sep.startM (M := [p_self, p_self_enc, l_self_enc_probs, l_self_enc_front]) sG (all_cons (some_ne h_p_self) (all_cons (some_ne h_p_self_enc) (all_cons (some_ne h_l_self_enc_probs) (all_cons (some_ne h_l_self_enc_front) all_nil)))) gM
    unfold F_SymbolWriter_unary at hw
    refine ⟨_, rfl, _, rfl, rfl, rfl, G, _, _, rfl, S0.sG, cW_call hw (fun v939 hw => ?_) (fun e he => hE e he _ (Same.refl _))⟩
    refine ⟨_, rfl, _, _, rfl, rfl, _, rfl, ?_⟩
    refine iteD (fun c940 => ?_) (fun c940 => ?_)
    · have hw := cW_pos c940 hw
      refine ⟨_, rfl, _, _, rfl, rfl, _, rfl, ?_⟩
      refine iteN (fun c941 => ?_) (fun c941 => ?_)
      · have hw := cW_neg c941 hw
        exact hE 1 (cW_er hw) _ (Same.refl _)
      · have hw := cW_pos c941 hw
        obtain ⟨g942, hw⟩ := cW_grd hw
        obtain ⟨K947, hK948, hw⟩ := cW_push hw
        refine ⟨_, rfl, _, rfl, g942.1, g942.2, for_range (lo := 0) (n := Int.toNat (value')) (fun i σ H' => ∃ (self_949 : St_SymbolWriter) (u950 : Option V) (G' : Hp), σ = [some (V.ref p_self), some (V.int (base')), some (V.int (value')), some (V.int (most')), u950] ∧ Same G G' ∧ Sep [p_self, p_self_enc, l_self_enc_probs, l_self_enc_front] H G G' H' [p_self, p_self_enc, l_self_enc_probs, l_self_enc_front] ∧ H' p_self = some (.ins AD.c_SymbolWriter dx_self [("_encoder", V.ref p_self_enc)]) ∧ H' p_self_enc = some (.ins AD.c_Encoder dx_self_enc [("_probabilities", V.ref l_self_enc_probs), ("_front", V.ref l_self_enc_front), ("_low", V.int (self_949.enc.low)), ("_span", V.int (self_949.enc.span))]) ∧ H' l_self_enc_probs = some (.lst ((self_949.enc.probs : (List Int)).map V.int)) ∧ H' l_self_enc_front = some (.lst ((self_949.enc.front : (List Int)).map V.int)) ∧ cW (forS (List.drop i (rng (0) (Int.toNat (value')))) self_949 (fun s x => F_SymbolWriter_unary_b1 (base') s x)) K947 EE) ?_ ?_ ?_⟩
        · exact ⟨(self'), _, _, rfl, (Same.refl _), S0, h_p_self, h_p_self_enc, h_l_self_enc_probs, h_l_self_enc_front, hw⟩
        · intro i σ H951 hi hw
          obtain ⟨self_949, u950, G957, rfl, eG958, S952, h953, h954, h955, h956, hw⟩ := hw
          have hw := cW_forS (rng_get hi) hw
          generalize (0 + (i : Int)) = x959 at hw ⊢
          have hw : cW (F_SymbolWriter_unary_b1 (base') (self_949) (x959)) _ EE := hw
          unfold F_SymbolWriter_unary_b1 at hw
          obtain ⟨K961, hK962, hw⟩ := cW_name hw
          refine ⟨_, rfl, _, _, _, _, _, rfl, h953, T.cl_SymbolWriter, T.n_SymbolWriter__encoder, rfl, _, _, _, rfl, h954, rfl, _, rfl, _, rfl, _, _, rfl, rfl, _, _, rfl, _, _, rfl, rfl, rfl, rfl, G957, _, _, _, _, self_949.enc, _, _, rfl, S952.sG, (S952.gno (all_cons (.tail _ (.head _)) (all_cons (.tail _ (.tail _ (.head _))) (all_cons (.tail _ (.tail _ (.tail _ (.head _)))) all_nil)))), h954, h955, h956, ne_self_0, cW_callN hw (fun v964 hw H965 x966 h968 h969 h970  => ?_) trivial⟩
          have S967 := S952.mut x966 (all_cons (.tail _ (.head _)) (all_cons (.tail _ (.tail _ (.head _))) (all_cons (.tail _ (.tail _ (.tail _ (.head _)))) all_nil))) (all_cons (some_ne h968) (all_cons (some_ne h969) (all_cons (some_ne h970) all_nil)))
          have hw := cW_ok hw
          have hw := hK962 _ hw
          have h975 := (x966 _ _ h953 (ni3 ne_self_1 (ne_of h953 h955 (fun z => nomatch z)) (ne_of h953 h956 (fun z => nomatch z))))
          exact ⟨((⟨v964⟩ : St_SymbolWriter)), _, _, rfl, eG958, S967, h975, h968, h969, h970, hw⟩
        · intro σ H976 hw
          obtain ⟨self_949, u950, G982, rfl, eG983, S977, h978, h979, h980, h981, hw⟩ := hw
          have hw := hK948 _ (cW_forS0 (rng_len _ _).symm hw)
          have hw : cW (F_SymbolWriter_unary_r1 (base') (value') (most') (self_949)) _ EE := hw
          unfold F_SymbolWriter_unary_r1 at hw
          refine ⟨_, rfl, _, rfl, _, _, rfl, rfl, _, rfl, ?_⟩
          refine iteD (fun c985 => ?_) (fun c985 => ?_)
          · have hw := cW_pos c985 hw
            refine ⟨_, rfl, _, _, _, _, _, rfl, h978, T.cl_SymbolWriter, T.n_SymbolWriter__encoder, rfl, _, _, _, rfl, h979, rfl, _, rfl, _, rfl, _, _, rfl, rfl, _, _, rfl, _, _, rfl, rfl, rfl, rfl, G982, _, _, _, _, self_949.enc, _, _, rfl, S977.sG, (S977.gno (all_cons (.tail _ (.head _)) (all_cons (.tail _ (.tail _ (.head _))) (all_cons (.tail _ (.tail _ (.tail _ (.head _)))) all_nil)))), h979, h980, h981, ne_self_0, cW_callN hw (fun v986 hw H987 x988 h990 h991 h992  => ?_) trivial⟩
            have S989 := S977.mut x988 (all_cons (.tail _ (.head _)) (all_cons (.tail _ (.tail _ (.head _))) (all_cons (.tail _ (.tail _ (.tail _ (.head _)))) all_nil))) (all_cons (some_ne h990) (all_cons (some_ne h991) (all_cons (some_ne h992) all_nil)))
            have h997 := (x988 _ _ h978 (ni3 ne_self_1 (ne_of h978 h980 (fun z => nomatch z)) (ne_of h978 h981 (fun z => nomatch z))))
            have hw := cW_ok hw
            exact hK0 _ hw _ S989.base h997 h990 h991 h992
          · have hw := cW_neg c985 hw
            have hw := cW_ok hw
            exact hK0 _ hw _ S977.base h978 h979 h980 h981
    · have hw := cW_neg c940 hw
      refine ⟨_, rfl, ?_⟩
      refine iteT ?_
      exact hE 1 (cW_er hw) _ (Same.refl _)

abbrev N__digit_context : List Str := ["base", "digits"]
theorem sc__digit_context : FnScope N__digit_context ["base", "digits"] (defScope s__digit_context) := ⟨rfl, rfl, rfl, by decide +kernel, rfl, by decide +kernel, by decide +kernel⟩
theorem ok__digit_context (D : DefX K mg "_digit_context" s__digit_context ["base", "digits"] pats__digit_context) (T : Txt K mg AD)  : CalX P w K mg base 1 "_digit_context" (sp__digit_context K AD) pats__digit_context := by
  refine D.ok sc__digit_context (fun vs H Q E h => ?_) (fun f cdv A_ outer s H vs Q E hr h => ?_)
  · obtain ⟨G, base', digits', rfl, _⟩ := h
    rfl
  · obtain ⟨G, base', digits', rfl, sG, hw⟩ := h
    refine ⟨_, (pss_one (ps_ret (pe_op op_add (pe_op op_add (pv 0) (C8.pe_gc rfl T.g_SHARED)) (pe_callB (call_min2 rfl) (by rfl) T.b_min (by decide +kernel) (pa_cons (pe_op op_sub (pv 1) pe_int) (pa_cons (pe_op op_sub (C8.pe_gc rfl T.g_SHARED) pe_int) pa_nil)))))), ?_⟩
    obtain ⟨KK, EE, hK0, hE, hw⟩ := cW_gen hw
    have S0 := Sep.startG sG
    unfold F__digit_context at hw
    refine ⟨_, rfl, _, _, rfl, rfl, _, rfl, _, _, rfl, rfl, _, _, rfl, rfl, _, _, rfl, _, _, rfl, rfl, ?_⟩
    have hw := cW_ok hw
    exact hK0 _ hw

abbrev N_Encoder_code_even : List Str := ["self", "decision"]
theorem sc_Encoder_code_even : FnScope N_Encoder_code_even ["self", "decision"] (defScope s_Encoder_code_even) := ⟨rfl, rfl, rfl, by decide +kernel, rfl, by decide +kernel, by decide +kernel⟩
theorem ok_Encoder_code_even (D : MethX K AD.c_Encoder "Encoder.code_even" "code_even" s_Encoder_code_even ["self", "decision"] pats_Encoder_code_even) (T : Txt K mg AD) (c__check_decision : CalX P w K mg base 1 "_check_decision" (sp__check_decision K AD) pats__check_decision) (c_Encoder__narrow : MetX P w K mg base 2 AD.c_Encoder "_narrow" (sp_Encoder__narrow K AD) pats_Encoder__narrow) : MetX P w K mg base 3 AD.c_Encoder "code_even" (sp_Encoder_code_even K AD) pats_Encoder_code_even := by
  refine D.ok T.cl_Encoder sc_Encoder_code_even (fun vs H Q E h => ?_) (fun f cdv A_ outer s H vs Q E hr h => ?_)
  · obtain ⟨G, p_self, l_self_probs, l_self_front, dx_self, self', decision', rfl, _⟩ := h
    rfl
  · obtain ⟨G, p_self, l_self_probs, l_self_front, dx_self, self', decision', rfl, sG, gM, h_p_self, h_l_self_probs, h_l_self_front, ne_self_0, hw⟩ := h
    refine ⟨_, (pss_cons (ps_expr (vx_callX c__check_decision pat__check_decision_0 (.head _) hr (by decide) (takes_of rfl rfl rfl rfl) rfl (pa_cons (pv 1) pa_nil) pk_nil))
      (pss_one (ps_expr (vx_methX c_Encoder__narrow pat_Encoder__narrow_0 (.head _) hr (by decide) (takes_of rfl rfl rfl rfl) (pv 0) (pa_cons (C8.pe_gc rfl T.g_EVEN) (pa_cons (pv 1) pa_nil)) pk_nil)))), ?_⟩
    obtain ⟨KK, EE, hK0, hE, hw⟩ := cW_gen hw
    have S0 := Sep.startM (M := [p_self, l_self_probs, l_self_front]) sG (all_cons (some_ne h_p_self) (all_cons (some_ne h_l_self_probs) (all_cons (some_ne h_l_self_front) all_nil))) gM
    unfold F_Encoder_code_even at hw
    refine ⟨_, rfl, rfl, rfl, G, _, rfl, S0.sG, cW_call hw (fun v998 hw => ?_) (fun e he => hE e he _ (Same.refl _))⟩
    refine ⟨_, rfl, _, _, _, rfl, h_p_self, rfl, _, rfl, rfl, rfl, G, _, _, _, _, self', _, _, rfl, S0.sG, (S0.gno (all_cons (.head _) (all_cons (.tail _ (.head _)) (all_cons (.tail _ (.tail _ (.head _))) all_nil)))), h_p_self, h_l_self_probs, h_l_self_front, ne_self_0, cW_call hw (fun v999 hw H1000 x1001 h1003 h1004 h1005  => ?_) (fun e he H2 e2 => hE e he H2 (Same.trans (Same.refl _) e2))⟩
    have S1002 := S0.mut x1001 (all_cons (.head _) (all_cons (.tail _ (.head _)) (all_cons (.tail _ (.tail _ (.head _))) all_nil))) (all_cons (some_ne h1003) (all_cons (some_ne h1004) (all_cons (some_ne h1005) all_nil)))
    have hw := cW_ok hw
    exact hK0 _ hw _ S1002.base h1003 h1004 h1005

abbrev N_SymbolWriter_number : List Str := ["self", "base", "value", "digits", "shift", "digit"]
theorem sc_SymbolWriter_number : FnScope N_SymbolWriter_number ["self", "base", "value"] (defScope s_SymbolWriter_number) := ⟨rfl, rfl, rfl, by decide +kernel, rfl, by decide +kernel, by decide +kernel⟩
theorem ok_SymbolWriter_number (D : MethX K AD.c_SymbolWriter "SymbolWriter.number" "number" s_SymbolWriter_number ["self", "base", "value"] pats_SymbolWriter_number) (T : Txt K mg AD) (c__check_contexts : CalX P w K mg base 1 "_check_contexts" (sp__check_contexts K AD) pats__check_contexts) (c_SymbolWriter_unary : MetX P w K mg base 4 AD.c_SymbolWriter "unary" (sp_SymbolWriter_unary K AD) pats_SymbolWriter_unary) (c_Encoder_code : MetX P w K mg base 3 AD.c_Encoder "code" (sp_Encoder_code K AD) pats_Encoder_code) (c__digit_context : CalX P w K mg base 1 "_digit_context" (sp__digit_context K AD) pats__digit_context) (c_Encoder_code_even : MetX P w K mg base 3 AD.c_Encoder "code_even" (sp_Encoder_code_even K AD) pats_Encoder_code_even) : MetX P w K mg base 5 AD.c_SymbolWriter "number" (sp_SymbolWriter_number K AD) pats_SymbolWriter_number := by
  refine D.ok T.cl_SymbolWriter sc_SymbolWriter_number (fun vs H Q E h => ?_) (fun f cdv A_ outer s H vs Q E hr h => ?_)
  · obtain ⟨G, p_self, p_self_enc, l_self_enc_probs, l_self_enc_front, dx_self, dx_self_enc, self', base', value', rfl, _⟩ := h
    rfl
  · obtain ⟨G, p_self, p_self_enc, l_self_enc_probs, l_self_enc_front, dx_self, dx_self_enc, self', base', value', rfl, sG, gM, h_p_self, h_p_self_enc, h_l_self_enc_probs, h_l_self_enc_front, ne_self_0, ne_self_1, hw⟩ := h
    refine ⟨_, (pss_cons (ps_expr (vx_callX c__check_contexts pat__check_contexts_0 (.head _) hr (by decide) (takes_of rfl rfl rfl rfl) rfl (pa_cons (pv 1) (pa_cons (pe_op op_mul pe_int (C8.pe_gc rfl T.g_SHARED)) pa_nil)) pk_nil))
      (pss_cons (ps_if (pt_not (pt_chain op_le op_le pe_int (pv 2) (C8.pe_gc rfl T.g_GREATEST_NUMBER))) (pss_one (ps_raise rfl (takes_of rfl rfl rfl rfl) (pmk_own PySem.F.excBase_ValueError T.xx_OutOfRange T.xg_OutOfRange T.xk_OutOfRange (raises_own T.xb_OutOfRange T.xt_OutOfRange) rfl))) pss_nil)
      (pss_cons (ps_set (i := 3) sc_SymbolWriter_number.nd rfl (Or.inl rfl) (pe_op op_sub (pe_bits (pe_op op_add (pv 2) pe_int)) pe_int))
      (pss_cons (ps_expr (vx_methX c_SymbolWriter_unary pat_SymbolWriter_unary_0 (.head _) hr (by decide) (takes_of rfl rfl rfl rfl) (pv 0) (pa_cons (pv 1) (pa_cons (pv 3) pa_nil)) (pk_cons (C8.pe_gc rfl T.g_MOST_DIGITS) pk_nil)))
      (pss_one (ps_for (passes_of rfl) rfl (pi_range3 rfl T.b_range (pa_cons (pe_op op_sub (pv 3) pe_int) (pa_cons (pe_un un_neg pe_int) (pa_cons (pe_un un_neg pe_int) pa_nil)))) (pg_name (i := 4) sc_SymbolWriter_number.nd rfl (Or.inl rfl)) (pss_cons (ps_set (i := 5) sc_SymbolWriter_number.nd rfl (Or.inl rfl) (pe_op op_and (pe_op op_shr (pe_op op_add (pv 2) pe_int) (pv 4)) pe_int))
      (pss_one (ps_if (pt_cmp (pc_eqI (pv 4) (pe_op op_sub (pv 3) pe_int))) (pss_one (ps_expr (vx_methX c_Encoder_code pat_Encoder_code_0 (.head _) hr (by decide) (takes_of rfl rfl rfl rfl) (fldK (K := K) (pv 0)) (pa_cons (vx_callX c__digit_context pat__digit_context_0 (.head _) hr (by decide) (takes_of rfl rfl rfl rfl) rfl (pa_cons (pv 1) (pa_cons (pv 3) pa_nil)) pk_nil) (pa_cons (pv 5) pa_nil)) pk_nil))) (pss_one (ps_expr (vx_methX c_Encoder_code_even pat_Encoder_code_even_0 (.head _) hr (by decide) (takes_of rfl rfl rfl rfl) (fldK (K := K) (pv 0)) (pa_cons (pv 5) pa_nil) pk_nil)))))))))))), ?_⟩
    obtain ⟨KK, EE, hK0, hE, hw⟩ := cW_gen hw
    have S0 := Sep.startM (M := [p_self, p_self_enc, l_self_enc_probs, l_self_enc_front]) sG (all_cons (some_ne h_p_self) (all_cons (some_ne h_p_self_enc) (all_cons (some_ne h_l_self_enc_probs) (all_cons (some_ne h_l_self_enc_front) all_nil)))) gM
    unfold F_SymbolWriter_number at hw
    refine ⟨_, rfl, _, _, rfl, rfl, (.inl ⟨by decide, by decide⟩), rfl, rfl, G, _, _, rfl, S0.sG, cW_call hw (fun v1010 hw => ?_) (fun e he => hE e he _ (Same.refl _))⟩
    refine ⟨_, rfl, _, _, rfl, rfl, _, rfl, ?_⟩
    refine iteD (fun c1011 => ?_) (fun c1011 => ?_)
    · have hw := cW_pos c1011 hw
      refine ⟨_, _, rfl, rfl, _, rfl, ?_⟩
      refine iteN (fun c1012 => ?_) (fun c1012 => ?_)
      · have hw := cW_neg c1012 hw
        exact hE 1 (cW_er hw) _ (Same.refl _)
      · have hw := cW_pos c1012 hw
        refine ⟨_, rfl, _, _, rfl, rfl, _, rfl, _, _, rfl, rfl, ?_⟩
        have hw := cW_bnd hw
        refine ⟨_, rfl, _, _, _, rfl, h_p_self, rfl, _, rfl, _, rfl, rfl, rfl, G, _, _, _, _, _, _, self', _, _, _, rfl, S0.sG, (S0.gno (all_cons (.head _) (all_cons (.tail _ (.head _)) (all_cons (.tail _ (.tail _ (.head _))) (all_cons (.tail _ (.tail _ (.tail _ (.head _)))) all_nil))))), h_p_self, h_p_self_enc, h_l_self_enc_probs, h_l_self_enc_front, ne_self_0, ne_self_1, cW_call hw (fun v1014 hw H1015 x1016 h1018 h1019 h1020 h1021  => ?_) (fun e he H2 e2 => hE e he H2 (Same.trans (Same.refl _) e2))⟩
        have S1017 := S0.mut x1016 (all_cons (.head _) (all_cons (.tail _ (.head _)) (all_cons (.tail _ (.tail _ (.head _))) (all_cons (.tail _ (.tail _ (.tail _ (.head _)))) all_nil)))) (all_cons (some_ne h1018) (all_cons (some_ne h1019) (all_cons (some_ne h1020) (all_cons (some_ne h1021) all_nil))))
        obtain ⟨g1026, hw⟩ := cW_grd hw
        obtain ⟨K1030, hK1031, hw⟩ := cW_push hw
        refine ⟨_, rfl, _, _, rfl, rfl, _, rfl, _, rfl, _, _, _, _, rfl, (RgC.neg g1026.1 g1026.2.1 g1026.2.2.1 g1026.2.2.2), for_rangeC (lo := ((((PySem.Builtin.Int.intBits ((value' + 1)) : Nat) : Int) - 1) - 1)) (c := -1) (n := Int.toNat (((((PySem.Builtin.Int.intBits ((value' + 1)) : Nat) : Int) - 1) - 1) - (-1))) (fun i σ H' => ∃ (self_1032 : St_SymbolWriter) (u1033 : Option V) (u1034 : Option V) (G' : Hp), σ = [some (V.ref p_self), some (V.int (base')), some (V.int (value')), some (V.int ((((PySem.Builtin.Int.intBits ((value' + 1)) : Nat) : Int) - 1))), u1033, u1034] ∧ Same G G' ∧ Sep [p_self, p_self_enc, l_self_enc_probs, l_self_enc_front] H G G' H' [p_self, p_self_enc, l_self_enc_probs, l_self_enc_front] ∧ H' p_self = some (.ins AD.c_SymbolWriter dx_self [("_encoder", V.ref p_self_enc)]) ∧ H' p_self_enc = some (.ins AD.c_Encoder dx_self_enc [("_probabilities", V.ref l_self_enc_probs), ("_front", V.ref l_self_enc_front), ("_low", V.int (self_1032.enc.low)), ("_span", V.int (self_1032.enc.span))]) ∧ H' l_self_enc_probs = some (.lst ((self_1032.enc.probs : (List Int)).map V.int)) ∧ H' l_self_enc_front = some (.lst ((self_1032.enc.front : (List Int)).map V.int)) ∧ cW (forS (List.drop i (rngD (((((PySem.Builtin.Int.intBits ((value' + 1)) : Nat) : Int) - 1) - 1)) (Int.toNat (((((PySem.Builtin.Int.intBits ((value' + 1)) : Nat) : Int) - 1) - 1) - (-1))))) self_1032 (fun s x => F_SymbolWriter_number_b1 (base') (value') ((((PySem.Builtin.Int.intBits ((value' + 1)) : Nat) : Int) - 1)) s x)) K1030 EE) ?_ ?_ ?_⟩
        · exact ⟨(v1014), _, _, _, rfl, (Same.refl _), S1017, h1018, h1019, h1020, h1021, hw⟩
        · intro i σ H1035 hi hw
          obtain ⟨self_1032, u1033, u1034, G1041, rfl, eG1042, S1036, h1037, h1038, h1039, h1040, hw⟩ := hw
          have hw := cW_forS (rngD_get hi) hw
          generalize (((((PySem.Builtin.Int.intBits ((value' + 1)) : Nat) : Int) - 1) - 1) + ((i : Nat) : Int) * (-1)) = x1043 at hw ⊢
          have hw : cW (F_SymbolWriter_number_b1 (base') (value') ((((PySem.Builtin.Int.intBits ((value' + 1)) : Nat) : Int) - 1)) (self_1032) (x1043)) _ EE := hw
          unfold F_SymbolWriter_number_b1 at hw
          obtain ⟨K1045, hK1046, hw⟩ := cW_name hw
          obtain ⟨g1048, hw⟩ := cW_grd hw
          refine ⟨_, rfl, _, _, rfl, rfl, _, rfl, _, _, rfl, rfl, g1048, _, _, rfl, rfl, ?_⟩
          have hw := cW_bnd hw
          refine ⟨_, rfl, _, rfl, _, _, rfl, rfl, _, _, rfl, rfl, _, rfl, ?_⟩
          refine iteD (fun c1050 => ?_) (fun c1050 => ?_)
          · have hw := cW_pos c1050 hw
            refine ⟨_, rfl, _, _, _, _, _, rfl, h1037, T.cl_SymbolWriter, T.n_SymbolWriter__encoder, rfl, _, _, _, rfl, h1038, rfl, _, rfl, _, rfl, rfl, rfl, G1041, _, _, rfl, S1036.sG, cW_callN hw (fun v1051 hw => ?_) trivial⟩
            refine ⟨_, rfl, rfl, rfl, G1041, _, _, _, _, self_1032.enc, _, _, rfl, S1036.sG, (S1036.gno (all_cons (.tail _ (.head _)) (all_cons (.tail _ (.tail _ (.head _))) (all_cons (.tail _ (.tail _ (.tail _ (.head _)))) all_nil)))), h1038, h1039, h1040, ne_self_0, cW_callN hw (fun v1052 hw H1053 x1054 h1056 h1057 h1058  => ?_) trivial⟩
            have S1055 := S1036.mut x1054 (all_cons (.tail _ (.head _)) (all_cons (.tail _ (.tail _ (.head _))) (all_cons (.tail _ (.tail _ (.tail _ (.head _)))) all_nil))) (all_cons (some_ne h1056) (all_cons (some_ne h1057) (all_cons (some_ne h1058) all_nil)))
            have hw := cW_ok hw
            have hw := hK1046 _ hw
            have h1063 := (x1054 _ _ h1037 (ni3 ne_self_1 (ne_of h1037 h1039 (fun z => nomatch z)) (ne_of h1037 h1040 (fun z => nomatch z))))
            exact ⟨((⟨v1052⟩ : St_SymbolWriter)), _, _, _, rfl, eG1042, S1055, h1063, h1056, h1057, h1058, hw⟩
          · have hw := cW_neg c1050 hw
            refine ⟨_, rfl, _, _, _, _, _, rfl, h1037, T.cl_SymbolWriter, T.n_SymbolWriter__encoder, rfl, _, _, _, rfl, h1038, rfl, _, rfl, rfl, rfl, G1041, _, _, _, _, self_1032.enc, _, rfl, S1036.sG, (S1036.gno (all_cons (.tail _ (.head _)) (all_cons (.tail _ (.tail _ (.head _))) (all_cons (.tail _ (.tail _ (.tail _ (.head _)))) all_nil)))), h1038, h1039, h1040, ne_self_0, cW_callN hw (fun v1064 hw H1065 x1066 h1068 h1069 h1070  => ?_) trivial⟩
            have S1067 := S1036.mut x1066 (all_cons (.tail _ (.head _)) (all_cons (.tail _ (.tail _ (.head _))) (all_cons (.tail _ (.tail _ (.tail _ (.head _)))) all_nil))) (all_cons (some_ne h1068) (all_cons (some_ne h1069) (all_cons (some_ne h1070) all_nil)))
            have hw := cW_ok hw
            have hw := hK1046 _ hw
            have h1075 := (x1066 _ _ h1037 (ni3 ne_self_1 (ne_of h1037 h1039 (fun z => nomatch z)) (ne_of h1037 h1040 (fun z => nomatch z))))
            exact ⟨((⟨v1064⟩ : St_SymbolWriter)), _, _, _, rfl, eG1042, S1067, h1075, h1068, h1069, h1070, hw⟩
        · intro σ H1076 hw
          obtain ⟨self_1032, u1033, u1034, G1082, rfl, eG1083, S1077, h1078, h1079, h1080, h1081, hw⟩ := hw
          have hw := hK1031 _ (cW_forS0 (rngD_len _ _).symm hw)
          have hw : cW (F_SymbolWriter_number_r1  (self_1032)) _ EE := hw
          unfold F_SymbolWriter_number_r1 at hw
          have hw := cW_ok hw
          exact hK0 _ hw _ S1077.base h1078 h1079 h1080 h1081
    · have hw := cW_neg c1011 hw
      refine ⟨_, rfl, ?_⟩
      refine iteT ?_
      exact hE 1 (cW_er hw) _ (Same.refl _)

abbrev N_SymbolWriter_signed : List Str := ["self", "base", "value"]
theorem sc_SymbolWriter_signed : FnScope N_SymbolWriter_signed ["self", "base", "value"] (defScope s_SymbolWriter_signed) := ⟨rfl, rfl, rfl, by decide +kernel, rfl, by decide +kernel, by decide +kernel⟩
theorem ok_SymbolWriter_signed (D : MethX K AD.c_SymbolWriter "SymbolWriter.signed" "signed" s_SymbolWriter_signed ["self", "base", "value"] pats_SymbolWriter_signed) (T : Txt K mg AD) (c_SymbolWriter_number : MetX P w K mg base 5 AD.c_SymbolWriter "number" (sp_SymbolWriter_number K AD) pats_SymbolWriter_number) (c_Encoder_code_even : MetX P w K mg base 3 AD.c_Encoder "code_even" (sp_Encoder_code_even K AD) pats_Encoder_code_even) : MetX P w K mg base 6 AD.c_SymbolWriter "signed" (sp_SymbolWriter_signed K AD) pats_SymbolWriter_signed := by
  refine D.ok T.cl_SymbolWriter sc_SymbolWriter_signed (fun vs H Q E h => ?_) (fun f cdv A_ outer s H vs Q E hr h => ?_)
  · obtain ⟨G, p_self, p_self_enc, l_self_enc_probs, l_self_enc_front, dx_self, dx_self_enc, self', base', value', rfl, _⟩ := h
    rfl
  · obtain ⟨G, p_self, p_self_enc, l_self_enc_probs, l_self_enc_front, dx_self, dx_self_enc, self', base', value', rfl, sG, gM, h_p_self, h_p_self_enc, h_l_self_enc_probs, h_l_self_enc_front, ne_self_0, ne_self_1, hw⟩ := h
    refine ⟨_, (pss_cons (ps_expr (vx_methX c_SymbolWriter_number pat_SymbolWriter_number_0 (.head _) hr (by decide) (takes_of rfl rfl rfl rfl) (pv 0) (pa_cons (pv 1) (pa_cons (pe_callB call_abs (by rfl) T.b_abs (by decide +kernel) (pa_cons (pv 2) pa_nil)) pa_nil)) pk_nil))
      (pss_one (ps_if (pt_cmp (pc_neI (pv 2) pe_int)) (pss_one (ps_expr (vx_methX c_Encoder_code_even pat_Encoder_code_even_0 (.head _) hr (by decide) (takes_of rfl rfl rfl rfl) (fldK (K := K) (pv 0)) (pa_cons (pe_ifExp (pt_cmp (pc_lt (pv 2) pe_int)) pe_int pe_int) pa_nil) pk_nil))) pss_nil))), ?_⟩
    obtain ⟨KK, EE, hK0, hE, hw⟩ := cW_gen hw
    have S0 := Sep.startM (M := [p_self, p_self_enc, l_self_enc_probs, l_self_enc_front]) sG (all_cons (some_ne h_p_self) (all_cons (some_ne h_p_self_enc) (all_cons (some_ne h_l_self_enc_probs) (all_cons (some_ne h_l_self_enc_front) all_nil)))) gM
    unfold F_SymbolWriter_signed at hw
    refine ⟨_, rfl, _, _, _, rfl, h_p_self, rfl, _, rfl, _, rfl, _, rfl, rfl, rfl, G, _, _, _, _, _, _, self', _, _, rfl, S0.sG, (S0.gno (all_cons (.head _) (all_cons (.tail _ (.head _)) (all_cons (.tail _ (.tail _ (.head _))) (all_cons (.tail _ (.tail _ (.tail _ (.head _)))) all_nil))))), h_p_self, h_p_self_enc, h_l_self_enc_probs, h_l_self_enc_front, ne_self_0, ne_self_1, cW_call hw (fun v1085 hw H1086 x1087 h1089 h1090 h1091 h1092  => ?_) (fun e he H2 e2 => hE e he H2 (Same.trans (Same.refl _) e2))⟩
    have S1088 := S0.mut x1087 (all_cons (.head _) (all_cons (.tail _ (.head _)) (all_cons (.tail _ (.tail _ (.head _))) (all_cons (.tail _ (.tail _ (.tail _ (.head _)))) all_nil)))) (all_cons (some_ne h1089) (all_cons (some_ne h1090) (all_cons (some_ne h1091) (all_cons (some_ne h1092) all_nil))))
    refine ⟨_, rfl, _, _, rfl, rfl, _, rfl, ?_⟩
    refine iteN (fun c1097 => ?_) (fun c1097 => ?_)
    · have hw := cW_neg c1097 hw
      refine ⟨_, rfl, _, _, _, _, _, rfl, h1089, T.cl_SymbolWriter, T.n_SymbolWriter__encoder, rfl, _, _, _, rfl, h1090, rfl, ?_⟩
      refine vv_if (vt_cmp (vv_cmp (val_var rfl) val_c (fun Q q => ⟨_, _, rfl, rfl, q⟩))) val_c val_c _ ?_
      refine ⟨rfl, rfl, G, _, _, _, _, v1085.enc, _, rfl, S1088.sG, (S1088.gno (all_cons (.tail _ (.head _)) (all_cons (.tail _ (.tail _ (.head _))) (all_cons (.tail _ (.tail _ (.tail _ (.head _)))) all_nil)))), h1090, h1091, h1092, ne_self_0, cW_callN hw (fun v1101 hw H1102 x1103 h1105 h1106 h1107  => ?_) trivial⟩
      have S1104 := S1088.mut x1103 (all_cons (.tail _ (.head _)) (all_cons (.tail _ (.tail _ (.head _))) (all_cons (.tail _ (.tail _ (.tail _ (.head _)))) all_nil))) (all_cons (some_ne h1105) (all_cons (some_ne h1106) (all_cons (some_ne h1107) all_nil)))
      have h1112 := (x1103 _ _ h1089 (ni3 ne_self_1 (ne_of h1089 h1091 (fun z => nomatch z)) (ne_of h1089 h1092 (fun z => nomatch z))))
      have hw := cW_ok hw
      exact hK0 _ hw _ S1104.base h1112 h1105 h1106 h1107
    · have hw := cW_pos c1097 hw
      have hw := cW_ok hw
      exact hK0 _ hw _ S1088.base h1089 h1090 h1091 h1092

abbrev N_SymbolWriter_even : List Str := ["self", "decision"]
theorem sc_SymbolWriter_even : FnScope N_SymbolWriter_even ["self", "decision"] (defScope s_SymbolWriter_even) := ⟨rfl, rfl, rfl, by decide +kernel, rfl, by decide +kernel, by decide +kernel⟩
theorem ok_SymbolWriter_even (D : MethX K AD.c_SymbolWriter "SymbolWriter.even" "even" s_SymbolWriter_even ["self", "decision"] pats_SymbolWriter_even) (T : Txt K mg AD) (c_Encoder_code_even : MetX P w K mg base 3 AD.c_Encoder "code_even" (sp_Encoder_code_even K AD) pats_Encoder_code_even) : MetX P w K mg base 4 AD.c_SymbolWriter "even" (sp_SymbolWriter_even K AD) pats_SymbolWriter_even := by
  refine D.ok T.cl_SymbolWriter sc_SymbolWriter_even (fun vs H Q E h => ?_) (fun f cdv A_ outer s H vs Q E hr h => ?_)
  · obtain ⟨G, p_self, p_self_enc, l_self_enc_probs, l_self_enc_front, dx_self, dx_self_enc, self', decision', rfl, _⟩ := h
    rfl
  · obtain ⟨G, p_self, p_self_enc, l_self_enc_probs, l_self_enc_front, dx_self, dx_self_enc, self', decision', rfl, sG, gM, h_p_self, h_p_self_enc, h_l_self_enc_probs, h_l_self_enc_front, ne_self_0, ne_self_1, hw⟩ := h
    refine ⟨_, (pss_one (ps_expr (vx_methX c_Encoder_code_even pat_Encoder_code_even_0 (.head _) hr (by decide) (takes_of rfl rfl rfl rfl) (fldK (K := K) (pv 0)) (pa_cons (pv 1) pa_nil) pk_nil))), ?_⟩
    obtain ⟨KK, EE, hK0, hE, hw⟩ := cW_gen hw
    have S0 := Sep.startM (M := [p_self, p_self_enc, l_self_enc_probs, l_self_enc_front]) sG (all_cons (some_ne h_p_self) (all_cons (some_ne h_p_self_enc) (all_cons (some_ne h_l_self_enc_probs) (all_cons (some_ne h_l_self_enc_front) all_nil)))) gM
    unfold F_SymbolWriter_even at hw
    refine ⟨_, rfl, _, _, _, _, _, rfl, h_p_self, T.cl_SymbolWriter, T.n_SymbolWriter__encoder, rfl, _, _, _, rfl, h_p_self_enc, rfl, _, rfl, rfl, rfl, G, _, _, _, _, self'.enc, _, rfl, S0.sG, (S0.gno (all_cons (.tail _ (.head _)) (all_cons (.tail _ (.tail _ (.head _))) (all_cons (.tail _ (.tail _ (.tail _ (.head _)))) all_nil)))), h_p_self_enc, h_l_self_enc_probs, h_l_self_enc_front, ne_self_0, cW_call hw (fun v1113 hw H1114 x1115 h1117 h1118 h1119  => ?_) (fun e he H2 e2 => hE e he H2 (Same.trans (Same.refl _) e2))⟩
    have S1116 := S0.mut x1115 (all_cons (.tail _ (.head _)) (all_cons (.tail _ (.tail _ (.head _))) (all_cons (.tail _ (.tail _ (.tail _ (.head _)))) all_nil))) (all_cons (some_ne h1117) (all_cons (some_ne h1118) (all_cons (some_ne h1119) all_nil)))
    have h1124 := (x1115 _ _ h_p_self (ni3 ne_self_1 (ne_of h_p_self h_l_self_enc_probs (fun z => nomatch z)) (ne_of h_p_self h_l_self_enc_front (fun z => nomatch z))))
    have hw := cW_ok hw
    exact hK0 _ hw _ S1116.base h1124 h1117 h1118 h1119

abbrev N__law_put : List Str := ["writer", "symbol"]
theorem sc__law_put : FnScope N__law_put ["writer", "symbol"] (defScope s__law_put) := ⟨rfl, rfl, rfl, by decide +kernel, rfl, by decide +kernel, by decide +kernel⟩
theorem ok__law_put (D : DefX K mg "_law_put" s__law_put ["writer", "symbol"] pats__law_put) (T : Txt K mg AD) (c_SymbolWriter_flag : MetX P w K mg base 4 AD.c_SymbolWriter "flag" (sp_SymbolWriter_flag K AD) pats_SymbolWriter_flag) (c_SymbolWriter_choice : MetX P w K mg base 4 AD.c_SymbolWriter "choice" (sp_SymbolWriter_choice K AD) pats_SymbolWriter_choice) (c_SymbolWriter_unary : MetX P w K mg base 4 AD.c_SymbolWriter "unary" (sp_SymbolWriter_unary K AD) pats_SymbolWriter_unary) (c_SymbolWriter_number : MetX P w K mg base 5 AD.c_SymbolWriter "number" (sp_SymbolWriter_number K AD) pats_SymbolWriter_number) (c_SymbolWriter_signed : MetX P w K mg base 6 AD.c_SymbolWriter "signed" (sp_SymbolWriter_signed K AD) pats_SymbolWriter_signed) (c_SymbolWriter_even : MetX P w K mg base 4 AD.c_SymbolWriter "even" (sp_SymbolWriter_even K AD) pats_SymbolWriter_even) : CalX P w K mg base 7 "_law_put" (sp__law_put K AD) pats__law_put := by
  refine D.ok sc__law_put (fun vs H Q E h => ?_) (fun f cdv A_ outer s H vs Q E hr h => ?_)
  · obtain ⟨G, p_writer, p_writer_enc, l_writer_enc_probs, l_writer_enc_front, dx_writer, dx_writer_enc, writer', v_symbol, symbol', rfl, _⟩ := h
    rfl
  · obtain ⟨G, p_writer, p_writer_enc, l_writer_enc_probs, l_writer_enc_front, dx_writer, dx_writer_enc, writer', v_symbol, symbol', rfl, sG, gM, h_p_writer, h_p_writer_enc, h_l_writer_enc_probs, h_l_writer_enc_front, ne_writer_0, ne_writer_1, r_symbol, hw⟩ := h
    refine ⟨_, (pss_cons (ps_if (pt_cmp (pc_eqI (pe_ix (ix_tupK (K := K)) (pv 1) pe_int (fun _ _ => rfl)) pe_int)) (pss_one (ps_expr (vx_methX c_SymbolWriter_flag pat_SymbolWriter_flag_0 (.head _) hr (by decide) (takes_of rfl rfl rfl rfl) (pv 0) (pa_cons (pe_ix (ix_tupK (K := K)) (pv 1) pe_int (fun _ _ => rfl)) (pa_cons (pe_cmp (pc_eqI (pe_ix (ix_tupK (K := K)) (pv 1) pe_int (fun _ _ => rfl)) pe_int)) pa_nil)) pk_nil))) pss_nil)
      (pss_cons (ps_if (pt_cmp (pc_eqI (pe_ix (ix_tupK (K := K)) (pv 1) pe_int (fun _ _ => rfl)) pe_int)) (pss_one (ps_expr (vx_methX c_SymbolWriter_choice pat_SymbolWriter_choice_0 (.head _) hr (by decide) (takes_of rfl rfl rfl rfl) (pv 0) (pa_cons (pe_ix (ix_tupK (K := K)) (pv 1) pe_int (fun _ _ => rfl)) (pa_cons (pe_ix (ix_tupK (K := K)) (pv 1) pe_int (fun _ _ => rfl)) pa_nil)) (pk_cons (pe_ix (ix_tupK (K := K)) (pv 1) pe_int (fun _ _ => rfl)) pk_nil)))) pss_nil)
      (pss_cons (ps_if (pt_cmp (pc_eqI (pe_ix (ix_tupK (K := K)) (pv 1) pe_int (fun _ _ => rfl)) pe_int)) (pss_one (ps_expr (vx_methX c_SymbolWriter_unary pat_SymbolWriter_unary_0 (.head _) hr (by decide) (takes_of rfl rfl rfl rfl) (pv 0) (pa_cons (pe_ix (ix_tupK (K := K)) (pv 1) pe_int (fun _ _ => rfl)) (pa_cons (pe_ix (ix_tupK (K := K)) (pv 1) pe_int (fun _ _ => rfl)) pa_nil)) (pk_cons (pe_ix (ix_tupK (K := K)) (pv 1) pe_int (fun _ _ => rfl)) pk_nil)))) pss_nil)
      (pss_cons (ps_if (pt_cmp (pc_eqI (pe_ix (ix_tupK (K := K)) (pv 1) pe_int (fun _ _ => rfl)) pe_int)) (pss_one (ps_expr (vx_methX c_SymbolWriter_number pat_SymbolWriter_number_0 (.head _) hr (by decide) (takes_of rfl rfl rfl rfl) (pv 0) (pa_cons (pe_ix (ix_tupK (K := K)) (pv 1) pe_int (fun _ _ => rfl)) (pa_cons (pe_ix (ix_tupK (K := K)) (pv 1) pe_int (fun _ _ => rfl)) pa_nil)) pk_nil))) pss_nil)
      (pss_cons (ps_if (pt_cmp (pc_eqI (pe_ix (ix_tupK (K := K)) (pv 1) pe_int (fun _ _ => rfl)) pe_int)) (pss_one (ps_expr (vx_methX c_SymbolWriter_signed pat_SymbolWriter_signed_0 (.head _) hr (by decide) (takes_of rfl rfl rfl rfl) (pv 0) (pa_cons (pe_ix (ix_tupK (K := K)) (pv 1) pe_int (fun _ _ => rfl)) (pa_cons (pe_ix (ix_tupK (K := K)) (pv 1) pe_int (fun _ _ => rfl)) pa_nil)) pk_nil))) pss_nil)
      (pss_one (ps_if (pt_cmp (pc_eqI (pe_ix (ix_tupK (K := K)) (pv 1) pe_int (fun _ _ => rfl)) pe_int)) (pss_one (ps_expr (vx_methX c_SymbolWriter_even pat_SymbolWriter_even_0 (.head _) hr (by decide) (takes_of rfl rfl rfl rfl) (pv 0) (pa_cons (pe_ix (ix_tupK (K := K)) (pv 1) pe_int (fun _ _ => rfl)) pa_nil) pk_nil))) pss_nil))))))), ?_⟩
    obtain ⟨KK, EE, hK0, hE, hw⟩ := cW_gen hw
    have S0 := Sep.startM (M := [p_writer, p_writer_enc, l_writer_enc_probs, l_writer_enc_front]) sG (all_cons (some_ne h_p_writer) (all_cons (some_ne h_p_writer_enc) (all_cons (some_ne h_l_writer_enc_probs) (all_cons (some_ne h_l_writer_enc_front) all_nil)))) gM
    unfold F__law_put at hw
    obtain ⟨a1125, v1127, v1128, v1129, v1130, rfl, h1126, r1131, r1132, r1133, r1134⟩ := rp_tup4 r_symbol
    obtain rfl := rp_int r1131
    obtain rfl := rp_int r1132
    obtain rfl := rp_int r1133
    obtain rfl := rp_int r1134
    refine ⟨_, rfl, _, _, _, _, rfl, rfl, (SqT.of (S0.bM _ _ h1126)), rfl, _, _, rfl, rfl, _, rfl, ?_⟩
    refine iteD (fun c1135 => ?_) (fun c1135 => ?_)
    · have hw := cW_pos c1135 hw
      refine ⟨_, rfl, _, _, _, rfl, h_p_writer, rfl, _, rfl, _, _, _, _, rfl, rfl, (SqT.of (S0.bM _ _ h1126)), rfl, _, rfl, _, _, _, _, rfl, rfl, (SqT.of (S0.bM _ _ h1126)), rfl, _, _, rfl, rfl, rfl, rfl, G, _, _, _, _, _, _, writer', _, _, rfl, S0.sG, (S0.gno (all_cons (.head _) (all_cons (.tail _ (.head _)) (all_cons (.tail _ (.tail _ (.head _))) (all_cons (.tail _ (.tail _ (.tail _ (.head _)))) all_nil))))), h_p_writer, h_p_writer_enc, h_l_writer_enc_probs, h_l_writer_enc_front, ne_writer_0, ne_writer_1, cW_call hw (fun v1136 hw H1137 x1138 h1140 h1141 h1142 h1143  => ?_) (fun e he H2 e2 => hE e he H2 (Same.trans (Same.refl _) e2))⟩
      have S1139 := S0.mut x1138 (all_cons (.head _) (all_cons (.tail _ (.head _)) (all_cons (.tail _ (.tail _ (.head _))) (all_cons (.tail _ (.tail _ (.tail _ (.head _)))) all_nil)))) (all_cons (some_ne h1140) (all_cons (some_ne h1141) (all_cons (some_ne h1142) (all_cons (some_ne h1143) all_nil))))
      refine ⟨_, rfl, _, _, _, _, rfl, rfl, (SqT.of (S1139.bM _ _ h1126)), rfl, _, _, rfl, rfl, _, rfl, ?_⟩
      refine iteD (fun c1148 => ?_) (fun c1148 => ?_)
      · have hw := cW_pos c1148 hw
        refine ⟨_, rfl, _, _, _, rfl, h1140, rfl, _, rfl, _, _, _, _, rfl, rfl, (SqT.of (S1139.bM _ _ h1126)), rfl, _, rfl, _, _, _, _, rfl, rfl, (SqT.of (S1139.bM _ _ h1126)), rfl, _, rfl, _, _, _, _, rfl, rfl, (SqT.of (S1139.bM _ _ h1126)), rfl, rfl, rfl, G, _, _, _, _, _, _, v1136, _, _, _, rfl, S1139.sG, (S1139.gno (all_cons (.head _) (all_cons (.tail _ (.head _)) (all_cons (.tail _ (.tail _ (.head _))) (all_cons (.tail _ (.tail _ (.tail _ (.head _)))) all_nil))))), h1140, h1141, h1142, h1143, ne_writer_0, ne_writer_1, cW_callN hw (fun v1149 hw H1150 x1151 h1153 h1154 h1155 h1156  => ?_) trivial⟩
        have S1152 := S1139.mut x1151 (all_cons (.head _) (all_cons (.tail _ (.head _)) (all_cons (.tail _ (.tail _ (.head _))) (all_cons (.tail _ (.tail _ (.tail _ (.head _)))) all_nil)))) (all_cons (some_ne h1153) (all_cons (some_ne h1154) (all_cons (some_ne h1155) (all_cons (some_ne h1156) all_nil))))
        refine ⟨_, rfl, _, _, _, _, rfl, rfl, (SqT.of (S1152.bM _ _ h1126)), rfl, _, _, rfl, rfl, _, rfl, ?_⟩
        refine iteD (fun c1161 => ?_) (fun c1161 => ?_)
        · have hw := cW_pos c1161 hw
          refine ⟨_, rfl, _, _, _, rfl, h1153, rfl, _, rfl, _, _, _, _, rfl, rfl, (SqT.of (S1152.bM _ _ h1126)), rfl, _, rfl, _, _, _, _, rfl, rfl, (SqT.of (S1152.bM _ _ h1126)), rfl, _, rfl, _, _, _, _, rfl, rfl, (SqT.of (S1152.bM _ _ h1126)), rfl, rfl, rfl, G, _, _, _, _, _, _, v1149, _, _, _, rfl, S1152.sG, (S1152.gno (all_cons (.head _) (all_cons (.tail _ (.head _)) (all_cons (.tail _ (.tail _ (.head _))) (all_cons (.tail _ (.tail _ (.tail _ (.head _)))) all_nil))))), h1153, h1154, h1155, h1156, ne_writer_0, ne_writer_1, cW_callN hw (fun v1162 hw H1163 x1164 h1166 h1167 h1168 h1169  => ?_) trivial⟩
          have S1165 := S1152.mut x1164 (all_cons (.head _) (all_cons (.tail _ (.head _)) (all_cons (.tail _ (.tail _ (.head _))) (all_cons (.tail _ (.tail _ (.tail _ (.head _)))) all_nil)))) (all_cons (some_ne h1166) (all_cons (some_ne h1167) (all_cons (some_ne h1168) (all_cons (some_ne h1169) all_nil))))
          refine ⟨_, rfl, _, _, _, _, rfl, rfl, (SqT.of (S1165.bM _ _ h1126)), rfl, _, _, rfl, rfl, _, rfl, ?_⟩
          refine iteD (fun c1174 => ?_) (fun c1174 => ?_)
          · have hw := cW_pos c1174 hw
            refine ⟨_, rfl, _, _, _, rfl, h1166, rfl, _, rfl, _, _, _, _, rfl, rfl, (SqT.of (S1165.bM _ _ h1126)), rfl, _, rfl, _, _, _, _, rfl, rfl, (SqT.of (S1165.bM _ _ h1126)), rfl, rfl, rfl, G, _, _, _, _, _, _, v1162, _, _, rfl, S1165.sG, (S1165.gno (all_cons (.head _) (all_cons (.tail _ (.head _)) (all_cons (.tail _ (.tail _ (.head _))) (all_cons (.tail _ (.tail _ (.tail _ (.head _)))) all_nil))))), h1166, h1167, h1168, h1169, ne_writer_0, ne_writer_1, cW_callN hw (fun v1175 hw H1176 x1177 h1179 h1180 h1181 h1182  => ?_) trivial⟩
            have S1178 := S1165.mut x1177 (all_cons (.head _) (all_cons (.tail _ (.head _)) (all_cons (.tail _ (.tail _ (.head _))) (all_cons (.tail _ (.tail _ (.tail _ (.head _)))) all_nil)))) (all_cons (some_ne h1179) (all_cons (some_ne h1180) (all_cons (some_ne h1181) (all_cons (some_ne h1182) all_nil))))
            refine ⟨_, rfl, _, _, _, _, rfl, rfl, (SqT.of (S1178.bM _ _ h1126)), rfl, _, _, rfl, rfl, _, rfl, ?_⟩
            refine iteD (fun c1187 => ?_) (fun c1187 => ?_)
            · have hw := cW_pos c1187 hw
              refine ⟨_, rfl, _, _, _, rfl, h1179, rfl, _, rfl, _, _, _, _, rfl, rfl, (SqT.of (S1178.bM _ _ h1126)), rfl, _, rfl, _, _, _, _, rfl, rfl, (SqT.of (S1178.bM _ _ h1126)), rfl, rfl, rfl, G, _, _, _, _, _, _, v1175, _, _, rfl, S1178.sG, (S1178.gno (all_cons (.head _) (all_cons (.tail _ (.head _)) (all_cons (.tail _ (.tail _ (.head _))) (all_cons (.tail _ (.tail _ (.tail _ (.head _)))) all_nil))))), h1179, h1180, h1181, h1182, ne_writer_0, ne_writer_1, cW_callN hw (fun v1188 hw H1189 x1190 h1192 h1193 h1194 h1195  => ?_) trivial⟩
              have S1191 := S1178.mut x1190 (all_cons (.head _) (all_cons (.tail _ (.head _)) (all_cons (.tail _ (.tail _ (.head _))) (all_cons (.tail _ (.tail _ (.tail _ (.head _)))) all_nil)))) (all_cons (some_ne h1192) (all_cons (some_ne h1193) (all_cons (some_ne h1194) (all_cons (some_ne h1195) all_nil))))
              refine ⟨_, rfl, _, _, _, _, rfl, rfl, (SqT.of (S1191.bM _ _ h1126)), rfl, _, _, rfl, rfl, _, rfl, ?_⟩
              refine iteD (fun c1200 => ?_) (fun c1200 => ?_)
              · have hw := cW_pos c1200 hw
                refine ⟨_, rfl, _, _, _, rfl, h1192, rfl, _, rfl, _, _, _, _, rfl, rfl, (SqT.of (S1191.bM _ _ h1126)), rfl, rfl, rfl, G, _, _, _, _, _, _, v1188, _, rfl, S1191.sG, (S1191.gno (all_cons (.head _) (all_cons (.tail _ (.head _)) (all_cons (.tail _ (.tail _ (.head _))) (all_cons (.tail _ (.tail _ (.tail _ (.head _)))) all_nil))))), h1192, h1193, h1194, h1195, ne_writer_0, ne_writer_1, cW_callN hw (fun v1201 hw H1202 x1203 h1205 h1206 h1207 h1208  => ?_) trivial⟩
                have S1204 := S1191.mut x1203 (all_cons (.head _) (all_cons (.tail _ (.head _)) (all_cons (.tail _ (.tail _ (.head _))) (all_cons (.tail _ (.tail _ (.tail _ (.head _)))) all_nil)))) (all_cons (some_ne h1205) (all_cons (some_ne h1206) (all_cons (some_ne h1207) (all_cons (some_ne h1208) all_nil))))
                have hw := cW_ok hw
                exact hK0 _ hw _ S1204.base h1205 h1206 h1207 h1208
              · have hw := cW_neg c1200 hw
                have hw := cW_ok hw
                exact hK0 _ hw _ S1191.base h1192 h1193 h1194 h1195
            · have hw := cW_neg c1187 hw
              refine ⟨_, rfl, _, _, _, _, rfl, rfl, (SqT.of (S1178.bM _ _ h1126)), rfl, _, _, rfl, rfl, _, rfl, ?_⟩
              refine iteD (fun c1213 => ?_) (fun c1213 => ?_)
              · have hw := cW_pos c1213 hw
                refine ⟨_, rfl, _, _, _, rfl, h1179, rfl, _, rfl, _, _, _, _, rfl, rfl, (SqT.of (S1178.bM _ _ h1126)), rfl, rfl, rfl, G, _, _, _, _, _, _, v1175, _, rfl, S1178.sG, (S1178.gno (all_cons (.head _) (all_cons (.tail _ (.head _)) (all_cons (.tail _ (.tail _ (.head _))) (all_cons (.tail _ (.tail _ (.tail _ (.head _)))) all_nil))))), h1179, h1180, h1181, h1182, ne_writer_0, ne_writer_1, cW_callN hw (fun v1214 hw H1215 x1216 h1218 h1219 h1220 h1221  => ?_) trivial⟩
                have S1217 := S1178.mut x1216 (all_cons (.head _) (all_cons (.tail _ (.head _)) (all_cons (.tail _ (.tail _ (.head _))) (all_cons (.tail _ (.tail _ (.tail _ (.head _)))) all_nil)))) (all_cons (some_ne h1218) (all_cons (some_ne h1219) (all_cons (some_ne h1220) (all_cons (some_ne h1221) all_nil))))
                have hw := cW_ok hw
                exact hK0 _ hw _ S1217.base h1218 h1219 h1220 h1221
              · have hw := cW_neg c1213 hw
                have hw := cW_ok hw
                exact hK0 _ hw _ S1178.base h1179 h1180 h1181 h1182
          · have hw := cW_neg c1174 hw
            refine ⟨_, rfl, _, _, _, _, rfl, rfl, (SqT.of (S1165.bM _ _ h1126)), rfl, _, _, rfl, rfl, _, rfl, ?_⟩
            refine iteD (fun c1226 => ?_) (fun c1226 => ?_)
            · have hw := cW_pos c1226 hw
              refine ⟨_, rfl, _, _, _, rfl, h1166, rfl, _, rfl, _, _, _, _, rfl, rfl, (SqT.of (S1165.bM _ _ h1126)), rfl, _, rfl, _, _, _, _, rfl, rfl, (SqT.of (S1165.bM _ _ h1126)), rfl, rfl, rfl, G, _, _, _, _, _, _, v1162, _, _, rfl, S1165.sG, (S1165.gno (all_cons (.head _) (all_cons (.tail _ (.head _)) (all_cons (.tail _ (.tail _ (.head _))) (all_cons (.tail _ (.tail _ (.tail _ (.head _)))) all_nil))))), h1166, h1167, h1168, h1169, ne_writer_0, ne_writer_1, cW_callN hw (fun v1227 hw H1228 x1229 h1231 h1232 h1233 h1234  => ?_) trivial⟩
              have S1230 := S1165.mut x1229 (all_cons (.head _) (all_cons (.tail _ (.head _)) (all_cons (.tail _ (.tail _ (.head _))) (all_cons (.tail _ (.tail _ (.tail _ (.head _)))) all_nil)))) (all_cons (some_ne h1231) (all_cons (some_ne h1232) (all_cons (some_ne h1233) (all_cons (some_ne h1234) all_nil))))
              refine ⟨_, rfl, _, _, _, _, rfl, rfl, (SqT.of (S1230.bM _ _ h1126)), rfl, _, _, rfl, rfl, _, rfl, ?_⟩
              refine iteD (fun c1239 => ?_) (fun c1239 => ?_)
              · have hw := cW_pos c1239 hw
                refine ⟨_, rfl, _, _, _, rfl, h1231, rfl, _, rfl, _, _, _, _, rfl, rfl, (SqT.of (S1230.bM _ _ h1126)), rfl, rfl, rfl, G, _, _, _, _, _, _, v1227, _, rfl, S1230.sG, (S1230.gno (all_cons (.head _) (all_cons (.tail _ (.head _)) (all_cons (.tail _ (.tail _ (.head _))) (all_cons (.tail _ (.tail _ (.tail _ (.head _)))) all_nil))))), h1231, h1232, h1233, h1234, ne_writer_0, ne_writer_1, cW_callN hw (fun v1240 hw H1241 x1242 h1244 h1245 h1246 h1247  => ?_) trivial⟩
                have S1243 := S1230.mut x1242 (all_cons (.head _) (all_cons (.tail _ (.head _)) (all_cons (.tail _ (.tail _ (.head _))) (all_cons (.tail _ (.tail _ (.tail _ (.head _)))) all_nil)))) (all_cons (some_ne h1244) (all_cons (some_ne h1245) (all_cons (some_ne h1246) (all_cons (some_ne h1247) all_nil))))
                have hw := cW_ok hw
                exact hK0 _ hw _ S1243.base h1244 h1245 h1246 h1247
              · have hw := cW_neg c1239 hw
                have hw := cW_ok hw
                exact hK0 _ hw _ S1230.base h1231 h1232 h1233 h1234
            · have hw := cW_neg c1226 hw
              refine ⟨_, rfl, _, _, _, _, rfl, rfl, (SqT.of (S1165.bM _ _ h1126)), rfl, _, _, rfl, rfl, _, rfl, ?_⟩
              refine iteD (fun c1252 => ?_) (fun c1252 => ?_)
              · have hw := cW_pos c1252 hw
                refine ⟨_, rfl, _, _, _, rfl, h1166, rfl, _, rfl, _, _, _, _, rfl, rfl, (SqT.of (S1165.bM _ _ h1126)), rfl, rfl, rfl, G, _, _, _, _, _, _, v1162, _, rfl, S1165.sG, (S1165.gno (all_cons (.head _) (all_cons (.tail _ (.head _)) (all_cons (.tail _ (.tail _ (.head _))) (all_cons (.tail _ (.tail _ (.tail _ (.head _)))) all_nil))))), h1166, h1167, h1168, h1169, ne_writer_0, ne_writer_1, cW_callN hw (fun v1253 hw H1254 x1255 h1257 h1258 h1259 h1260  => ?_) trivial⟩
                have S1256 := S1165.mut x1255 (all_cons (.head _) (all_cons (.tail _ (.head _)) (all_cons (.tail _ (.tail _ (.head _))) (all_cons (.tail _ (.tail _ (.tail _ (.head _)))) all_nil)))) (all_cons (some_ne h1257) (all_cons (some_ne h1258) (all_cons (some_ne h1259) (all_cons (some_ne h1260) all_nil))))
                have hw := cW_ok hw
                exact hK0 _ hw _ S1256.base h1257 h1258 h1259 h1260
              · have hw := cW_neg c1252 hw
                have hw := cW_ok hw
                exact hK0 _ hw _ S1165.base h1166 h1167 h1168 h1169
        · have hw := cW_neg c1161 hw
          refine ⟨_, rfl, _, _, _, _, rfl, rfl, (SqT.of (S1152.bM _ _ h1126)), rfl, _, _, rfl, rfl, _, rfl, ?_⟩
          refine iteD (fun c1265 => ?_) (fun c1265 => ?_)
          · have hw := cW_pos c1265 hw
            refine ⟨_, rfl, _, _, _, rfl, h1153, rfl, _, rfl, _, _, _, _, rfl, rfl, (SqT.of (S1152.bM _ _ h1126)), rfl, _, rfl, _, _, _, _, rfl, rfl, (SqT.of (S1152.bM _ _ h1126)), rfl, rfl, rfl, G, _, _, _, _, _, _, v1149, _, _, rfl, S1152.sG, (S1152.gno (all_cons (.head _) (all_cons (.tail _ (.head _)) (all_cons (.tail _ (.tail _ (.head _))) (all_cons (.tail _ (.tail _ (.tail _ (.head _)))) all_nil))))), h1153, h1154, h1155, h1156, ne_writer_0, ne_writer_1, cW_callN hw (fun v1266 hw H1267 x1268 h1270 h1271 h1272 h1273  => ?_) trivial⟩
            have S1269 := S1152.mut x1268 (all_cons (.head _) (all_cons (.tail _ (.head _)) (all_cons (.tail _ (.tail _ (.head _))) (all_cons (.tail _ (.tail _ (.tail _ (.head _)))) all_nil)))) (all_cons (some_ne h1270) (all_cons (some_ne h1271) (all_cons (some_ne h1272) (all_cons (some_ne h1273) all_nil))))
            refine ⟨_, rfl, _, _, _, _, rfl, rfl, (SqT.of (S1269.bM _ _ h1126)), rfl, _, _, rfl, rfl, _, rfl, ?_⟩
            refine iteD (fun c1278 => ?_) (fun c1278 => ?_)
            · have hw := cW_pos c1278 hw
              refine ⟨_, rfl, _, _, _, rfl, h1270, rfl, _, rfl, _, _, _, _, rfl, rfl, (SqT.of (S1269.bM _ _ h1126)), rfl, _, rfl, _, _, _, _, rfl, rfl, (SqT.of (S1269.bM _ _ h1126)), rfl, rfl, rfl, G, _, _, _, _, _, _, v1266, _, _, rfl, S1269.sG, (S1269.gno (all_cons (.head _) (all_cons (.tail _ (.head _)) (all_cons (.tail _ (.tail _ (.head _))) (all_cons (.tail _ (.tail _ (.tail _ (.head _)))) all_nil))))), h1270, h1271, h1272, h1273, ne_writer_0, ne_writer_1, cW_callN hw (fun v1279 hw H1280 x1281 h1283 h1284 h1285 h1286  => ?_) trivial⟩
              have S1282 := S1269.mut x1281 (all_cons (.head _) (all_cons (.tail _ (.head _)) (all_cons (.tail _ (.tail _ (.head _))) (all_cons (.tail _ (.tail _ (.tail _ (.head _)))) all_nil)))) (all_cons (some_ne h1283) (all_cons (some_ne h1284) (all_cons (some_ne h1285) (all_cons (some_ne h1286) all_nil))))
              refine ⟨_, rfl, _, _, _, _, rfl, rfl, (SqT.of (S1282.bM _ _ h1126)), rfl, _, _, rfl, rfl, _, rfl, ?_⟩
              refine iteD (fun c1291 => ?_) (fun c1291 => ?_)
              · have hw := cW_pos c1291 hw
                refine ⟨_, rfl, _, _, _, rfl, h1283, rfl, _, rfl, _, _, _, _, rfl, rfl, (SqT.of (S1282.bM _ _ h1126)), rfl, rfl, rfl, G, _, _, _, _, _, _, v1279, _, rfl, S1282.sG, (S1282.gno (all_cons (.head _) (all_cons (.tail _ (.head _)) (all_cons (.tail _ (.tail _ (.head _))) (all_cons (.tail _ (.tail _ (.tail _ (.head _)))) all_nil))))), h1283, h1284, h1285, h1286, ne_writer_0, ne_writer_1, cW_callN hw (fun v1292 hw H1293 x1294 h1296 h1297 h1298 h1299  => ?_) trivial⟩
                have S1295 := S1282.mut x1294 (all_cons (.head _) (all_cons (.tail _ (.head _)) (all_cons (.tail _ (.tail _ (.head _))) (all_cons (.tail _ (.tail _ (.tail _ (.head _)))) all_nil)))) (all_cons (some_ne h1296) (all_cons (some_ne h1297) (all_cons (some_ne h1298) (all_cons (some_ne h1299) all_nil))))
                have hw := cW_ok hw
                exact hK0 _ hw _ S1295.base h1296 h1297 h1298 h1299
              · have hw := cW_neg c1291 hw
                have hw := cW_ok hw
                exact hK0 _ hw _ S1282.base h1283 h1284 h1285 h1286
            · have hw := cW_neg c1278 hw
              refine ⟨_, rfl, _, _, _, _, rfl, rfl, (SqT.of (S1269.bM _ _ h1126)), rfl, _, _, rfl, rfl, _, rfl, ?_⟩
              refine iteD (fun c1304 => ?_) (fun c1304 => ?_)
              · have hw := cW_pos c1304 hw
                refine ⟨_, rfl, _, _, _, rfl, h1270, rfl, _, rfl, _, _, _, _, rfl, rfl, (SqT.of (S1269.bM _ _ h1126)), rfl, rfl, rfl, G, _, _, _, _, _, _, v1266, _, rfl, S1269.sG, (S1269.gno (all_cons (.head _) (all_cons (.tail _ (.head _)) (all_cons (.tail _ (.tail _ (.head _))) (all_cons (.tail _ (.tail _ (.tail _ (.head _)))) all_nil))))), h1270, h1271, h1272, h1273, ne_writer_0, ne_writer_1, cW_callN hw (fun v1305 hw H1306 x1307 h1309 h1310 h1311 h1312  => ?_) trivial⟩
                have S1308 := S1269.mut x1307 (all_cons (.head _) (all_cons (.tail _ (.head _)) (all_cons (.tail _ (.tail _ (.head _))) (all_cons (.tail _ (.tail _ (.tail _ (.head _)))) all_nil)))) (all_cons (some_ne h1309) (all_cons (some_ne h1310) (all_cons (some_ne h1311) (all_cons (some_ne h1312) all_nil))))
                have hw := cW_ok hw
                exact hK0 _ hw _ S1308.base h1309 h1310 h1311 h1312
              · have hw := cW_neg c1304 hw
                have hw := cW_ok hw
                exact hK0 _ hw _ S1269.base h1270 h1271 h1272 h1273
          · have hw := cW_neg c1265 hw
            refine ⟨_, rfl, _, _, _, _, rfl, rfl, (SqT.of (S1152.bM _ _ h1126)), rfl, _, _, rfl, rfl, _, rfl, ?_⟩
            refine iteD (fun c1317 => ?_) (fun c1317 => ?_)
            · have hw := cW_pos c1317 hw
              refine ⟨_, rfl, _, _, _, rfl, h1153, rfl, _, rfl, _, _, _, _, rfl, rfl, (SqT.of (S1152.bM _ _ h1126)), rfl, _, rfl, _, _, _, _, rfl, rfl, (SqT.of (S1152.bM _ _ h1126)), rfl, rfl, rfl, G, _, _, _, _, _, _, v1149, _, _, rfl, S1152.sG, (S1152.gno (all_cons (.head _) (all_cons (.tail _ (.head _)) (all_cons (.tail _ (.tail _ (.head _))) (all_cons (.tail _ (.tail _ (.tail _ (.head _)))) all_nil))))), h1153, h1154, h1155, h1156, ne_writer_0, ne_writer_1, cW_callN hw (fun v1318 hw H1319 x1320 h1322 h1323 h1324 h1325  => ?_) trivial⟩
              have S1321 := S1152.mut x1320 (all_cons (.head _) (all_cons (.tail _ (.head _)) (all_cons (.tail _ (.tail _ (.head _))) (all_cons (.tail _ (.tail _ (.tail _ (.head _)))) all_nil)))) (all_cons (some_ne h1322) (all_cons (some_ne h1323) (all_cons (some_ne h1324) (all_cons (some_ne h1325) all_nil))))
              refine ⟨_, rfl, _, _, _, _, rfl, rfl, (SqT.of (S1321.bM _ _ h1126)), rfl, _, _, rfl, rfl, _, rfl, ?_⟩
              refine iteD (fun c1330 => ?_) (fun c1330 => ?_)
              · have hw := cW_pos c1330 hw
                refine ⟨_, rfl, _, _, _, rfl, h1322, rfl, _, rfl, _, _, _, _, rfl, rfl, (SqT.of (S1321.bM _ _ h1126)), rfl, rfl, rfl, G, _, _, _, _, _, _, v1318, _, rfl, S1321.sG, (S1321.gno (all_cons (.head _) (all_cons (.tail _ (.head _)) (all_cons (.tail _ (.tail _ (.head _))) (all_cons (.tail _ (.tail _ (.tail _ (.head _)))) all_nil))))), h1322, h1323, h1324, h1325, ne_writer_0, ne_writer_1, cW_callN hw (fun v1331 hw H1332 x1333 h1335 h1336 h1337 h1338  => ?_) trivial⟩
                have S1334 := S1321.mut x1333 (all_cons (.head _) (all_cons (.tail _ (.head _)) (all_cons (.tail _ (.tail _ (.head _))) (all_cons (.tail _ (.tail _ (.tail _ (.head _)))) all_nil)))) (all_cons (some_ne h1335) (all_cons (some_ne h1336) (all_cons (some_ne h1337) (all_cons (some_ne h1338) all_nil))))
                have hw := cW_ok hw
                exact hK0 _ hw _ S1334.base h1335 h1336 h1337 h1338
              · have hw := cW_neg c1330 hw
                have hw := cW_ok hw
                exact hK0 _ hw _ S1321.base h1322 h1323 h1324 h1325
            · have hw := cW_neg c1317 hw
              refine ⟨_, rfl, _, _, _, _, rfl, rfl, (SqT.of (S1152.bM _ _ h1126)), rfl, _, _, rfl, rfl, _, rfl, ?_⟩
              refine iteD (fun c1343 => ?_) (fun c1343 => ?_)
              · have hw := cW_pos c1343 hw
                refine ⟨_, rfl, _, _, _, rfl, h1153, rfl, _, rfl, _, _, _, _, rfl, rfl, (SqT.of (S1152.bM _ _ h1126)), rfl, rfl, rfl, G, _, _, _, _, _, _, v1149, _, rfl, S1152.sG, (S1152.gno (all_cons (.head _) (all_cons (.tail _ (.head _)) (all_cons (.tail _ (.tail _ (.head _))) (all_cons (.tail _ (.tail _ (.tail _ (.head _)))) all_nil))))), h1153, h1154, h1155, h1156, ne_writer_0, ne_writer_1, cW_callN hw (fun v1344 hw H1345 x1346 h1348 h1349 h1350 h1351  => ?_) trivial⟩
                have S1347 := S1152.mut x1346 (all_cons (.head _) (all_cons (.tail _ (.head _)) (all_cons (.tail _ (.tail _ (.head _))) (all_cons (.tail _ (.tail _ (.tail _ (.head _)))) all_nil)))) (all_cons (some_ne h1348) (all_cons (some_ne h1349) (all_cons (some_ne h1350) (all_cons (some_ne h1351) all_nil))))
                have hw := cW_ok hw
                exact hK0 _ hw _ S1347.base h1348 h1349 h1350 h1351
              · have hw := cW_neg c1343 hw
                have hw := cW_ok hw
                exact hK0 _ hw _ S1152.base h1153 h1154 h1155 h1156
      · have hw := cW_neg c1148 hw
        refine ⟨_, rfl, _, _, _, _, rfl, rfl, (SqT.of (S1139.bM _ _ h1126)), rfl, _, _, rfl, rfl, _, rfl, ?_⟩
        refine iteD (fun c1356 => ?_) (fun c1356 => ?_)
        · have hw := cW_pos c1356 hw
          refine ⟨_, rfl, _, _, _, rfl, h1140, rfl, _, rfl, _, _, _, _, rfl, rfl, (SqT.of (S1139.bM _ _ h1126)), rfl, _, rfl, _, _, _, _, rfl, rfl, (SqT.of (S1139.bM _ _ h1126)), rfl, _, rfl, _, _, _, _, rfl, rfl, (SqT.of (S1139.bM _ _ h1126)), rfl, rfl, rfl, G, _, _, _, _, _, _, v1136, _, _, _, rfl, S1139.sG, (S1139.gno (all_cons (.head _) (all_cons (.tail _ (.head _)) (all_cons (.tail _ (.tail _ (.head _))) (all_cons (.tail _ (.tail _ (.tail _ (.head _)))) all_nil))))), h1140, h1141, h1142, h1143, ne_writer_0, ne_writer_1, cW_callN hw (fun v1357 hw H1358 x1359 h1361 h1362 h1363 h1364  => ?_) trivial⟩
          have S1360 := S1139.mut x1359 (all_cons (.head _) (all_cons (.tail _ (.head _)) (all_cons (.tail _ (.tail _ (.head _))) (all_cons (.tail _ (.tail _ (.tail _ (.head _)))) all_nil)))) (all_cons (some_ne h1361) (all_cons (some_ne h1362) (all_cons (some_ne h1363) (all_cons (some_ne h1364) all_nil))))
          refine ⟨_, rfl, _, _, _, _, rfl, rfl, (SqT.of (S1360.bM _ _ h1126)), rfl, _, _, rfl, rfl, _, rfl, ?_⟩
          refine iteD (fun c1369 => ?_) (fun c1369 => ?_)
          · have hw := cW_pos c1369 hw
            refine ⟨_, rfl, _, _, _, rfl, h1361, rfl, _, rfl, _, _, _, _, rfl, rfl, (SqT.of (S1360.bM _ _ h1126)), rfl, _, rfl, _, _, _, _, rfl, rfl, (SqT.of (S1360.bM _ _ h1126)), rfl, rfl, rfl, G, _, _, _, _, _, _, v1357, _, _, rfl, S1360.sG, (S1360.gno (all_cons (.head _) (all_cons (.tail _ (.head _)) (all_cons (.tail _ (.tail _ (.head _))) (all_cons (.tail _ (.tail _ (.tail _ (.head _)))) all_nil))))), h1361, h1362, h1363, h1364, ne_writer_0, ne_writer_1, cW_callN hw (fun v1370 hw H1371 x1372 h1374 h1375 h1376 h1377  => ?_) trivial⟩
            have S1373 := S1360.mut x1372 (all_cons (.head _) (all_cons (.tail _ (.head _)) (all_cons (.tail _ (.tail _ (.head _))) (all_cons (.tail _ (.tail _ (.tail _ (.head _)))) all_nil)))) (all_cons (some_ne h1374) (all_cons (some_ne h1375) (all_cons (some_ne h1376) (all_cons (some_ne h1377) all_nil))))
            refine ⟨_, rfl, _, _, _, _, rfl, rfl, (SqT.of (S1373.bM _ _ h1126)), rfl, _, _, rfl, rfl, _, rfl, ?_⟩
            refine iteD (fun c1382 => ?_) (fun c1382 => ?_)
            · have hw := cW_pos c1382 hw
              refine ⟨_, rfl, _, _, _, rfl, h1374, rfl, _, rfl, _, _, _, _, rfl, rfl, (SqT.of (S1373.bM _ _ h1126)), rfl, _, rfl, _, _, _, _, rfl, rfl, (SqT.of (S1373.bM _ _ h1126)), rfl, rfl, rfl, G, _, _, _, _, _, _, v1370, _, _, rfl, S1373.sG, (S1373.gno (all_cons (.head _) (all_cons (.tail _ (.head _)) (all_cons (.tail _ (.tail _ (.head _))) (all_cons (.tail _ (.tail _ (.tail _ (.head _)))) all_nil))))), h1374, h1375, h1376, h1377, ne_writer_0, ne_writer_1, cW_callN hw (fun v1383 hw H1384 x1385 h1387 h1388 h1389 h1390  => ?_) trivial⟩
              have S1386 := S1373.mut x1385 (all_cons (.head _) (all_cons (.tail _ (.head _)) (all_cons (.tail _ (.tail _ (.head _))) (all_cons (.tail _ (.tail _ (.tail _ (.head _)))) all_nil)))) (all_cons (some_ne h1387) (all_cons (some_ne h1388) (all_cons (some_ne h1389) (all_cons (some_ne h1390) all_nil))))
              refine ⟨_, rfl, _, _, _, _, rfl, rfl, (SqT.of (S1386.bM _ _ h1126)), rfl, _, _, rfl, rfl, _, rfl, ?_⟩
              refine iteD (fun c1395 => ?_) (fun c1395 => ?_)
              · have hw := cW_pos c1395 hw
                refine ⟨_, rfl, _, _, _, rfl, h1387, rfl, _, rfl, _, _, _, _, rfl, rfl, (SqT.of (S1386.bM _ _ h1126)), rfl, rfl, rfl, G, _, _, _, _, _, _, v1383, _, rfl, S1386.sG, (S1386.gno (all_cons (.head _) (all_cons (.tail _ (.head _)) (all_cons (.tail _ (.tail _ (.head _))) (all_cons (.tail _ (.tail _ (.tail _ (.head _)))) all_nil))))), h1387, h1388, h1389, h1390, ne_writer_0, ne_writer_1, cW_callN hw (fun v1396 hw H1397 x1398 h1400 h1401 h1402 h1403  => ?_) trivial⟩
                have S1399 := S1386.mut x1398 (all_cons (.head _) (all_cons (.tail _ (.head _)) (all_cons (.tail _ (.tail _ (.head _))) (all_cons (.tail _ (.tail _ (.tail _ (.head _)))) all_nil)))) (all_cons (some_ne h1400) (all_cons (some_ne h1401) (all_cons (some_ne h1402) (all_cons (some_ne h1403) all_nil))))
                have hw := cW_ok hw
                exact hK0 _ hw _ S1399.base h1400 h1401 h1402 h1403
              · have hw := cW_neg c1395 hw
                have hw := cW_ok hw
                exact hK0 _ hw _ S1386.base h1387 h1388 h1389 h1390
            · have hw := cW_neg c1382 hw
              refine ⟨_, rfl, _, _, _, _, rfl, rfl, (SqT.of (S1373.bM _ _ h1126)), rfl, _, _, rfl, rfl, _, rfl, ?_⟩
              refine iteD (fun c1408 => ?_) (fun c1408 => ?_)
              · have hw := cW_pos c1408 hw
                refine ⟨_, rfl, _, _, _, rfl, h1374, rfl, _, rfl, _, _, _, _, rfl, rfl, (SqT.of (S1373.bM _ _ h1126)), rfl, rfl, rfl, G, _, _, _, _, _, _, v1370, _, rfl, S1373.sG, (S1373.gno (all_cons (.head _) (all_cons (.tail _ (.head _)) (all_cons (.tail _ (.tail _ (.head _))) (all_cons (.tail _ (.tail _ (.tail _ (.head _)))) all_nil))))), h1374, h1375, h1376, h1377, ne_writer_0, ne_writer_1, cW_callN hw (fun v1409 hw H1410 x1411 h1413 h1414 h1415 h1416  => ?_) trivial⟩
                have S1412 := S1373.mut x1411 (all_cons (.head _) (all_cons (.tail _ (.head _)) (all_cons (.tail _ (.tail _ (.head _))) (all_cons (.tail _ (.tail _ (.tail _ (.head _)))) all_nil)))) (all_cons (some_ne h1413) (all_cons (some_ne h1414) (all_cons (some_ne h1415) (all_cons (some_ne h1416) all_nil))))
                have hw := cW_ok hw
                exact hK0 _ hw _ S1412.base h1413 h1414 h1415 h1416
              · have hw := cW_neg c1408 hw
                have hw := cW_ok hw
                exact hK0 _ hw _ S1373.base h1374 h1375 h1376 h1377
          · have hw := cW_neg c1369 hw
            refine ⟨_, rfl, _, _, _, _, rfl, rfl, (SqT.of (S1360.bM _ _ h1126)), rfl, _, _, rfl, rfl, _, rfl, ?_⟩
            refine iteD (fun c1421 => ?_) (fun c1421 => ?_)
            · have hw := cW_pos c1421 hw
              refine ⟨_, rfl, _, _, _, rfl, h1361, rfl, _, rfl, _, _, _, _, rfl, rfl, (SqT.of (S1360.bM _ _ h1126)), rfl, _, rfl, _, _, _, _, rfl, rfl, (SqT.of (S1360.bM _ _ h1126)), rfl, rfl, rfl, G, _, _, _, _, _, _, v1357, _, _, rfl, S1360.sG, (S1360.gno (all_cons (.head _) (all_cons (.tail _ (.head _)) (all_cons (.tail _ (.tail _ (.head _))) (all_cons (.tail _ (.tail _ (.tail _ (.head _)))) all_nil))))), h1361, h1362, h1363, h1364, ne_writer_0, ne_writer_1, cW_callN hw (fun v1422 hw H1423 x1424 h1426 h1427 h1428 h1429  => ?_) trivial⟩
              have S1425 := S1360.mut x1424 (all_cons (.head _) (all_cons (.tail _ (.head _)) (all_cons (.tail _ (.tail _ (.head _))) (all_cons (.tail _ (.tail _ (.tail _ (.head _)))) all_nil)))) (all_cons (some_ne h1426) (all_cons (some_ne h1427) (all_cons (some_ne h1428) (all_cons (some_ne h1429) all_nil))))
              refine ⟨_, rfl, _, _, _, _, rfl, rfl, (SqT.of (S1425.bM _ _ h1126)), rfl, _, _, rfl, rfl, _, rfl, ?_⟩
              refine iteD (fun c1434 => ?_) (fun c1434 => ?_)
              · have hw := cW_pos c1434 hw
                refine ⟨_, rfl, _, _, _, rfl, h1426, rfl, _, rfl, _, _, _, _, rfl, rfl, (SqT.of (S1425.bM _ _ h1126)), rfl, rfl, rfl, G, _, _, _, _, _, _, v1422, _, rfl, S1425.sG, (S1425.gno (all_cons (.head _) (all_cons (.tail _ (.head _)) (all_cons (.tail _ (.tail _ (.head _))) (all_cons (.tail _ (.tail _ (.tail _ (.head _)))) all_nil))))), h1426, h1427, h1428, h1429, ne_writer_0, ne_writer_1, cW_callN hw (fun v1435 hw H1436 x1437 h1439 h1440 h1441 h1442  => ?_) trivial⟩
                have S1438 := S1425.mut x1437 (all_cons (.head _) (all_cons (.tail _ (.head _)) (all_cons (.tail _ (.tail _ (.head _))) (all_cons (.tail _ (.tail _ (.tail _ (.head _)))) all_nil)))) (all_cons (some_ne h1439) (all_cons (some_ne h1440) (all_cons (some_ne h1441) (all_cons (some_ne h1442) all_nil))))
                have hw := cW_ok hw
                exact hK0 _ hw _ S1438.base h1439 h1440 h1441 h1442
              · have hw := cW_neg c1434 hw
                have hw := cW_ok hw
                exact hK0 _ hw _ S1425.base h1426 h1427 h1428 h1429
            · have hw := cW_neg c1421 hw
              refine ⟨_, rfl, _, _, _, _, rfl, rfl, (SqT.of (S1360.bM _ _ h1126)), rfl, _, _, rfl, rfl, _, rfl, ?_⟩
              refine iteD (fun c1447 => ?_) (fun c1447 => ?_)
              · have hw := cW_pos c1447 hw
                refine ⟨_, rfl, _, _, _, rfl, h1361, rfl, _, rfl, _, _, _, _, rfl, rfl, (SqT.of (S1360.bM _ _ h1126)), rfl, rfl, rfl, G, _, _, _, _, _, _, v1357, _, rfl, S1360.sG, (S1360.gno (all_cons (.head _) (all_cons (.tail _ (.head _)) (all_cons (.tail _ (.tail _ (.head _))) (all_cons (.tail _ (.tail _ (.tail _ (.head _)))) all_nil))))), h1361, h1362, h1363, h1364, ne_writer_0, ne_writer_1, cW_callN hw (fun v1448 hw H1449 x1450 h1452 h1453 h1454 h1455  => ?_) trivial⟩
                have S1451 := S1360.mut x1450 (all_cons (.head _) (all_cons (.tail _ (.head _)) (all_cons (.tail _ (.tail _ (.head _))) (all_cons (.tail _ (.tail _ (.tail _ (.head _)))) all_nil)))) (all_cons (some_ne h1452) (all_cons (some_ne h1453) (all_cons (some_ne h1454) (all_cons (some_ne h1455) all_nil))))
                have hw := cW_ok hw
                exact hK0 _ hw _ S1451.base h1452 h1453 h1454 h1455
              · have hw := cW_neg c1447 hw
                have hw := cW_ok hw
                exact hK0 _ hw _ S1360.base h1361 h1362 h1363 h1364
        · have hw := cW_neg c1356 hw
          refine ⟨_, rfl, _, _, _, _, rfl, rfl, (SqT.of (S1139.bM _ _ h1126)), rfl, _, _, rfl, rfl, _, rfl, ?_⟩
          refine iteD (fun c1460 => ?_) (fun c1460 => ?_)
          · have hw := cW_pos c1460 hw
            refine ⟨_, rfl, _, _, _, rfl, h1140, rfl, _, rfl, _, _, _, _, rfl, rfl, (SqT.of (S1139.bM _ _ h1126)), rfl, _, rfl, _, _, _, _, rfl, rfl, (SqT.of (S1139.bM _ _ h1126)), rfl, rfl, rfl, G, _, _, _, _, _, _, v1136, _, _, rfl, S1139.sG, (S1139.gno (all_cons (.head _) (all_cons (.tail _ (.head _)) (all_cons (.tail _ (.tail _ (.head _))) (all_cons (.tail _ (.tail _ (.tail _ (.head _)))) all_nil))))), h1140, h1141, h1142, h1143, ne_writer_0, ne_writer_1, cW_callN hw (fun v1461 hw H1462 x1463 h1465 h1466 h1467 h1468  => ?_) trivial⟩
            have S1464 := S1139.mut x1463 (all_cons (.head _) (all_cons (.tail _ (.head _)) (all_cons (.tail _ (.tail _ (.head _))) (all_cons (.tail _ (.tail _ (.tail _ (.head _)))) all_nil)))) (all_cons (some_ne h1465) (all_cons (some_ne h1466) (all_cons (some_ne h1467) (all_cons (some_ne h1468) all_nil))))
            refine ⟨_, rfl, _, _, _, _, rfl, rfl, (SqT.of (S1464.bM _ _ h1126)), rfl, _, _, rfl, rfl, _, rfl, ?_⟩
            refine iteD (fun c1473 => ?_) (fun c1473 => ?_)
            · have hw := cW_pos c1473 hw
              refine ⟨_, rfl, _, _, _, rfl, h1465, rfl, _, rfl, _, _, _, _, rfl, rfl, (SqT.of (S1464.bM _ _ h1126)), rfl, _, rfl, _, _, _, _, rfl, rfl, (SqT.of (S1464.bM _ _ h1126)), rfl, rfl, rfl, G, _, _, _, _, _, _, v1461, _, _, rfl, S1464.sG, (S1464.gno (all_cons (.head _) (all_cons (.tail _ (.head _)) (all_cons (.tail _ (.tail _ (.head _))) (all_cons (.tail _ (.tail _ (.tail _ (.head _)))) all_nil))))), h1465, h1466, h1467, h1468, ne_writer_0, ne_writer_1, cW_callN hw (fun v1474 hw H1475 x1476 h1478 h1479 h1480 h1481  => ?_) trivial⟩
              have S1477 := S1464.mut x1476 (all_cons (.head _) (all_cons (.tail _ (.head _)) (all_cons (.tail _ (.tail _ (.head _))) (all_cons (.tail _ (.tail _ (.tail _ (.head _)))) all_nil)))) (all_cons (some_ne h1478) (all_cons (some_ne h1479) (all_cons (some_ne h1480) (all_cons (some_ne h1481) all_nil))))
              refine ⟨_, rfl, _, _, _, _, rfl, rfl, (SqT.of (S1477.bM _ _ h1126)), rfl, _, _, rfl, rfl, _, rfl, ?_⟩
              refine iteD (fun c1486 => ?_) (fun c1486 => ?_)
              · have hw := cW_pos c1486 hw
                refine ⟨_, rfl, _, _, _, rfl, h1478, rfl, _, rfl, _, _, _, _, rfl, rfl, (SqT.of (S1477.bM _ _ h1126)), rfl, rfl, rfl, G, _, _, _, _, _, _, v1474, _, rfl, S1477.sG, (S1477.gno (all_cons (.head _) (all_cons (.tail _ (.head _)) (all_cons (.tail _ (.tail _ (.head _))) (all_cons (.tail _ (.tail _ (.tail _ (.head _)))) all_nil))))), h1478, h1479, h1480, h1481, ne_writer_0, ne_writer_1, cW_callN hw (fun v1487 hw H1488 x1489 h1491 h1492 h1493 h1494  => ?_) trivial⟩
                have S1490 := S1477.mut x1489 (all_cons (.head _) (all_cons (.tail _ (.head _)) (all_cons (.tail _ (.tail _ (.head _))) (all_cons (.tail _ (.tail _ (.tail _ (.head _)))) all_nil)))) (all_cons (some_ne h1491) (all_cons (some_ne h1492) (all_cons (some_ne h1493) (all_cons (some_ne h1494) all_nil))))
                have hw := cW_ok hw
                exact hK0 _ hw _ S1490.base h1491 h1492 h1493 h1494
              · have hw := cW_neg c1486 hw
                have hw := cW_ok hw
                exact hK0 _ hw _ S1477.base h1478 h1479 h1480 h1481
            · have hw := cW_neg c1473 hw
              refine ⟨_, rfl, _, _, _, _, rfl, rfl, (SqT.of (S1464.bM _ _ h1126)), rfl, _, _, rfl, rfl, _, rfl, ?_⟩
              refine iteD (fun c1499 => ?_) (fun c1499 => ?_)
              · have hw := cW_pos c1499 hw
                refine ⟨_, rfl, _, _, _, rfl, h1465, rfl, _, rfl, _, _, _, _, rfl, rfl, (SqT.of (S1464.bM _ _ h1126)), rfl, rfl, rfl, G, _, _, _, _, _, _, v1461, _, rfl, S1464.sG, (S1464.gno (all_cons (.head _) (all_cons (.tail _ (.head _)) (all_cons (.tail _ (.tail _ (.head _))) (all_cons (.tail _ (.tail _ (.tail _ (.head _)))) all_nil))))), h1465, h1466, h1467, h1468, ne_writer_0, ne_writer_1, cW_callN hw (fun v1500 hw H1501 x1502 h1504 h1505 h1506 h1507  => ?_) trivial⟩
                have S1503 := S1464.mut x1502 (all_cons (.head _) (all_cons (.tail _ (.head _)) (all_cons (.tail _ (.tail _ (.head _))) (all_cons (.tail _ (.tail _ (.tail _ (.head _)))) all_nil)))) (all_cons (some_ne h1504) (all_cons (some_ne h1505) (all_cons (some_ne h1506) (all_cons (some_ne h1507) all_nil))))
                have hw := cW_ok hw
                exact hK0 _ hw _ S1503.base h1504 h1505 h1506 h1507
              · have hw := cW_neg c1499 hw
                have hw := cW_ok hw
                exact hK0 _ hw _ S1464.base h1465 h1466 h1467 h1468
          · have hw := cW_neg c1460 hw
            refine ⟨_, rfl, _, _, _, _, rfl, rfl, (SqT.of (S1139.bM _ _ h1126)), rfl, _, _, rfl, rfl, _, rfl, ?_⟩
            refine iteD (fun c1512 => ?_) (fun c1512 => ?_)
            · have hw := cW_pos c1512 hw
              refine ⟨_, rfl, _, _, _, rfl, h1140, rfl, _, rfl, _, _, _, _, rfl, rfl, (SqT.of (S1139.bM _ _ h1126)), rfl, _, rfl, _, _, _, _, rfl, rfl, (SqT.of (S1139.bM _ _ h1126)), rfl, rfl, rfl, G, _, _, _, _, _, _, v1136, _, _, rfl, S1139.sG, (S1139.gno (all_cons (.head _) (all_cons (.tail _ (.head _)) (all_cons (.tail _ (.tail _ (.head _))) (all_cons (.tail _ (.tail _ (.tail _ (.head _)))) all_nil))))), h1140, h1141, h1142, h1143, ne_writer_0, ne_writer_1, cW_callN hw (fun v1513 hw H1514 x1515 h1517 h1518 h1519 h1520  => ?_) trivial⟩
              have S1516 := S1139.mut x1515 (all_cons (.head _) (all_cons (.tail _ (.head _)) (all_cons (.tail _ (.tail _ (.head _))) (all_cons (.tail _ (.tail _ (.tail _ (.head _)))) all_nil)))) (all_cons (some_ne h1517) (all_cons (some_ne h1518) (all_cons (some_ne h1519) (all_cons (some_ne h1520) all_nil))))
              refine ⟨_, rfl, _, _, _, _, rfl, rfl, (SqT.of (S1516.bM _ _ h1126)), rfl, _, _, rfl, rfl, _, rfl, ?_⟩
              refine iteD (fun c1525 => ?_) (fun c1525 => ?_)
              · have hw := cW_pos c1525 hw
                refine ⟨_, rfl, _, _, _, rfl, h1517, rfl, _, rfl, _, _, _, _, rfl, rfl, (SqT.of (S1516.bM _ _ h1126)), rfl, rfl, rfl, G, _, _, _, _, _, _, v1513, _, rfl, S1516.sG, (S1516.gno (all_cons (.head _) (all_cons (.tail _ (.head _)) (all_cons (.tail _ (.tail _ (.head _))) (all_cons (.tail _ (.tail _ (.tail _ (.head _)))) all_nil))))), h1517, h1518, h1519, h1520, ne_writer_0, ne_writer_1, cW_callN hw (fun v1526 hw H1527 x1528 h1530 h1531 h1532 h1533  => ?_) trivial⟩
                have S1529 := S1516.mut x1528 (all_cons (.head _) (all_cons (.tail _ (.head _)) (all_cons (.tail _ (.tail _ (.head _))) (all_cons (.tail _ (.tail _ (.tail _ (.head _)))) all_nil)))) (all_cons (some_ne h1530) (all_cons (some_ne h1531) (all_cons (some_ne h1532) (all_cons (some_ne h1533) all_nil))))
                have hw := cW_ok hw
                exact hK0 _ hw _ S1529.base h1530 h1531 h1532 h1533
              · have hw := cW_neg c1525 hw
                have hw := cW_ok hw
                exact hK0 _ hw _ S1516.base h1517 h1518 h1519 h1520
            · have hw := cW_neg c1512 hw
              refine ⟨_, rfl, _, _, _, _, rfl, rfl, (SqT.of (S1139.bM _ _ h1126)), rfl, _, _, rfl, rfl, _, rfl, ?_⟩
              refine iteD (fun c1538 => ?_) (fun c1538 => ?_)
              · have hw := cW_pos c1538 hw
                refine ⟨_, rfl, _, _, _, rfl, h1140, rfl, _, rfl, _, _, _, _, rfl, rfl, (SqT.of (S1139.bM _ _ h1126)), rfl, rfl, rfl, G, _, _, _, _, _, _, v1136, _, rfl, S1139.sG, (S1139.gno (all_cons (.head _) (all_cons (.tail _ (.head _)) (all_cons (.tail _ (.tail _ (.head _))) (all_cons (.tail _ (.tail _ (.tail _ (.head _)))) all_nil))))), h1140, h1141, h1142, h1143, ne_writer_0, ne_writer_1, cW_callN hw (fun v1539 hw H1540 x1541 h1543 h1544 h1545 h1546  => ?_) trivial⟩
                have S1542 := S1139.mut x1541 (all_cons (.head _) (all_cons (.tail _ (.head _)) (all_cons (.tail _ (.tail _ (.head _))) (all_cons (.tail _ (.tail _ (.tail _ (.head _)))) all_nil)))) (all_cons (some_ne h1543) (all_cons (some_ne h1544) (all_cons (some_ne h1545) (all_cons (some_ne h1546) all_nil))))
                have hw := cW_ok hw
                exact hK0 _ hw _ S1542.base h1543 h1544 h1545 h1546
              · have hw := cW_neg c1538 hw
                have hw := cW_ok hw
                exact hK0 _ hw _ S1139.base h1140 h1141 h1142 h1143
    · have hw := cW_neg c1135 hw
      refine ⟨_, rfl, _, _, _, _, rfl, rfl, (SqT.of (S0.bM _ _ h1126)), rfl, _, _, rfl, rfl, _, rfl, ?_⟩
      refine iteD (fun c1551 => ?_) (fun c1551 => ?_)
      · have hw := cW_pos c1551 hw
        refine ⟨_, rfl, _, _, _, rfl, h_p_writer, rfl, _, rfl, _, _, _, _, rfl, rfl, (SqT.of (S0.bM _ _ h1126)), rfl, _, rfl, _, _, _, _, rfl, rfl, (SqT.of (S0.bM _ _ h1126)), rfl, _, rfl, _, _, _, _, rfl, rfl, (SqT.of (S0.bM _ _ h1126)), rfl, rfl, rfl, G, _, _, _, _, _, _, writer', _, _, _, rfl, S0.sG, (S0.gno (all_cons (.head _) (all_cons (.tail _ (.head _)) (all_cons (.tail _ (.tail _ (.head _))) (all_cons (.tail _ (.tail _ (.tail _ (.head _)))) all_nil))))), h_p_writer, h_p_writer_enc, h_l_writer_enc_probs, h_l_writer_enc_front, ne_writer_0, ne_writer_1, cW_call hw (fun v1552 hw H1553 x1554 h1556 h1557 h1558 h1559  => ?_) (fun e he H2 e2 => hE e he H2 (Same.trans (Same.refl _) e2))⟩
        have S1555 := S0.mut x1554 (all_cons (.head _) (all_cons (.tail _ (.head _)) (all_cons (.tail _ (.tail _ (.head _))) (all_cons (.tail _ (.tail _ (.tail _ (.head _)))) all_nil)))) (all_cons (some_ne h1556) (all_cons (some_ne h1557) (all_cons (some_ne h1558) (all_cons (some_ne h1559) all_nil))))
        refine ⟨_, rfl, _, _, _, _, rfl, rfl, (SqT.of (S1555.bM _ _ h1126)), rfl, _, _, rfl, rfl, _, rfl, ?_⟩
        refine iteD (fun c1564 => ?_) (fun c1564 => ?_)
        · have hw := cW_pos c1564 hw
          refine ⟨_, rfl, _, _, _, rfl, h1556, rfl, _, rfl, _, _, _, _, rfl, rfl, (SqT.of (S1555.bM _ _ h1126)), rfl, _, rfl, _, _, _, _, rfl, rfl, (SqT.of (S1555.bM _ _ h1126)), rfl, _, rfl, _, _, _, _, rfl, rfl, (SqT.of (S1555.bM _ _ h1126)), rfl, rfl, rfl, G, _, _, _, _, _, _, v1552, _, _, _, rfl, S1555.sG, (S1555.gno (all_cons (.head _) (all_cons (.tail _ (.head _)) (all_cons (.tail _ (.tail _ (.head _))) (all_cons (.tail _ (.tail _ (.tail _ (.head _)))) all_nil))))), h1556, h1557, h1558, h1559, ne_writer_0, ne_writer_1, cW_callN hw (fun v1565 hw H1566 x1567 h1569 h1570 h1571 h1572  => ?_) trivial⟩
          have S1568 := S1555.mut x1567 (all_cons (.head _) (all_cons (.tail _ (.head _)) (all_cons (.tail _ (.tail _ (.head _))) (all_cons (.tail _ (.tail _ (.tail _ (.head _)))) all_nil)))) (all_cons (some_ne h1569) (all_cons (some_ne h1570) (all_cons (some_ne h1571) (all_cons (some_ne h1572) all_nil))))
          refine ⟨_, rfl, _, _, _, _, rfl, rfl, (SqT.of (S1568.bM _ _ h1126)), rfl, _, _, rfl, rfl, _, rfl, ?_⟩
          refine iteD (fun c1577 => ?_) (fun c1577 => ?_)
          · have hw := cW_pos c1577 hw
            refine ⟨_, rfl, _, _, _, rfl, h1569, rfl, _, rfl, _, _, _, _, rfl, rfl, (SqT.of (S1568.bM _ _ h1126)), rfl, _, rfl, _, _, _, _, rfl, rfl, (SqT.of (S1568.bM _ _ h1126)), rfl, rfl, rfl, G, _, _, _, _, _, _, v1565, _, _, rfl, S1568.sG, (S1568.gno (all_cons (.head _) (all_cons (.tail _ (.head _)) (all_cons (.tail _ (.tail _ (.head _))) (all_cons (.tail _ (.tail _ (.tail _ (.head _)))) all_nil))))), h1569, h1570, h1571, h1572, ne_writer_0, ne_writer_1, cW_callN hw (fun v1578 hw H1579 x1580 h1582 h1583 h1584 h1585  => ?_) trivial⟩
            have S1581 := S1568.mut x1580 (all_cons (.head _) (all_cons (.tail _ (.head _)) (all_cons (.tail _ (.tail _ (.head _))) (all_cons (.tail _ (.tail _ (.tail _ (.head _)))) all_nil)))) (all_cons (some_ne h1582) (all_cons (some_ne h1583) (all_cons (some_ne h1584) (all_cons (some_ne h1585) all_nil))))
            refine ⟨_, rfl, _, _, _, _, rfl, rfl, (SqT.of (S1581.bM _ _ h1126)), rfl, _, _, rfl, rfl, _, rfl, ?_⟩
            refine iteD (fun c1590 => ?_) (fun c1590 => ?_)
            · have hw := cW_pos c1590 hw
              refine ⟨_, rfl, _, _, _, rfl, h1582, rfl, _, rfl, _, _, _, _, rfl, rfl, (SqT.of (S1581.bM _ _ h1126)), rfl, _, rfl, _, _, _, _, rfl, rfl, (SqT.of (S1581.bM _ _ h1126)), rfl, rfl, rfl, G, _, _, _, _, _, _, v1578, _, _, rfl, S1581.sG, (S1581.gno (all_cons (.head _) (all_cons (.tail _ (.head _)) (all_cons (.tail _ (.tail _ (.head _))) (all_cons (.tail _ (.tail _ (.tail _ (.head _)))) all_nil))))), h1582, h1583, h1584, h1585, ne_writer_0, ne_writer_1, cW_callN hw (fun v1591 hw H1592 x1593 h1595 h1596 h1597 h1598  => ?_) trivial⟩
              have S1594 := S1581.mut x1593 (all_cons (.head _) (all_cons (.tail _ (.head _)) (all_cons (.tail _ (.tail _ (.head _))) (all_cons (.tail _ (.tail _ (.tail _ (.head _)))) all_nil)))) (all_cons (some_ne h1595) (all_cons (some_ne h1596) (all_cons (some_ne h1597) (all_cons (some_ne h1598) all_nil))))
              refine ⟨_, rfl, _, _, _, _, rfl, rfl, (SqT.of (S1594.bM _ _ h1126)), rfl, _, _, rfl, rfl, _, rfl, ?_⟩
              refine iteD (fun c1603 => ?_) (fun c1603 => ?_)
              · have hw := cW_pos c1603 hw
                refine ⟨_, rfl, _, _, _, rfl, h1595, rfl, _, rfl, _, _, _, _, rfl, rfl, (SqT.of (S1594.bM _ _ h1126)), rfl, rfl, rfl, G, _, _, _, _, _, _, v1591, _, rfl, S1594.sG, (S1594.gno (all_cons (.head _) (all_cons (.tail _ (.head _)) (all_cons (.tail _ (.tail _ (.head _))) (all_cons (.tail _ (.tail _ (.tail _ (.head _)))) all_nil))))), h1595, h1596, h1597, h1598, ne_writer_0, ne_writer_1, cW_callN hw (fun v1604 hw H1605 x1606 h1608 h1609 h1610 h1611  => ?_) trivial⟩
                have S1607 := S1594.mut x1606 (all_cons (.head _) (all_cons (.tail _ (.head _)) (all_cons (.tail _ (.tail _ (.head _))) (all_cons (.tail _ (.tail _ (.tail _ (.head _)))) all_nil)))) (all_cons (some_ne h1608) (all_cons (some_ne h1609) (all_cons (some_ne h1610) (all_cons (some_ne h1611) all_nil))))
                have hw := cW_ok hw
                exact hK0 _ hw _ S1607.base h1608 h1609 h1610 h1611
              · have hw := cW_neg c1603 hw
                have hw := cW_ok hw
                exact hK0 _ hw _ S1594.base h1595 h1596 h1597 h1598
            · have hw := cW_neg c1590 hw
              refine ⟨_, rfl, _, _, _, _, rfl, rfl, (SqT.of (S1581.bM _ _ h1126)), rfl, _, _, rfl, rfl, _, rfl, ?_⟩
              refine iteD (fun c1616 => ?_) (fun c1616 => ?_)
              · have hw := cW_pos c1616 hw
                refine ⟨_, rfl, _, _, _, rfl, h1582, rfl, _, rfl, _, _, _, _, rfl, rfl, (SqT.of (S1581.bM _ _ h1126)), rfl, rfl, rfl, G, _, _, _, _, _, _, v1578, _, rfl, S1581.sG, (S1581.gno (all_cons (.head _) (all_cons (.tail _ (.head _)) (all_cons (.tail _ (.tail _ (.head _))) (all_cons (.tail _ (.tail _ (.tail _ (.head _)))) all_nil))))), h1582, h1583, h1584, h1585, ne_writer_0, ne_writer_1, cW_callN hw (fun v1617 hw H1618 x1619 h1621 h1622 h1623 h1624  => ?_) trivial⟩
                have S1620 := S1581.mut x1619 (all_cons (.head _) (all_cons (.tail _ (.head _)) (all_cons (.tail _ (.tail _ (.head _))) (all_cons (.tail _ (.tail _ (.tail _ (.head _)))) all_nil)))) (all_cons (some_ne h1621) (all_cons (some_ne h1622) (all_cons (some_ne h1623) (all_cons (some_ne h1624) all_nil))))
                have hw := cW_ok hw
                exact hK0 _ hw _ S1620.base h1621 h1622 h1623 h1624
              · have hw := cW_neg c1616 hw
                have hw := cW_ok hw
                exact hK0 _ hw _ S1581.base h1582 h1583 h1584 h1585
          · have hw := cW_neg c1577 hw
            refine ⟨_, rfl, _, _, _, _, rfl, rfl, (SqT.of (S1568.bM _ _ h1126)), rfl, _, _, rfl, rfl, _, rfl, ?_⟩
            refine iteD (fun c1629 => ?_) (fun c1629 => ?_)
            · have hw := cW_pos c1629 hw
              refine ⟨_, rfl, _, _, _, rfl, h1569, rfl, _, rfl, _, _, _, _, rfl, rfl, (SqT.of (S1568.bM _ _ h1126)), rfl, _, rfl, _, _, _, _, rfl, rfl, (SqT.of (S1568.bM _ _ h1126)), rfl, rfl, rfl, G, _, _, _, _, _, _, v1565, _, _, rfl, S1568.sG, (S1568.gno (all_cons (.head _) (all_cons (.tail _ (.head _)) (all_cons (.tail _ (.tail _ (.head _))) (all_cons (.tail _ (.tail _ (.tail _ (.head _)))) all_nil))))), h1569, h1570, h1571, h1572, ne_writer_0, ne_writer_1, cW_callN hw (fun v1630 hw H1631 x1632 h1634 h1635 h1636 h1637  => ?_) trivial⟩
              have S1633 := S1568.mut x1632 (all_cons (.head _) (all_cons (.tail _ (.head _)) (all_cons (.tail _ (.tail _ (.head _))) (all_cons (.tail _ (.tail _ (.tail _ (.head _)))) all_nil)))) (all_cons (some_ne h1634) (all_cons (some_ne h1635) (all_cons (some_ne h1636) (all_cons (some_ne h1637) all_nil))))
              refine ⟨_, rfl, _, _, _, _, rfl, rfl, (SqT.of (S1633.bM _ _ h1126)), rfl, _, _, rfl, rfl, _, rfl, ?_⟩
              refine iteD (fun c1642 => ?_) (fun c1642 => ?_)
              · have hw := cW_pos c1642 hw
                refine ⟨_, rfl, _, _, _, rfl, h1634, rfl, _, rfl, _, _, _, _, rfl, rfl, (SqT.of (S1633.bM _ _ h1126)), rfl, rfl, rfl, G, _, _, _, _, _, _, v1630, _, rfl, S1633.sG, (S1633.gno (all_cons (.head _) (all_cons (.tail _ (.head _)) (all_cons (.tail _ (.tail _ (.head _))) (all_cons (.tail _ (.tail _ (.tail _ (.head _)))) all_nil))))), h1634, h1635, h1636, h1637, ne_writer_0, ne_writer_1, cW_callN hw (fun v1643 hw H1644 x1645 h1647 h1648 h1649 h1650  => ?_) trivial⟩
                have S1646 := S1633.mut x1645 (all_cons (.head _) (all_cons (.tail _ (.head _)) (all_cons (.tail _ (.tail _ (.head _))) (all_cons (.tail _ (.tail _ (.tail _ (.head _)))) all_nil)))) (all_cons (some_ne h1647) (all_cons (some_ne h1648) (all_cons (some_ne h1649) (all_cons (some_ne h1650) all_nil))))
                have hw := cW_ok hw
                exact hK0 _ hw _ S1646.base h1647 h1648 h1649 h1650
              · have hw := cW_neg c1642 hw
                have hw := cW_ok hw
                exact hK0 _ hw _ S1633.base h1634 h1635 h1636 h1637
            · have hw := cW_neg c1629 hw
              refine ⟨_, rfl, _, _, _, _, rfl, rfl, (SqT.of (S1568.bM _ _ h1126)), rfl, _, _, rfl, rfl, _, rfl, ?_⟩
              refine iteD (fun c1655 => ?_) (fun c1655 => ?_)
              · have hw := cW_pos c1655 hw
                refine ⟨_, rfl, _, _, _, rfl, h1569, rfl, _, rfl, _, _, _, _, rfl, rfl, (SqT.of (S1568.bM _ _ h1126)), rfl, rfl, rfl, G, _, _, _, _, _, _, v1565, _, rfl, S1568.sG, (S1568.gno (all_cons (.head _) (all_cons (.tail _ (.head _)) (all_cons (.tail _ (.tail _ (.head _))) (all_cons (.tail _ (.tail _ (.tail _ (.head _)))) all_nil))))), h1569, h1570, h1571, h1572, ne_writer_0, ne_writer_1, cW_callN hw (fun v1656 hw H1657 x1658 h1660 h1661 h1662 h1663  => ?_) trivial⟩
                have S1659 := S1568.mut x1658 (all_cons (.head _) (all_cons (.tail _ (.head _)) (all_cons (.tail _ (.tail _ (.head _))) (all_cons (.tail _ (.tail _ (.tail _ (.head _)))) all_nil)))) (all_cons (some_ne h1660) (all_cons (some_ne h1661) (all_cons (some_ne h1662) (all_cons (some_ne h1663) all_nil))))
                have hw := cW_ok hw
                exact hK0 _ hw _ S1659.base h1660 h1661 h1662 h1663
              · have hw := cW_neg c1655 hw
                have hw := cW_ok hw
                exact hK0 _ hw _ S1568.base h1569 h1570 h1571 h1572
        · have hw := cW_neg c1564 hw
          refine ⟨_, rfl, _, _, _, _, rfl, rfl, (SqT.of (S1555.bM _ _ h1126)), rfl, _, _, rfl, rfl, _, rfl, ?_⟩
          refine iteD (fun c1668 => ?_) (fun c1668 => ?_)
          · have hw := cW_pos c1668 hw
            refine ⟨_, rfl, _, _, _, rfl, h1556, rfl, _, rfl, _, _, _, _, rfl, rfl, (SqT.of (S1555.bM _ _ h1126)), rfl, _, rfl, _, _, _, _, rfl, rfl, (SqT.of (S1555.bM _ _ h1126)), rfl, rfl, rfl, G, _, _, _, _, _, _, v1552, _, _, rfl, S1555.sG, (S1555.gno (all_cons (.head _) (all_cons (.tail _ (.head _)) (all_cons (.tail _ (.tail _ (.head _))) (all_cons (.tail _ (.tail _ (.tail _ (.head _)))) all_nil))))), h1556, h1557, h1558, h1559, ne_writer_0, ne_writer_1, cW_callN hw (fun v1669 hw H1670 x1671 h1673 h1674 h1675 h1676  => ?_) trivial⟩
            have S1672 := S1555.mut x1671 (all_cons (.head _) (all_cons (.tail _ (.head _)) (all_cons (.tail _ (.tail _ (.head _))) (all_cons (.tail _ (.tail _ (.tail _ (.head _)))) all_nil)))) (all_cons (some_ne h1673) (all_cons (some_ne h1674) (all_cons (some_ne h1675) (all_cons (some_ne h1676) all_nil))))
            refine ⟨_, rfl, _, _, _, _, rfl, rfl, (SqT.of (S1672.bM _ _ h1126)), rfl, _, _, rfl, rfl, _, rfl, ?_⟩
            refine iteD (fun c1681 => ?_) (fun c1681 => ?_)
            · have hw := cW_pos c1681 hw
              refine ⟨_, rfl, _, _, _, rfl, h1673, rfl, _, rfl, _, _, _, _, rfl, rfl, (SqT.of (S1672.bM _ _ h1126)), rfl, _, rfl, _, _, _, _, rfl, rfl, (SqT.of (S1672.bM _ _ h1126)), rfl, rfl, rfl, G, _, _, _, _, _, _, v1669, _, _, rfl, S1672.sG, (S1672.gno (all_cons (.head _) (all_cons (.tail _ (.head _)) (all_cons (.tail _ (.tail _ (.head _))) (all_cons (.tail _ (.tail _ (.tail _ (.head _)))) all_nil))))), h1673, h1674, h1675, h1676, ne_writer_0, ne_writer_1, cW_callN hw (fun v1682 hw H1683 x1684 h1686 h1687 h1688 h1689  => ?_) trivial⟩
              have S1685 := S1672.mut x1684 (all_cons (.head _) (all_cons (.tail _ (.head _)) (all_cons (.tail _ (.tail _ (.head _))) (all_cons (.tail _ (.tail _ (.tail _ (.head _)))) all_nil)))) (all_cons (some_ne h1686) (all_cons (some_ne h1687) (all_cons (some_ne h1688) (all_cons (some_ne h1689) all_nil))))
              refine ⟨_, rfl, _, _, _, _, rfl, rfl, (SqT.of (S1685.bM _ _ h1126)), rfl, _, _, rfl, rfl, _, rfl, ?_⟩
              refine iteD (fun c1694 => ?_) (fun c1694 => ?_)
              · have hw := cW_pos c1694 hw
                refine ⟨_, rfl, _, _, _, rfl, h1686, rfl, _, rfl, _, _, _, _, rfl, rfl, (SqT.of (S1685.bM _ _ h1126)), rfl, rfl, rfl, G, _, _, _, _, _, _, v1682, _, rfl, S1685.sG, (S1685.gno (all_cons (.head _) (all_cons (.tail _ (.head _)) (all_cons (.tail _ (.tail _ (.head _))) (all_cons (.tail _ (.tail _ (.tail _ (.head _)))) all_nil))))), h1686, h1687, h1688, h1689, ne_writer_0, ne_writer_1, cW_callN hw (fun v1695 hw H1696 x1697 h1699 h1700 h1701 h1702  => ?_) trivial⟩
                have S1698 := S1685.mut x1697 (all_cons (.head _) (all_cons (.tail _ (.head _)) (all_cons (.tail _ (.tail _ (.head _))) (all_cons (.tail _ (.tail _ (.tail _ (.head _)))) all_nil)))) (all_cons (some_ne h1699) (all_cons (some_ne h1700) (all_cons (some_ne h1701) (all_cons (some_ne h1702) all_nil))))
                have hw := cW_ok hw
                exact hK0 _ hw _ S1698.base h1699 h1700 h1701 h1702
              · have hw := cW_neg c1694 hw
                have hw := cW_ok hw
                exact hK0 _ hw _ S1685.base h1686 h1687 h1688 h1689
            · have hw := cW_neg c1681 hw
              refine ⟨_, rfl, _, _, _, _, rfl, rfl, (SqT.of (S1672.bM _ _ h1126)), rfl, _, _, rfl, rfl, _, rfl, ?_⟩
              refine iteD (fun c1707 => ?_) (fun c1707 => ?_)
              · have hw := cW_pos c1707 hw
                refine ⟨_, rfl, _, _, _, rfl, h1673, rfl, _, rfl, _, _, _, _, rfl, rfl, (SqT.of (S1672.bM _ _ h1126)), rfl, rfl, rfl, G, _, _, _, _, _, _, v1669, _, rfl, S1672.sG, (S1672.gno (all_cons (.head _) (all_cons (.tail _ (.head _)) (all_cons (.tail _ (.tail _ (.head _))) (all_cons (.tail _ (.tail _ (.tail _ (.head _)))) all_nil))))), h1673, h1674, h1675, h1676, ne_writer_0, ne_writer_1, cW_callN hw (fun v1708 hw H1709 x1710 h1712 h1713 h1714 h1715  => ?_) trivial⟩
                have S1711 := S1672.mut x1710 (all_cons (.head _) (all_cons (.tail _ (.head _)) (all_cons (.tail _ (.tail _ (.head _))) (all_cons (.tail _ (.tail _ (.tail _ (.head _)))) all_nil)))) (all_cons (some_ne h1712) (all_cons (some_ne h1713) (all_cons (some_ne h1714) (all_cons (some_ne h1715) all_nil))))
                have hw := cW_ok hw
                exact hK0 _ hw _ S1711.base h1712 h1713 h1714 h1715
              · have hw := cW_neg c1707 hw
                have hw := cW_ok hw
                exact hK0 _ hw _ S1672.base h1673 h1674 h1675 h1676
          · have hw := cW_neg c1668 hw
            refine ⟨_, rfl, _, _, _, _, rfl, rfl, (SqT.of (S1555.bM _ _ h1126)), rfl, _, _, rfl, rfl, _, rfl, ?_⟩
            refine iteD (fun c1720 => ?_) (fun c1720 => ?_)
            · have hw := cW_pos c1720 hw
              refine ⟨_, rfl, _, _, _, rfl, h1556, rfl, _, rfl, _, _, _, _, rfl, rfl, (SqT.of (S1555.bM _ _ h1126)), rfl, _, rfl, _, _, _, _, rfl, rfl, (SqT.of (S1555.bM _ _ h1126)), rfl, rfl, rfl, G, _, _, _, _, _, _, v1552, _, _, rfl, S1555.sG, (S1555.gno (all_cons (.head _) (all_cons (.tail _ (.head _)) (all_cons (.tail _ (.tail _ (.head _))) (all_cons (.tail _ (.tail _ (.tail _ (.head _)))) all_nil))))), h1556, h1557, h1558, h1559, ne_writer_0, ne_writer_1, cW_callN hw (fun v1721 hw H1722 x1723 h1725 h1726 h1727 h1728  => ?_) trivial⟩
              have S1724 := S1555.mut x1723 (all_cons (.head _) (all_cons (.tail _ (.head _)) (all_cons (.tail _ (.tail _ (.head _))) (all_cons (.tail _ (.tail _ (.tail _ (.head _)))) all_nil)))) (all_cons (some_ne h1725) (all_cons (some_ne h1726) (all_cons (some_ne h1727) (all_cons (some_ne h1728) all_nil))))
              refine ⟨_, rfl, _, _, _, _, rfl, rfl, (SqT.of (S1724.bM _ _ h1126)), rfl, _, _, rfl, rfl, _, rfl, ?_⟩
              refine iteD (fun c1733 => ?_) (fun c1733 => ?_)
              · have hw := cW_pos c1733 hw
                refine ⟨_, rfl, _, _, _, rfl, h1725, rfl, _, rfl, _, _, _, _, rfl, rfl, (SqT.of (S1724.bM _ _ h1126)), rfl, rfl, rfl, G, _, _, _, _, _, _, v1721, _, rfl, S1724.sG, (S1724.gno (all_cons (.head _) (all_cons (.tail _ (.head _)) (all_cons (.tail _ (.tail _ (.head _))) (all_cons (.tail _ (.tail _ (.tail _ (.head _)))) all_nil))))), h1725, h1726, h1727, h1728, ne_writer_0, ne_writer_1, cW_callN hw (fun v1734 hw H1735 x1736 h1738 h1739 h1740 h1741  => ?_) trivial⟩
                have S1737 := S1724.mut x1736 (all_cons (.head _) (all_cons (.tail _ (.head _)) (all_cons (.tail _ (.tail _ (.head _))) (all_cons (.tail _ (.tail _ (.tail _ (.head _)))) all_nil)))) (all_cons (some_ne h1738) (all_cons (some_ne h1739) (all_cons (some_ne h1740) (all_cons (some_ne h1741) all_nil))))
                have hw := cW_ok hw
                exact hK0 _ hw _ S1737.base h1738 h1739 h1740 h1741
              · have hw := cW_neg c1733 hw
                have hw := cW_ok hw
                exact hK0 _ hw _ S1724.base h1725 h1726 h1727 h1728
            · have hw := cW_neg c1720 hw
              refine ⟨_, rfl, _, _, _, _, rfl, rfl, (SqT.of (S1555.bM _ _ h1126)), rfl, _, _, rfl, rfl, _, rfl, ?_⟩
              refine iteD (fun c1746 => ?_) (fun c1746 => ?_)
              · have hw := cW_pos c1746 hw
                refine ⟨_, rfl, _, _, _, rfl, h1556, rfl, _, rfl, _, _, _, _, rfl, rfl, (SqT.of (S1555.bM _ _ h1126)), rfl, rfl, rfl, G, _, _, _, _, _, _, v1552, _, rfl, S1555.sG, (S1555.gno (all_cons (.head _) (all_cons (.tail _ (.head _)) (all_cons (.tail _ (.tail _ (.head _))) (all_cons (.tail _ (.tail _ (.tail _ (.head _)))) all_nil))))), h1556, h1557, h1558, h1559, ne_writer_0, ne_writer_1, cW_callN hw (fun v1747 hw H1748 x1749 h1751 h1752 h1753 h1754  => ?_) trivial⟩
                have S1750 := S1555.mut x1749 (all_cons (.head _) (all_cons (.tail _ (.head _)) (all_cons (.tail _ (.tail _ (.head _))) (all_cons (.tail _ (.tail _ (.tail _ (.head _)))) all_nil)))) (all_cons (some_ne h1751) (all_cons (some_ne h1752) (all_cons (some_ne h1753) (all_cons (some_ne h1754) all_nil))))
                have hw := cW_ok hw
                exact hK0 _ hw _ S1750.base h1751 h1752 h1753 h1754
              · have hw := cW_neg c1746 hw
                have hw := cW_ok hw
                exact hK0 _ hw _ S1555.base h1556 h1557 h1558 h1559
      · have hw := cW_neg c1551 hw
        refine ⟨_, rfl, _, _, _, _, rfl, rfl, (SqT.of (S0.bM _ _ h1126)), rfl, _, _, rfl, rfl, _, rfl, ?_⟩
        refine iteD (fun c1759 => ?_) (fun c1759 => ?_)
        · have hw := cW_pos c1759 hw
          refine ⟨_, rfl, _, _, _, rfl, h_p_writer, rfl, _, rfl, _, _, _, _, rfl, rfl, (SqT.of (S0.bM _ _ h1126)), rfl, _, rfl, _, _, _, _, rfl, rfl, (SqT.of (S0.bM _ _ h1126)), rfl, _, rfl, _, _, _, _, rfl, rfl, (SqT.of (S0.bM _ _ h1126)), rfl, rfl, rfl, G, _, _, _, _, _, _, writer', _, _, _, rfl, S0.sG, (S0.gno (all_cons (.head _) (all_cons (.tail _ (.head _)) (all_cons (.tail _ (.tail _ (.head _))) (all_cons (.tail _ (.tail _ (.tail _ (.head _)))) all_nil))))), h_p_writer, h_p_writer_enc, h_l_writer_enc_probs, h_l_writer_enc_front, ne_writer_0, ne_writer_1, cW_call hw (fun v1760 hw H1761 x1762 h1764 h1765 h1766 h1767  => ?_) (fun e he H2 e2 => hE e he H2 (Same.trans (Same.refl _) e2))⟩
          have S1763 := S0.mut x1762 (all_cons (.head _) (all_cons (.tail _ (.head _)) (all_cons (.tail _ (.tail _ (.head _))) (all_cons (.tail _ (.tail _ (.tail _ (.head _)))) all_nil)))) (all_cons (some_ne h1764) (all_cons (some_ne h1765) (all_cons (some_ne h1766) (all_cons (some_ne h1767) all_nil))))
          refine ⟨_, rfl, _, _, _, _, rfl, rfl, (SqT.of (S1763.bM _ _ h1126)), rfl, _, _, rfl, rfl, _, rfl, ?_⟩
          refine iteD (fun c1772 => ?_) (fun c1772 => ?_)
          · have hw := cW_pos c1772 hw
            refine ⟨_, rfl, _, _, _, rfl, h1764, rfl, _, rfl, _, _, _, _, rfl, rfl, (SqT.of (S1763.bM _ _ h1126)), rfl, _, rfl, _, _, _, _, rfl, rfl, (SqT.of (S1763.bM _ _ h1126)), rfl, rfl, rfl, G, _, _, _, _, _, _, v1760, _, _, rfl, S1763.sG, (S1763.gno (all_cons (.head _) (all_cons (.tail _ (.head _)) (all_cons (.tail _ (.tail _ (.head _))) (all_cons (.tail _ (.tail _ (.tail _ (.head _)))) all_nil))))), h1764, h1765, h1766, h1767, ne_writer_0, ne_writer_1, cW_callN hw (fun v1773 hw H1774 x1775 h1777 h1778 h1779 h1780  => ?_) trivial⟩
            have S1776 := S1763.mut x1775 (all_cons (.head _) (all_cons (.tail _ (.head _)) (all_cons (.tail _ (.tail _ (.head _))) (all_cons (.tail _ (.tail _ (.tail _ (.head _)))) all_nil)))) (all_cons (some_ne h1777) (all_cons (some_ne h1778) (all_cons (some_ne h1779) (all_cons (some_ne h1780) all_nil))))
            refine ⟨_, rfl, _, _, _, _, rfl, rfl, (SqT.of (S1776.bM _ _ h1126)), rfl, _, _, rfl, rfl, _, rfl, ?_⟩
            refine iteD (fun c1785 => ?_) (fun c1785 => ?_)
            · have hw := cW_pos c1785 hw
              refine ⟨_, rfl, _, _, _, rfl, h1777, rfl, _, rfl, _, _, _, _, rfl, rfl, (SqT.of (S1776.bM _ _ h1126)), rfl, _, rfl, _, _, _, _, rfl, rfl, (SqT.of (S1776.bM _ _ h1126)), rfl, rfl, rfl, G, _, _, _, _, _, _, v1773, _, _, rfl, S1776.sG, (S1776.gno (all_cons (.head _) (all_cons (.tail _ (.head _)) (all_cons (.tail _ (.tail _ (.head _))) (all_cons (.tail _ (.tail _ (.tail _ (.head _)))) all_nil))))), h1777, h1778, h1779, h1780, ne_writer_0, ne_writer_1, cW_callN hw (fun v1786 hw H1787 x1788 h1790 h1791 h1792 h1793  => ?_) trivial⟩
              have S1789 := S1776.mut x1788 (all_cons (.head _) (all_cons (.tail _ (.head _)) (all_cons (.tail _ (.tail _ (.head _))) (all_cons (.tail _ (.tail _ (.tail _ (.head _)))) all_nil)))) (all_cons (some_ne h1790) (all_cons (some_ne h1791) (all_cons (some_ne h1792) (all_cons (some_ne h1793) all_nil))))
              refine ⟨_, rfl, _, _, _, _, rfl, rfl, (SqT.of (S1789.bM _ _ h1126)), rfl, _, _, rfl, rfl, _, rfl, ?_⟩
              refine iteD (fun c1798 => ?_) (fun c1798 => ?_)
              · have hw := cW_pos c1798 hw
                refine ⟨_, rfl, _, _, _, rfl, h1790, rfl, _, rfl, _, _, _, _, rfl, rfl, (SqT.of (S1789.bM _ _ h1126)), rfl, rfl, rfl, G, _, _, _, _, _, _, v1786, _, rfl, S1789.sG, (S1789.gno (all_cons (.head _) (all_cons (.tail _ (.head _)) (all_cons (.tail _ (.tail _ (.head _))) (all_cons (.tail _ (.tail _ (.tail _ (.head _)))) all_nil))))), h1790, h1791, h1792, h1793, ne_writer_0, ne_writer_1, cW_callN hw (fun v1799 hw H1800 x1801 h1803 h1804 h1805 h1806  => ?_) trivial⟩
                have S1802 := S1789.mut x1801 (all_cons (.head _) (all_cons (.tail _ (.head _)) (all_cons (.tail _ (.tail _ (.head _))) (all_cons (.tail _ (.tail _ (.tail _ (.head _)))) all_nil)))) (all_cons (some_ne h1803) (all_cons (some_ne h1804) (all_cons (some_ne h1805) (all_cons (some_ne h1806) all_nil))))
                have hw := cW_ok hw
                exact hK0 _ hw _ S1802.base h1803 h1804 h1805 h1806
              · have hw := cW_neg c1798 hw
                have hw := cW_ok hw
                exact hK0 _ hw _ S1789.base h1790 h1791 h1792 h1793
            · have hw := cW_neg c1785 hw
              refine ⟨_, rfl, _, _, _, _, rfl, rfl, (SqT.of (S1776.bM _ _ h1126)), rfl, _, _, rfl, rfl, _, rfl, ?_⟩
              refine iteD (fun c1811 => ?_) (fun c1811 => ?_)
              · have hw := cW_pos c1811 hw
                refine ⟨_, rfl, _, _, _, rfl, h1777, rfl, _, rfl, _, _, _, _, rfl, rfl, (SqT.of (S1776.bM _ _ h1126)), rfl, rfl, rfl, G, _, _, _, _, _, _, v1773, _, rfl, S1776.sG, (S1776.gno (all_cons (.head _) (all_cons (.tail _ (.head _)) (all_cons (.tail _ (.tail _ (.head _))) (all_cons (.tail _ (.tail _ (.tail _ (.head _)))) all_nil))))), h1777, h1778, h1779, h1780, ne_writer_0, ne_writer_1, cW_callN hw (fun v1812 hw H1813 x1814 h1816 h1817 h1818 h1819  => ?_) trivial⟩
                have S1815 := S1776.mut x1814 (all_cons (.head _) (all_cons (.tail _ (.head _)) (all_cons (.tail _ (.tail _ (.head _))) (all_cons (.tail _ (.tail _ (.tail _ (.head _)))) all_nil)))) (all_cons (some_ne h1816) (all_cons (some_ne h1817) (all_cons (some_ne h1818) (all_cons (some_ne h1819) all_nil))))
                have hw := cW_ok hw
                exact hK0 _ hw _ S1815.base h1816 h1817 h1818 h1819
              · have hw := cW_neg c1811 hw
                have hw := cW_ok hw
                exact hK0 _ hw _ S1776.base h1777 h1778 h1779 h1780
          · have hw := cW_neg c1772 hw
            refine ⟨_, rfl, _, _, _, _, rfl, rfl, (SqT.of (S1763.bM _ _ h1126)), rfl, _, _, rfl, rfl, _, rfl, ?_⟩
            refine iteD (fun c1824 => ?_) (fun c1824 => ?_)
            · have hw := cW_pos c1824 hw
              refine ⟨_, rfl, _, _, _, rfl, h1764, rfl, _, rfl, _, _, _, _, rfl, rfl, (SqT.of (S1763.bM _ _ h1126)), rfl, _, rfl, _, _, _, _, rfl, rfl, (SqT.of (S1763.bM _ _ h1126)), rfl, rfl, rfl, G, _, _, _, _, _, _, v1760, _, _, rfl, S1763.sG, (S1763.gno (all_cons (.head _) (all_cons (.tail _ (.head _)) (all_cons (.tail _ (.tail _ (.head _))) (all_cons (.tail _ (.tail _ (.tail _ (.head _)))) all_nil))))), h1764, h1765, h1766, h1767, ne_writer_0, ne_writer_1, cW_callN hw (fun v1825 hw H1826 x1827 h1829 h1830 h1831 h1832  => ?_) trivial⟩
              have S1828 := S1763.mut x1827 (all_cons (.head _) (all_cons (.tail _ (.head _)) (all_cons (.tail _ (.tail _ (.head _))) (all_cons (.tail _ (.tail _ (.tail _ (.head _)))) all_nil)))) (all_cons (some_ne h1829) (all_cons (some_ne h1830) (all_cons (some_ne h1831) (all_cons (some_ne h1832) all_nil))))
              refine ⟨_, rfl, _, _, _, _, rfl, rfl, (SqT.of (S1828.bM _ _ h1126)), rfl, _, _, rfl, rfl, _, rfl, ?_⟩
              refine iteD (fun c1837 => ?_) (fun c1837 => ?_)
              · have hw := cW_pos c1837 hw
                refine ⟨_, rfl, _, _, _, rfl, h1829, rfl, _, rfl, _, _, _, _, rfl, rfl, (SqT.of (S1828.bM _ _ h1126)), rfl, rfl, rfl, G, _, _, _, _, _, _, v1825, _, rfl, S1828.sG, (S1828.gno (all_cons (.head _) (all_cons (.tail _ (.head _)) (all_cons (.tail _ (.tail _ (.head _))) (all_cons (.tail _ (.tail _ (.tail _ (.head _)))) all_nil))))), h1829, h1830, h1831, h1832, ne_writer_0, ne_writer_1, cW_callN hw (fun v1838 hw H1839 x1840 h1842 h1843 h1844 h1845  => ?_) trivial⟩
                have S1841 := S1828.mut x1840 (all_cons (.head _) (all_cons (.tail _ (.head _)) (all_cons (.tail _ (.tail _ (.head _))) (all_cons (.tail _ (.tail _ (.tail _ (.head _)))) all_nil)))) (all_cons (some_ne h1842) (all_cons (some_ne h1843) (all_cons (some_ne h1844) (all_cons (some_ne h1845) all_nil))))
                have hw := cW_ok hw
                exact hK0 _ hw _ S1841.base h1842 h1843 h1844 h1845
              · have hw := cW_neg c1837 hw
                have hw := cW_ok hw
                exact hK0 _ hw _ S1828.base h1829 h1830 h1831 h1832
            · have hw := cW_neg c1824 hw
              refine ⟨_, rfl, _, _, _, _, rfl, rfl, (SqT.of (S1763.bM _ _ h1126)), rfl, _, _, rfl, rfl, _, rfl, ?_⟩
              refine iteD (fun c1850 => ?_) (fun c1850 => ?_)
              · have hw := cW_pos c1850 hw
                refine ⟨_, rfl, _, _, _, rfl, h1764, rfl, _, rfl, _, _, _, _, rfl, rfl, (SqT.of (S1763.bM _ _ h1126)), rfl, rfl, rfl, G, _, _, _, _, _, _, v1760, _, rfl, S1763.sG, (S1763.gno (all_cons (.head _) (all_cons (.tail _ (.head _)) (all_cons (.tail _ (.tail _ (.head _))) (all_cons (.tail _ (.tail _ (.tail _ (.head _)))) all_nil))))), h1764, h1765, h1766, h1767, ne_writer_0, ne_writer_1, cW_callN hw (fun v1851 hw H1852 x1853 h1855 h1856 h1857 h1858  => ?_) trivial⟩
                have S1854 := S1763.mut x1853 (all_cons (.head _) (all_cons (.tail _ (.head _)) (all_cons (.tail _ (.tail _ (.head _))) (all_cons (.tail _ (.tail _ (.tail _ (.head _)))) all_nil)))) (all_cons (some_ne h1855) (all_cons (some_ne h1856) (all_cons (some_ne h1857) (all_cons (some_ne h1858) all_nil))))
                have hw := cW_ok hw
                exact hK0 _ hw _ S1854.base h1855 h1856 h1857 h1858
              · have hw := cW_neg c1850 hw
                have hw := cW_ok hw
                exact hK0 _ hw _ S1763.base h1764 h1765 h1766 h1767
        · have hw := cW_neg c1759 hw
          refine ⟨_, rfl, _, _, _, _, rfl, rfl, (SqT.of (S0.bM _ _ h1126)), rfl, _, _, rfl, rfl, _, rfl, ?_⟩
          refine iteD (fun c1863 => ?_) (fun c1863 => ?_)
          · have hw := cW_pos c1863 hw
            refine ⟨_, rfl, _, _, _, rfl, h_p_writer, rfl, _, rfl, _, _, _, _, rfl, rfl, (SqT.of (S0.bM _ _ h1126)), rfl, _, rfl, _, _, _, _, rfl, rfl, (SqT.of (S0.bM _ _ h1126)), rfl, rfl, rfl, G, _, _, _, _, _, _, writer', _, _, rfl, S0.sG, (S0.gno (all_cons (.head _) (all_cons (.tail _ (.head _)) (all_cons (.tail _ (.tail _ (.head _))) (all_cons (.tail _ (.tail _ (.tail _ (.head _)))) all_nil))))), h_p_writer, h_p_writer_enc, h_l_writer_enc_probs, h_l_writer_enc_front, ne_writer_0, ne_writer_1, cW_call hw (fun v1864 hw H1865 x1866 h1868 h1869 h1870 h1871  => ?_) (fun e he H2 e2 => hE e he H2 (Same.trans (Same.refl _) e2))⟩
            have S1867 := S0.mut x1866 (all_cons (.head _) (all_cons (.tail _ (.head _)) (all_cons (.tail _ (.tail _ (.head _))) (all_cons (.tail _ (.tail _ (.tail _ (.head _)))) all_nil)))) (all_cons (some_ne h1868) (all_cons (some_ne h1869) (all_cons (some_ne h1870) (all_cons (some_ne h1871) all_nil))))
            refine ⟨_, rfl, _, _, _, _, rfl, rfl, (SqT.of (S1867.bM _ _ h1126)), rfl, _, _, rfl, rfl, _, rfl, ?_⟩
            refine iteD (fun c1876 => ?_) (fun c1876 => ?_)
            · have hw := cW_pos c1876 hw
              refine ⟨_, rfl, _, _, _, rfl, h1868, rfl, _, rfl, _, _, _, _, rfl, rfl, (SqT.of (S1867.bM _ _ h1126)), rfl, _, rfl, _, _, _, _, rfl, rfl, (SqT.of (S1867.bM _ _ h1126)), rfl, rfl, rfl, G, _, _, _, _, _, _, v1864, _, _, rfl, S1867.sG, (S1867.gno (all_cons (.head _) (all_cons (.tail _ (.head _)) (all_cons (.tail _ (.tail _ (.head _))) (all_cons (.tail _ (.tail _ (.tail _ (.head _)))) all_nil))))), h1868, h1869, h1870, h1871, ne_writer_0, ne_writer_1, cW_callN hw (fun v1877 hw H1878 x1879 h1881 h1882 h1883 h1884  => ?_) trivial⟩
              have S1880 := S1867.mut x1879 (all_cons (.head _) (all_cons (.tail _ (.head _)) (all_cons (.tail _ (.tail _ (.head _))) (all_cons (.tail _ (.tail _ (.tail _ (.head _)))) all_nil)))) (all_cons (some_ne h1881) (all_cons (some_ne h1882) (all_cons (some_ne h1883) (all_cons (some_ne h1884) all_nil))))
              refine ⟨_, rfl, _, _, _, _, rfl, rfl, (SqT.of (S1880.bM _ _ h1126)), rfl, _, _, rfl, rfl, _, rfl, ?_⟩
              refine iteD (fun c1889 => ?_) (fun c1889 => ?_)
              · have hw := cW_pos c1889 hw
                refine ⟨_, rfl, _, _, _, rfl, h1881, rfl, _, rfl, _, _, _, _, rfl, rfl, (SqT.of (S1880.bM _ _ h1126)), rfl, rfl, rfl, G, _, _, _, _, _, _, v1877, _, rfl, S1880.sG, (S1880.gno (all_cons (.head _) (all_cons (.tail _ (.head _)) (all_cons (.tail _ (.tail _ (.head _))) (all_cons (.tail _ (.tail _ (.tail _ (.head _)))) all_nil))))), h1881, h1882, h1883, h1884, ne_writer_0, ne_writer_1, cW_callN hw (fun v1890 hw H1891 x1892 h1894 h1895 h1896 h1897  => ?_) trivial⟩
                have S1893 := S1880.mut x1892 (all_cons (.head _) (all_cons (.tail _ (.head _)) (all_cons (.tail _ (.tail _ (.head _))) (all_cons (.tail _ (.tail _ (.tail _ (.head _)))) all_nil)))) (all_cons (some_ne h1894) (all_cons (some_ne h1895) (all_cons (some_ne h1896) (all_cons (some_ne h1897) all_nil))))
                have hw := cW_ok hw
                exact hK0 _ hw _ S1893.base h1894 h1895 h1896 h1897
              · have hw := cW_neg c1889 hw
                have hw := cW_ok hw
                exact hK0 _ hw _ S1880.base h1881 h1882 h1883 h1884
            · have hw := cW_neg c1876 hw
              refine ⟨_, rfl, _, _, _, _, rfl, rfl, (SqT.of (S1867.bM _ _ h1126)), rfl, _, _, rfl, rfl, _, rfl, ?_⟩
              refine iteD (fun c1902 => ?_) (fun c1902 => ?_)
              · have hw := cW_pos c1902 hw
                refine ⟨_, rfl, _, _, _, rfl, h1868, rfl, _, rfl, _, _, _, _, rfl, rfl, (SqT.of (S1867.bM _ _ h1126)), rfl, rfl, rfl, G, _, _, _, _, _, _, v1864, _, rfl, S1867.sG, (S1867.gno (all_cons (.head _) (all_cons (.tail _ (.head _)) (all_cons (.tail _ (.tail _ (.head _))) (all_cons (.tail _ (.tail _ (.tail _ (.head _)))) all_nil))))), h1868, h1869, h1870, h1871, ne_writer_0, ne_writer_1, cW_callN hw (fun v1903 hw H1904 x1905 h1907 h1908 h1909 h1910  => ?_) trivial⟩
                have S1906 := S1867.mut x1905 (all_cons (.head _) (all_cons (.tail _ (.head _)) (all_cons (.tail _ (.tail _ (.head _))) (all_cons (.tail _ (.tail _ (.tail _ (.head _)))) all_nil)))) (all_cons (some_ne h1907) (all_cons (some_ne h1908) (all_cons (some_ne h1909) (all_cons (some_ne h1910) all_nil))))
                have hw := cW_ok hw
                exact hK0 _ hw _ S1906.base h1907 h1908 h1909 h1910
              · have hw := cW_neg c1902 hw
                have hw := cW_ok hw
                exact hK0 _ hw _ S1867.base h1868 h1869 h1870 h1871
          · have hw := cW_neg c1863 hw
            refine ⟨_, rfl, _, _, _, _, rfl, rfl, (SqT.of (S0.bM _ _ h1126)), rfl, _, _, rfl, rfl, _, rfl, ?_⟩
            refine iteD (fun c1915 => ?_) (fun c1915 => ?_)
            · have hw := cW_pos c1915 hw
              refine ⟨_, rfl, _, _, _, rfl, h_p_writer, rfl, _, rfl, _, _, _, _, rfl, rfl, (SqT.of (S0.bM _ _ h1126)), rfl, _, rfl, _, _, _, _, rfl, rfl, (SqT.of (S0.bM _ _ h1126)), rfl, rfl, rfl, G, _, _, _, _, _, _, writer', _, _, rfl, S0.sG, (S0.gno (all_cons (.head _) (all_cons (.tail _ (.head _)) (all_cons (.tail _ (.tail _ (.head _))) (all_cons (.tail _ (.tail _ (.tail _ (.head _)))) all_nil))))), h_p_writer, h_p_writer_enc, h_l_writer_enc_probs, h_l_writer_enc_front, ne_writer_0, ne_writer_1, cW_call hw (fun v1916 hw H1917 x1918 h1920 h1921 h1922 h1923  => ?_) (fun e he H2 e2 => hE e he H2 (Same.trans (Same.refl _) e2))⟩
              have S1919 := S0.mut x1918 (all_cons (.head _) (all_cons (.tail _ (.head _)) (all_cons (.tail _ (.tail _ (.head _))) (all_cons (.tail _ (.tail _ (.tail _ (.head _)))) all_nil)))) (all_cons (some_ne h1920) (all_cons (some_ne h1921) (all_cons (some_ne h1922) (all_cons (some_ne h1923) all_nil))))
              refine ⟨_, rfl, _, _, _, _, rfl, rfl, (SqT.of (S1919.bM _ _ h1126)), rfl, _, _, rfl, rfl, _, rfl, ?_⟩
              refine iteD (fun c1928 => ?_) (fun c1928 => ?_)
              · have hw := cW_pos c1928 hw
                refine ⟨_, rfl, _, _, _, rfl, h1920, rfl, _, rfl, _, _, _, _, rfl, rfl, (SqT.of (S1919.bM _ _ h1126)), rfl, rfl, rfl, G, _, _, _, _, _, _, v1916, _, rfl, S1919.sG, (S1919.gno (all_cons (.head _) (all_cons (.tail _ (.head _)) (all_cons (.tail _ (.tail _ (.head _))) (all_cons (.tail _ (.tail _ (.tail _ (.head _)))) all_nil))))), h1920, h1921, h1922, h1923, ne_writer_0, ne_writer_1, cW_callN hw (fun v1929 hw H1930 x1931 h1933 h1934 h1935 h1936  => ?_) trivial⟩
                have S1932 := S1919.mut x1931 (all_cons (.head _) (all_cons (.tail _ (.head _)) (all_cons (.tail _ (.tail _ (.head _))) (all_cons (.tail _ (.tail _ (.tail _ (.head _)))) all_nil)))) (all_cons (some_ne h1933) (all_cons (some_ne h1934) (all_cons (some_ne h1935) (all_cons (some_ne h1936) all_nil))))
                have hw := cW_ok hw
                exact hK0 _ hw _ S1932.base h1933 h1934 h1935 h1936
              · have hw := cW_neg c1928 hw
                have hw := cW_ok hw
                exact hK0 _ hw _ S1919.base h1920 h1921 h1922 h1923
            · have hw := cW_neg c1915 hw
              refine ⟨_, rfl, _, _, _, _, rfl, rfl, (SqT.of (S0.bM _ _ h1126)), rfl, _, _, rfl, rfl, _, rfl, ?_⟩
              refine iteD (fun c1941 => ?_) (fun c1941 => ?_)
              · have hw := cW_pos c1941 hw
                refine ⟨_, rfl, _, _, _, rfl, h_p_writer, rfl, _, rfl, _, _, _, _, rfl, rfl, (SqT.of (S0.bM _ _ h1126)), rfl, rfl, rfl, G, _, _, _, _, _, _, writer', _, rfl, S0.sG, (S0.gno (all_cons (.head _) (all_cons (.tail _ (.head _)) (all_cons (.tail _ (.tail _ (.head _))) (all_cons (.tail _ (.tail _ (.tail _ (.head _)))) all_nil))))), h_p_writer, h_p_writer_enc, h_l_writer_enc_probs, h_l_writer_enc_front, ne_writer_0, ne_writer_1, cW_call hw (fun v1942 hw H1943 x1944 h1946 h1947 h1948 h1949  => ?_) (fun e he H2 e2 => hE e he H2 (Same.trans (Same.refl _) e2))⟩
                have S1945 := S0.mut x1944 (all_cons (.head _) (all_cons (.tail _ (.head _)) (all_cons (.tail _ (.tail _ (.head _))) (all_cons (.tail _ (.tail _ (.tail _ (.head _)))) all_nil)))) (all_cons (some_ne h1946) (all_cons (some_ne h1947) (all_cons (some_ne h1948) (all_cons (some_ne h1949) all_nil))))
                have hw := cW_ok hw
                exact hK0 _ hw _ S1945.base h1946 h1947 h1948 h1949
              · have hw := cW_neg c1941 hw
                have hw := cW_ok hw
                exact hK0 _ hw _ S0.base h_p_writer h_p_writer_enc h_l_writer_enc_probs h_l_writer_enc_front

abbrev N__law_unary_items : List Str := ["base", "value", "most", "items", "k"]
theorem sc__law_unary_items : FnScope N__law_unary_items ["base", "value", "most"] (defScope s__law_unary_items) := ⟨rfl, rfl, rfl, by decide +kernel, rfl, by decide +kernel, by decide +kernel⟩
theorem ok__law_unary_items (D : DefX K mg "_law_unary_items" s__law_unary_items ["base", "value", "most"] pats__law_unary_items) (T : Txt K mg AD)  : CalX P w K mg base 1 "_law_unary_items" (sp__law_unary_items K AD) pats__law_unary_items := by
  refine D.ok sc__law_unary_items (fun vs H Q E h => ?_) (fun f cdv A_ outer s H vs Q E hr h => ?_)
  · obtain ⟨G, base', value', most', rfl, _⟩ := h
    rfl
  · obtain ⟨G, base', value', most', rfl, sG, hw⟩ := h
    refine ⟨_, (pss_cons (ps_setLc (i := 3) (y := "items") rfl sc__law_unary_items.nd rfl rfl (sw_true rfl rfl rfl (by decide +kernel)) (own := [("k", 4)]) (g := gName 4) (pi_range1 rfl T.b_range (pa_cons (pv 1) pa_nil)) (blkOk_by (own := [("k", 4)]) (N := N__law_unary_items) (sc := defScope s__law_unary_items) (by decide +kernel)) (fun _ _ _ _ _ => (pg_name (i := 4) sc__law_unary_items.nd rfl (Or.inl rfl))) (fun _ _ _ _ _ => pts_nil) (fun _ _ _ _ _ => (pe_tup (pa_cons (pe_op op_add (pv 0) (pe_callB (call_min2 rfl) (by rfl) T.b_min (by decide +kernel) (pa_cons (pv 4) (pa_cons pe_int pa_nil)))) (pa_cons pe_int pa_nil)))))
      (C8.pss_cut (ps_if (pt_cmp (pc_lt (pv 1) (pv 2))) (pss_one (ps_expr (pe_bm PySem.F.plainAttrs_list PySem.F.slot_list_append PySem.F.type_list_append mt_append (pv 3) (pa_cons (pe_tup (pa_cons (pe_op op_add (pv 0) (pe_callB (call_min2 rfl) (by rfl) T.b_min (by decide +kernel) (pa_cons (pv 1) (pa_cons pe_int pa_nil)))) (pa_cons pe_int pa_nil))) pa_nil)))) pss_nil)
      (pss_one (ps_ret (pv 3))))), ?_⟩
    obtain ⟨KK, EE, hK0, hE, hw⟩ := cW_gen hw
    have S0 := Sep.startG sG
    unfold F__law_unary_items at hw
    obtain ⟨g1954, hw⟩ := cW_grd hw
    obtain ⟨K1957, hK1958, hw⟩ := cW_push hw
    refine ⟨_, rfl, _, rfl, g1954.1, g1954.2, fun D1959 n1960 => lc_range (lo := 0) (n := Int.toNat (value')) (fun i H' => ∃ (G' : Hp) (acc1962 : (List (Int × Int))) (vs1963 : List V), Same G G' ∧ Sep [] H G G' H' [D1959] ∧ H' D1959 = some (.lst vs1963) ∧ RpAll G' vs1963 ((acc1962 : (List (Int × Int))).map (encT2 PyData.int PyData.int)) ∧ Same H H' ∧ cW (mapA (List.drop i (rng (0) (Int.toNat (value')))) acc1962 (fun x => noEr (F__law_unary_items_c1 (base') x))) K1957 EE) ?_ ?_ ?_⟩
    · generalize g1964 : upd H D1959 _ = H1965
      obtain ⟨e1966, h1967⟩ := gen_new n1960 g1964
      have fr1968 := S0.free n1960
      have S1969 := S0.new n1960 e1966 h1967 fr1968
      exact ⟨_, [], [], Same.refl _, S1969, h1967, RpAll.nil, e1966, hw⟩
    · intro i H1970 hi hw
      obtain ⟨G1973, acc1975, vs1976, eG1974, S1971, h1972, d1977, eo1981, hw⟩ := hw
      obtain ⟨z1982, hw⟩ := cW_mapA (rng_get hi) hw
      generalize (0 + (i : Int)) = x1983 at hw ⊢
      have hw := cW_noEr hw
      have hw : cW (F__law_unary_items_c1 (base') (x1983)) _ (fun _ => False) := hw
      unfold F__law_unary_items_c1 at hw
      refine ⟨rfl, ?_⟩
      refine tyes_go ?_
      refine ⟨_, rfl, _, rfl, _, _, rfl, _, _, rfl, rfl, (by show 2 ≤ sizeLine; decide), fun p1985 n1986 => ?_⟩
      generalize g1987 : upd H1970 p1985 _ = H1988
      obtain ⟨e1989, h1990⟩ := gen_new n1986 g1987
      have h1991 : H1988 p1985 = some (.tup [V.int ((base' + (if 7 < x1983 then 7 else x1983))), V.int (1)]) := h1990
      have fr1992 := S1971.free n1986
      obtain ⟨G1994, eG1995, hg1996, S1993⟩ := S1971.grow n1986 e1989 h1991 fr1992
      have h1997 := (e1989 _ _ h1972)
      refine ⟨_, h1997, (app_len (RpAll.mono eG1995 d1977) z1982), ?_⟩
      generalize g1998 : upd H1988 D1959 _ = H1999
      obtain ⟨x2000, h2001⟩ := gen_mut g1998
      have S2002 := S1993.mut1 x2000 (.head _) h2001
      have hw := cW_ok hw
      exact ⟨_, (acc1975 ++ [((base' + (if 7 < x1983 then 7 else x1983)), 1)]), _, (Same.trans eG1974 eG1995), S2002, h2001, (app_map (RpAll.mono eG1995 d1977) (RpAll.one (rp_mk2 hg1996 (.int _) (.int _)))), (same_mut (Same.trans eo1981 e1989) x2000 n1960), hw⟩
    intro H2003 hw
    obtain ⟨G2006, acc2008, vs2009, eG2007, S2004, h2005, d2010, eo2014, hw⟩ := hw
    have hw := hK1958 _ (cW_mapA0 (rng_len _ _).symm hw)
    have fr2015 := S0.free n1960
    refine ⟨fun σ H' => ∃ (items_2017 : (List (Int × Int))) (vs2018 : List V) (G' : Hp), σ = [some (V.int (base')), some (V.int (value')), some (V.int (most')), some (V.ref D1959), none] ∧ Same G2006 G' ∧ Sep [] H G G' H' [D1959] ∧ H' D1959 = some (.lst (vs2018)) ∧ RpAll G' (vs2018) ((items_2017 : (List (Int × Int))).map (encT2 PyData.int PyData.int)) ∧ cW (F__law_unary_items_k2  items_2017) KK EE, ?_, ?_⟩
    · obtain ⟨K2019, hK2020, hw⟩ := cW_push hw
      refine ⟨_, rfl, _, rfl, _, _, rfl, rfl, _, rfl, ?_⟩
      refine iteD (fun c2021 => ?_) (fun c2021 => ?_)
      · have hw := cW_pos c2021 hw
        refine ⟨_, rfl, (.inl ⟨rfl, _, SqL.of h2005⟩), _, rfl, _, rfl, _, _, rfl, _, _, rfl, rfl, (by show 2 ≤ sizeLine; decide), fun p2022 n2023 => ?_⟩
        generalize g2024 : upd H2003 p2022 _ = H2025
        obtain ⟨e2026, h2027⟩ := gen_new n2023 g2024
        have h2028 : H2025 p2022 = some (.tup [V.int ((base' + (if 7 < value' then 7 else value'))), V.int (0)]) := h2027
        have fr2029 := S2004.free n2023
        obtain ⟨G2031, eG2032, hg2033, S2030⟩ := S2004.grow n2023 e2026 h2028 fr2029
        obtain ⟨g2034, hw⟩ := cW_grd hw
        have h2035 := (e2026 _ _ h2005)
        refine ⟨_, _, _, rfl, rfl, h2035, (app_len (RpAll.mono eG2032 d2010) g2034), ?_⟩
        generalize g2036 : upd H2025 D1959 _ = H2037
        obtain ⟨x2038, h2039⟩ := gen_mut g2036
        have h2040 : H2037 D1959 = some (.lst (vs2009 ++ [V.ref p2022])) := h2039
        have S2041 := S2030.mut1 x2038 (.head _) h2040
        have d2042 : RpAll G2031 (vs2009 ++ [V.ref p2022]) (((acc2008) ++ [((base' + (if 7 < value' then 7 else value')), 0)] : (List (Int × Int))).map (encT2 PyData.int PyData.int)) := app_map (RpAll.mono eG2032 d2010) (RpAll.one (rp_mk2 hg2033 (.int _) (.int _)))
        have hw := cW_bnd hw
        have hw := cW_ok hw
        have hw := hK2020 _ hw
        exact ⟨((acc2008) ++ [((base' + (if 7 < value' then 7 else value')), 0)]), _, _, rfl, eG2032, S2041, h2040, d2042, hw⟩
      · have hw := cW_neg c2021 hw
        have hw := cW_ok hw
        have hw := hK2020 _ hw
        exact ⟨(acc2008), _, _, rfl, (Same.refl _), S2004, h2005, d2010, hw⟩
    · intro σ H2044 hw
      obtain ⟨items_2017, vs2018, G2048, rfl, eG2049, S2045, h2046, d2047, hw⟩ := hw
      unfold F__law_unary_items_k2 at hw
      refine ⟨_, rfl, ?_⟩
      have hw := cW_ok hw
      exact hK0 _ hw _ _ _ _ fr2015 S2045.b0 S2045.g0 S2045.sG S2045.gn (S2045.ow _ (.head _)).1 h2046 d2047

abbrev N__law_number_items : List Str := ["base", "value", "size", "items", "k", "digit"]
theorem sc__law_number_items : FnScope N__law_number_items ["base", "value"] (defScope s__law_number_items) := ⟨rfl, rfl, rfl, by decide +kernel, rfl, by decide +kernel, by decide +kernel⟩
theorem ok__law_number_items (D : DefX K mg "_law_number_items" s__law_number_items ["base", "value"] pats__law_number_items) (T : Txt K mg AD) (c__law_unary_items : CalX P w K mg base 1 "_law_unary_items" (sp__law_unary_items K AD) pats__law_unary_items) : CalX P w K mg base 2 "_law_number_items" (sp__law_number_items K AD) pats__law_number_items := by
  refine D.ok sc__law_number_items (fun vs H Q E h => ?_) (fun f cdv A_ outer s H vs Q E hr h => ?_)
  · obtain ⟨G, base', value', rfl, _⟩ := h
    rfl
  · obtain ⟨G, base', value', rfl, sG, hw⟩ := h
    refine ⟨_, (pss_cons (ps_set (i := 2) sc__law_number_items.nd rfl (Or.inl rfl) (pe_bits (pe_op op_add (pv 1) pe_int)))
      (pss_cons (ps_set (i := 3) sc__law_number_items.nd rfl (Or.inl rfl) (vx_callX c__law_unary_items pat__law_unary_items_0 (.head _) hr (by decide) (takes_of rfl rfl rfl rfl) rfl (pa_cons (pv 0) (pa_cons (pe_op op_sub (pv 2) pe_int) (pa_cons pe_int pa_nil))) pk_nil))
      (pss_cons (ps_for (passes_of rfl) rfl (pi_range1 rfl T.b_range (pa_cons (pe_op op_sub (pv 2) pe_int) pa_nil)) (pg_name (i := 4) sc__law_number_items.nd rfl (Or.inl rfl)) (pss_cons (ps_set (i := 5) sc__law_number_items.nd rfl (Or.inl rfl) (pe_op op_and (pe_op op_shr (pe_op op_add (pv 1) pe_int) (pe_op op_sub (pe_op op_sub (pv 2) pe_int) (pv 4))) pe_int))
      (pss_one (ps_if (pt_cmp (pc_eqI (pv 4) pe_int)) (pss_one (ps_expr (pe_bm PySem.F.plainAttrs_list PySem.F.slot_list_append PySem.F.type_list_append mt_append (pv 3) (pa_cons (pe_tup (pa_cons (pe_op op_add (pe_op op_add (pv 0) pe_int) (pe_callB (call_min2 rfl) (by rfl) T.b_min (by decide +kernel) (pa_cons (pe_op op_sub (pv 2) pe_int) (pa_cons pe_int pa_nil)))) (pa_cons (pv 5) pa_nil))) pa_nil)))) (pss_one (ps_expr (pe_bm PySem.F.plainAttrs_list PySem.F.slot_list_append PySem.F.type_list_append mt_append (pv 3) (pa_cons (pe_tup (pa_cons (pe_un un_neg pe_int) (pa_cons (pv 5) pa_nil))) pa_nil))))))))
      (pss_one (ps_ret (pv 3)))))), ?_⟩
    obtain ⟨KK, EE, hK0, hE, hw⟩ := cW_gen hw
    have S0 := Sep.startG sG
    unfold F__law_number_items at hw
    refine ⟨_, rfl, _, _, rfl, rfl, _, rfl, ?_⟩
    have hw := cW_bnd hw
    refine ⟨_, rfl, _, rfl, _, _, rfl, rfl, rfl, rfl, G, _, _, _, rfl, S0.sG, cW_call hw (fun v2051 hw p2054 vs2055 H2052 G2056 n2057 e2053 eG2058 sG2059 hn2060 gp2061 h2062 d2063 => ?_) (fun e he H2 e2 => hE e he H2 (Same.trans S0.b0 e2))⟩
    have fr2065 := S0.free n2057
    have S2064 := S0.stepnew e2053 eG2058 sG2059 hn2060 n2057 h2062 gp2061 fr2065
    obtain ⟨g2066, hw⟩ := cW_grd hw
    obtain ⟨K2070, hK2071, hw⟩ := cW_push hw
    refine ⟨_, rfl, _, _, rfl, rfl, _, rfl, g2066.1, g2066.2, for_range (lo := 0) (n := Int.toNat ((((PySem.Builtin.Int.intBits ((value' + 1)) : Nat) : Int) - 1))) (fun i σ H' => ∃ (items_2072 : (List (Int × Int))) (vs2073 : List V) (u2074 : Option V) (u2075 : Option V) (G' : Hp), σ = [some (V.int (base')), some (V.int (value')), some (V.int (((PySem.Builtin.Int.intBits ((value' + 1)) : Nat) : Int))), some (V.ref p2054), u2074, u2075] ∧ Same G2056 G' ∧ Sep [] H G G' H' [p2054] ∧ H' p2054 = some (.lst (vs2073)) ∧ RpAll G' (vs2073) ((items_2072 : (List (Int × Int))).map (encT2 PyData.int PyData.int)) ∧ cW (forS (List.drop i (rng (0) (Int.toNat ((((PySem.Builtin.Int.intBits ((value' + 1)) : Nat) : Int) - 1))))) items_2072 (fun s x => F__law_number_items_b1 (base') (value') (((PySem.Builtin.Int.intBits ((value' + 1)) : Nat) : Int)) s x)) K2070 EE) ?_ ?_ ?_⟩
    · exact ⟨(v2051), _, _, _, _, rfl, (Same.refl _), S2064, h2062, d2063, hw⟩
    · intro i σ H2076 hi hw
      obtain ⟨items_2072, vs2073, u2074, u2075, G2080, rfl, eG2081, S2077, h2078, d2079, hw⟩ := hw
      have hw := cW_forS (rng_get hi) hw
      generalize (0 + (i : Int)) = x2082 at hw ⊢
      have hw : cW (F__law_number_items_b1 (base') (value') (((PySem.Builtin.Int.intBits ((value' + 1)) : Nat) : Int)) (items_2072) (x2082)) _ EE := hw
      unfold F__law_number_items_b1 at hw
      obtain ⟨K2084, hK2085, hw⟩ := cW_name hw
      obtain ⟨g2087, hw⟩ := cW_grd hw
      refine ⟨_, rfl, _, _, rfl, rfl, _, rfl, _, _, rfl, rfl, _, rfl, _, _, rfl, rfl, _, _, rfl, rfl, g2087, _, _, rfl, rfl, ?_⟩
      have hw := cW_bnd hw
      refine ⟨_, rfl, _, _, rfl, rfl, _, rfl, ?_⟩
      refine iteD (fun c2089 => ?_) (fun c2089 => ?_)
      · have hw := cW_pos c2089 hw
        refine ⟨_, rfl, (.inl ⟨rfl, _, SqL.of h2078⟩), _, rfl, _, _, rfl, rfl, _, rfl, _, _, rfl, rfl, _, _, rfl, _, _, rfl, rfl, _, rfl, (by show 2 ≤ sizeLine; decide), fun p2090 n2091 => ?_⟩
        generalize g2092 : upd H2076 p2090 _ = H2093
        obtain ⟨e2094, h2095⟩ := gen_new n2091 g2092
        have h2096 : H2093 p2090 = some (.tup [V.int (((base' + 8) + (if 7 < (((PySem.Builtin.Int.intBits ((value' + 1)) : Nat) : Int) - 2) then 7 else (((PySem.Builtin.Int.intBits ((value' + 1)) : Nat) : Int) - 2)))), V.int ((PySem.Builtin.bitAnd (((value' + 1) / 2 ^ Int.toNat (((((PySem.Builtin.Int.intBits ((value' + 1)) : Nat) : Int) - 2) - x2082)))) (1)))]) := h2095
        have fr2097 := S2077.free n2091
        obtain ⟨G2099, eG2100, hg2101, S2098⟩ := S2077.grow n2091 e2094 h2096 fr2097
        obtain ⟨g2102, hw⟩ := cW_grd hw
        have h2103 := (e2094 _ _ h2078)
        refine ⟨_, _, _, rfl, rfl, h2103, (app_len (RpAll.mono eG2100 d2079) g2102), ?_⟩
        generalize g2104 : upd H2093 p2054 _ = H2105
        obtain ⟨x2106, h2107⟩ := gen_mut g2104
        have h2108 : H2105 p2054 = some (.lst (vs2073 ++ [V.ref p2090])) := h2107
        have S2109 := S2098.mut1 x2106 (.head _) h2108
        have d2110 : RpAll G2099 (vs2073 ++ [V.ref p2090]) (((items_2072) ++ [(((base' + 8) + (if 7 < (((PySem.Builtin.Int.intBits ((value' + 1)) : Nat) : Int) - 2) then 7 else (((PySem.Builtin.Int.intBits ((value' + 1)) : Nat) : Int) - 2))), (PySem.Builtin.bitAnd (((value' + 1) / 2 ^ Int.toNat (((((PySem.Builtin.Int.intBits ((value' + 1)) : Nat) : Int) - 2) - x2082)))) (1)))] : (List (Int × Int))).map (encT2 PyData.int PyData.int)) := app_map (RpAll.mono eG2100 d2079) (RpAll.one (rp_mk2 hg2101 (.int _) (.int _)))
        have hw := cW_bnd hw
        have hw := cW_ok hw
        have hw := hK2085 _ hw
        exact ⟨((items_2072) ++ [(((base' + 8) + (if 7 < (((PySem.Builtin.Int.intBits ((value' + 1)) : Nat) : Int) - 2) then 7 else (((PySem.Builtin.Int.intBits ((value' + 1)) : Nat) : Int) - 2))), (PySem.Builtin.bitAnd (((value' + 1) / 2 ^ Int.toNat (((((PySem.Builtin.Int.intBits ((value' + 1)) : Nat) : Int) - 2) - x2082)))) (1)))]), _, _, _, _, rfl, (Same.trans eG2081 eG2100), S2109, h2108, d2110, hw⟩
      · have hw := cW_neg c2089 hw
        refine ⟨_, rfl, (.inl ⟨rfl, _, SqL.of h2078⟩), _, rfl, _, rfl, (by show 2 ≤ sizeLine; decide), fun p2112 n2113 => ?_⟩
        generalize g2114 : upd H2076 p2112 _ = H2115
        obtain ⟨e2116, h2117⟩ := gen_new n2113 g2114
        have h2118 : H2115 p2112 = some (.tup [V.int ((-1)), V.int ((PySem.Builtin.bitAnd (((value' + 1) / 2 ^ Int.toNat (((((PySem.Builtin.Int.intBits ((value' + 1)) : Nat) : Int) - 2) - x2082)))) (1)))]) := h2117
        have fr2119 := S2077.free n2113
        obtain ⟨G2121, eG2122, hg2123, S2120⟩ := S2077.grow n2113 e2116 h2118 fr2119
        obtain ⟨g2124, hw⟩ := cW_grd hw
        have h2125 := (e2116 _ _ h2078)
        refine ⟨_, _, _, rfl, rfl, h2125, (app_len (RpAll.mono eG2122 d2079) g2124), ?_⟩
        generalize g2126 : upd H2115 p2054 _ = H2127
        obtain ⟨x2128, h2129⟩ := gen_mut g2126
        have h2130 : H2127 p2054 = some (.lst (vs2073 ++ [V.ref p2112])) := h2129
        have S2131 := S2120.mut1 x2128 (.head _) h2130
        have d2132 : RpAll G2121 (vs2073 ++ [V.ref p2112]) (((items_2072) ++ [((-1), (PySem.Builtin.bitAnd (((value' + 1) / 2 ^ Int.toNat (((((PySem.Builtin.Int.intBits ((value' + 1)) : Nat) : Int) - 2) - x2082)))) (1)))] : (List (Int × Int))).map (encT2 PyData.int PyData.int)) := app_map (RpAll.mono eG2122 d2079) (RpAll.one (rp_mk2 hg2123 (.int _) (.int _)))
        have hw := cW_bnd hw
        have hw := cW_ok hw
        have hw := hK2085 _ hw
        exact ⟨((items_2072) ++ [((-1), (PySem.Builtin.bitAnd (((value' + 1) / 2 ^ Int.toNat (((((PySem.Builtin.Int.intBits ((value' + 1)) : Nat) : Int) - 2) - x2082)))) (1)))]), _, _, _, _, rfl, (Same.trans eG2081 eG2122), S2131, h2130, d2132, hw⟩
    · intro σ H2134 hw
      obtain ⟨items_2072, vs2073, u2074, u2075, G2138, rfl, eG2139, S2135, h2136, d2137, hw⟩ := hw
      have hw := hK2071 _ (cW_forS0 (rng_len _ _).symm hw)
      have hw : cW (F__law_number_items_r1  (items_2072)) _ EE := hw
      unfold F__law_number_items_r1 at hw
      refine ⟨_, rfl, ?_⟩
      have hw := cW_ok hw
      exact hK0 _ hw _ _ _ _ fr2065 S2135.b0 S2135.g0 S2135.sG S2135.gn (S2135.ow _ (.head _)).1 h2136 d2137

abbrev N__law_symbol_items : List Str := ["symbol", "base", "value", "width", "items", "k", "before"]
theorem sc__law_symbol_items : FnScope N__law_symbol_items ["symbol"] (defScope s__law_symbol_items) := ⟨rfl, rfl, rfl, by decide +kernel, rfl, by decide +kernel, by decide +kernel⟩
theorem ok__law_symbol_items (D : DefX K mg "_law_symbol_items" s__law_symbol_items ["symbol"] pats__law_symbol_items) (T : Txt K mg AD) (c__law_unary_items : CalX P w K mg base 1 "_law_unary_items" (sp__law_unary_items K AD) pats__law_unary_items) (c__law_number_items : CalX P w K mg base 2 "_law_number_items" (sp__law_number_items K AD) pats__law_number_items) : CalX P w K mg base 3 "_law_symbol_items" (sp__law_symbol_items K AD) pats__law_symbol_items := by
  refine D.ok sc__law_symbol_items (fun vs H Q E h => ?_) (fun f cdv A_ outer s H vs Q E hr h => ?_)
  · obtain ⟨G, v_symbol, symbol', rfl, _⟩ := h
    rfl
  · obtain ⟨G, v_symbol, symbol', rfl, sG, r_symbol, hw⟩ := h
    refine ⟨_, (pss_cons (ps_set (i := 1) sc__law_symbol_items.nd rfl (Or.inl rfl) (pe_ix (ix_tupK (K := K)) (pv 0) pe_int (fun _ _ => rfl)))
      (pss_cons (ps_set (i := 2) sc__law_symbol_items.nd rfl (Or.inl rfl) (pe_ix (ix_tupK (K := K)) (pv 0) pe_int (fun _ _ => rfl)))
      (pss_cons (ps_if (pt_cmp (pc_eqI (pe_ix (ix_tupK (K := K)) (pv 0) pe_int (fun _ _ => rfl)) pe_int)) (pss_one (ps_ret (pe_lst (pa_cons (pe_tup (pa_cons (pv 1) (pa_cons (pv 2) pa_nil))) pa_nil)))) pss_nil)
      (pss_cons (ps_if (pt_cmp (pc_eqI (pe_ix (ix_tupK (K := K)) (pv 0) pe_int (fun _ _ => rfl)) pe_int)) (pss_cons (ps_set (i := 3) sc__law_symbol_items.nd rfl (Or.inl rfl) (pe_bits (pe_op op_sub (pe_ix (ix_tupK (K := K)) (pv 0) pe_int (fun _ _ => rfl)) pe_int)))
      (pss_cons (ps_set (i := 4) sc__law_symbol_items.nd rfl (Or.inl rfl) (pe_lst pa_nil))
      (pss_cons (ps_for (passes_of rfl) rfl (pi_range1 rfl T.b_range (pa_cons (pv 3) pa_nil)) (pg_name (i := 5) sc__law_symbol_items.nd rfl (Or.inl rfl)) (pss_cons (ps_set (i := 6) sc__law_symbol_items.nd rfl (Or.inl rfl) (pe_op op_add (pe_op op_shlW pe_int (pv 5)) (pe_op op_shr (pv 2) (pe_op op_sub (pv 3) (pv 5)))))
      (pss_one (ps_expr (pe_bm PySem.F.plainAttrs_list PySem.F.slot_list_append PySem.F.type_list_append mt_append (pv 4) (pa_cons (pe_tup (pa_cons (pe_op op_sub (pe_op op_add (pv 1) (pv 6)) pe_int) (pa_cons (pe_op op_and (pe_op op_shr (pv 2) (pe_op op_sub (pe_op op_sub (pv 3) pe_int) (pv 5))) pe_int) pa_nil))) pa_nil))))))
      (pss_one (ps_ret (pv 4)))))) pss_nil)
      (pss_cons (ps_if (pt_cmp (pc_eqI (pe_ix (ix_tupK (K := K)) (pv 0) pe_int (fun _ _ => rfl)) pe_int)) (pss_one (ps_ret (vx_callX c__law_unary_items pat__law_unary_items_0 (.head _) hr (by decide) (takes_of rfl rfl rfl rfl) rfl (pa_cons (pv 1) (pa_cons (pv 2) (pa_cons (pe_ix (ix_tupK (K := K)) (pv 0) pe_int (fun _ _ => rfl)) pa_nil))) pk_nil))) pss_nil)
      (pss_cons (ps_if (pt_cmp (pc_eqI (pe_ix (ix_tupK (K := K)) (pv 0) pe_int (fun _ _ => rfl)) pe_int)) (pss_one (ps_ret (pe_lst (pa_cons (pe_tup (pa_cons (pe_un un_neg pe_int) (pa_cons (pv 2) pa_nil))) pa_nil)))) pss_nil)
      (pss_cons (ps_set (i := 4) sc__law_symbol_items.nd rfl (Or.inl rfl) (vx_callX c__law_number_items pat__law_number_items_0 (.head _) hr (by decide) (takes_of rfl rfl rfl rfl) rfl (pa_cons (pv 1) (pa_cons (pe_callB call_abs (by rfl) T.b_abs (by decide +kernel) (pa_cons (pv 2) pa_nil)) pa_nil)) pk_nil))
      (C8.pss_cut (ps_if (PW.pt (pw_and (pt_cmp (pc_eqI (pe_ix (ix_tupK (K := K)) (pv 0) pe_int (fun _ _ => rfl)) pe_int)) (pw_and1 (pt_cmp (pc_neI (pv 2) pe_int))))) (pss_one (ps_expr (pe_bm PySem.F.plainAttrs_list PySem.F.slot_list_append PySem.F.type_list_append mt_append (pv 4) (pa_cons (pe_tup (pa_cons (pe_un un_neg pe_int) (pa_cons (pe_callTy call_int1 (by rfl) T.b_int (by decide +kernel) (pa_cons (pe_cmp (pc_lt (pv 2) pe_int)) pa_nil)) pa_nil))) pa_nil)))) pss_nil)
      (pss_one (ps_ret (pv 4))))))))))), ?_⟩
    obtain ⟨KK, EE, hK0, hE, hw⟩ := cW_gen hw
    have S0 := Sep.startG sG
    unfold F__law_symbol_items at hw
    obtain ⟨a2141, v2143, v2144, v2145, v2146, rfl, h2142, r2147, r2148, r2149, r2150⟩ := rp_tup4 r_symbol
    obtain rfl := rp_int r2147
    obtain rfl := rp_int r2148
    obtain rfl := rp_int r2149
    obtain rfl := rp_int r2150
    refine ⟨_, rfl, _, _, _, _, rfl, rfl, (SqT.of (S0.bM _ _ h2142)), rfl, _, rfl, _, _, _, _, rfl, rfl, (SqT.of (S0.bM _ _ h2142)), rfl, _, rfl, _, _, _, _, rfl, rfl, (SqT.of (S0.bM _ _ h2142)), rfl, _, _, rfl, rfl, _, rfl, ?_⟩
    refine iteD (fun c2151 => ?_) (fun c2151 => ?_)
    · have hw := cW_pos c2151 hw
      refine ⟨_, rfl, _, rfl, (by show 2 ≤ sizeLine; decide), fun p2152 n2153 => ?_⟩
      generalize g2154 : upd H p2152 _ = H2155
      obtain ⟨e2156, h2157⟩ := gen_new n2153 g2154
      have h2158 : H2155 p2152 = some (.tup [V.int (symbol'.2.1), V.int (symbol'.2.2.1)]) := h2157
      have fr2159 := S0.free n2153
      obtain ⟨G2161, eG2162, hg2163, S2160⟩ := S0.grow n2153 e2156 h2158 fr2159
      refine ⟨(by show 1 ≤ sizeLine; decide), fun p2164 n2165 => ?_⟩
      generalize g2166 : upd H2155 p2164 _ = H2167
      obtain ⟨e2168, h2169⟩ := gen_new n2165 g2166
      have h2170 : H2167 p2164 = some (.lst ([V.ref p2152])) := h2169
      have fr2171 := S2160.free n2165
      have S2172 := S2160.new n2165 e2168 h2170 fr2171
      have d2173 : RpAll G2161 ([V.ref p2152]) (([(symbol'.2.1, symbol'.2.2.1)] : (List (Int × Int))).map (encT2 PyData.int PyData.int)) := (RpAll.cons (rp_mk2 hg2163 (.int _) (.int _)) RpAll.nil)
      have hw := cW_ok hw
      exact hK0 _ hw _ _ _ _ fr2171 S2172.b0 S2172.g0 S2172.sG S2172.gn (S2172.ow _ (.head _)).1 h2170 d2173
    · have hw := cW_neg c2151 hw
      refine ⟨_, rfl, _, _, _, _, rfl, rfl, (SqT.of (S0.bM _ _ h2142)), rfl, _, _, rfl, rfl, _, rfl, ?_⟩
      refine iteD (fun c2174 => ?_) (fun c2174 => ?_)
      · have hw := cW_pos c2174 hw
        refine ⟨_, rfl, _, _, _, _, rfl, rfl, (SqT.of (S0.bM _ _ h2142)), rfl, _, _, rfl, rfl, _, rfl, ?_⟩
        have hw := cW_bnd hw
        refine ⟨(by show 0 ≤ sizeLine; decide), fun p2176 n2177 => ?_⟩
        generalize g2178 : upd H p2176 _ = H2179
        obtain ⟨e2180, h2181⟩ := gen_new n2177 g2178
        have h2182 : H2179 p2176 = some (.lst ([])) := h2181
        have fr2183 := S0.free n2177
        have S2184 := S0.new n2177 e2180 h2182 fr2183
        have d2185 : RpAll G ([]) ((([] : (List (Int × Int))) : (List (Int × Int))).map (encT2 PyData.int PyData.int)) := RpAll.nil
        obtain ⟨g2186, hw⟩ := cW_grd hw
        obtain ⟨K2193, hK2194, hw⟩ := cW_push hw
        refine ⟨_, rfl, _, rfl, g2186.1, g2186.2, for_range (lo := 0) (n := Int.toNat (((PySem.Builtin.Int.intBits ((symbol'.2.2.2 - 1)) : Nat) : Int))) (fun i σ H' => ∃ (items_2195 : (List (Int × Int))) (vs2196 : List V) (u2197 : Option V) (u2198 : Option V) (G' : Hp), σ = [some (V.ref a2141), some (V.int (symbol'.2.1)), some (V.int (symbol'.2.2.1)), some (V.int (((PySem.Builtin.Int.intBits ((symbol'.2.2.2 - 1)) : Nat) : Int))), some (V.ref p2176), u2197, u2198] ∧ Same G G' ∧ Sep [] H G G' H' [p2176] ∧ H' p2176 = some (.lst (vs2196)) ∧ RpAll G' (vs2196) ((items_2195 : (List (Int × Int))).map (encT2 PyData.int PyData.int)) ∧ cW (forS (List.drop i (rng (0) (Int.toNat (((PySem.Builtin.Int.intBits ((symbol'.2.2.2 - 1)) : Nat) : Int))))) items_2195 (fun s x => F__law_symbol_items_b1 (symbol'.2.1) (symbol'.2.2.1) (((PySem.Builtin.Int.intBits ((symbol'.2.2.2 - 1)) : Nat) : Int)) s x)) K2193 EE) ?_ ?_ ?_⟩
        · exact ⟨(([] : (List (Int × Int)))), _, _, _, _, rfl, (Same.refl _), S2184, h2182, d2185, hw⟩
        · intro i σ H2199 hi hw
          obtain ⟨items_2195, vs2196, u2197, u2198, G2203, rfl, eG2204, S2200, h2201, d2202, hw⟩ := hw
          have hw := cW_forS (rng_get hi) hw
          generalize (0 + (i : Int)) = x2205 at hw ⊢
          have hw : cW (F__law_symbol_items_b1 (symbol'.2.1) (symbol'.2.2.1) (((PySem.Builtin.Int.intBits ((symbol'.2.2.2 - 1)) : Nat) : Int)) (items_2195) (x2205)) _ EE := hw
          unfold F__law_symbol_items_b1 at hw
          obtain ⟨K2207, hK2208, hw⟩ := cW_name hw
          obtain ⟨g2210, hw⟩ := cW_grd hw
          obtain ⟨g2211, hw⟩ := cW_grd hw
          refine ⟨_, rfl, _, _, rfl, rfl, (shl_side g2210.1 g2210.2.1 g2210.2.2.1 g2210.2.2.2), _, rfl, _, rfl, _, rfl, _, _, rfl, rfl, _, _, rfl, rfl, g2211, _, _, rfl, rfl, ?_⟩
          have hw := cW_bnd hw
          obtain ⟨g2213, hw⟩ := cW_grd hw
          refine ⟨_, rfl, (.inl ⟨rfl, _, SqL.of h2201⟩), _, rfl, _, rfl, _, _, rfl, rfl, _, _, rfl, rfl, _, rfl, _, rfl, _, _, rfl, rfl, _, rfl, _, _, rfl, rfl, _, _, rfl, rfl, g2213, _, _, rfl, rfl, (by show 2 ≤ sizeLine; decide), fun p2214 n2215 => ?_⟩
          generalize g2216 : upd H2199 p2214 _ = H2217
          obtain ⟨e2218, h2219⟩ := gen_new n2215 g2216
          have h2220 : H2217 p2214 = some (.tup [V.int (((symbol'.2.1 + ((1 * 2 ^ Int.toNat (x2205)) + (symbol'.2.2.1 / 2 ^ Int.toNat ((((PySem.Builtin.Int.intBits ((symbol'.2.2.2 - 1)) : Nat) : Int) - x2205))))) - 1)), V.int ((PySem.Builtin.bitAnd ((symbol'.2.2.1 / 2 ^ Int.toNat (((((PySem.Builtin.Int.intBits ((symbol'.2.2.2 - 1)) : Nat) : Int) - 1) - x2205)))) (1)))]) := h2219
          have fr2221 := S2200.free n2215
          obtain ⟨G2223, eG2224, hg2225, S2222⟩ := S2200.grow n2215 e2218 h2220 fr2221
          obtain ⟨g2226, hw⟩ := cW_grd hw
          have h2227 := (e2218 _ _ h2201)
          refine ⟨_, _, _, rfl, rfl, h2227, (app_len (RpAll.mono eG2224 d2202) g2226), ?_⟩
          generalize g2228 : upd H2217 p2176 _ = H2229
          obtain ⟨x2230, h2231⟩ := gen_mut g2228
          have h2232 : H2229 p2176 = some (.lst (vs2196 ++ [V.ref p2214])) := h2231
          have S2233 := S2222.mut1 x2230 (.head _) h2232
          have d2234 : RpAll G2223 (vs2196 ++ [V.ref p2214]) (((items_2195) ++ [(((symbol'.2.1 + ((1 * 2 ^ Int.toNat (x2205)) + (symbol'.2.2.1 / 2 ^ Int.toNat ((((PySem.Builtin.Int.intBits ((symbol'.2.2.2 - 1)) : Nat) : Int) - x2205))))) - 1), (PySem.Builtin.bitAnd ((symbol'.2.2.1 / 2 ^ Int.toNat (((((PySem.Builtin.Int.intBits ((symbol'.2.2.2 - 1)) : Nat) : Int) - 1) - x2205)))) (1)))] : (List (Int × Int))).map (encT2 PyData.int PyData.int)) := app_map (RpAll.mono eG2224 d2202) (RpAll.one (rp_mk2 hg2225 (.int _) (.int _)))
          have hw := cW_bnd hw
          have hw := cW_ok hw
          have hw := hK2208 _ hw
          exact ⟨((items_2195) ++ [(((symbol'.2.1 + ((1 * 2 ^ Int.toNat (x2205)) + (symbol'.2.2.1 / 2 ^ Int.toNat ((((PySem.Builtin.Int.intBits ((symbol'.2.2.2 - 1)) : Nat) : Int) - x2205))))) - 1), (PySem.Builtin.bitAnd ((symbol'.2.2.1 / 2 ^ Int.toNat (((((PySem.Builtin.Int.intBits ((symbol'.2.2.2 - 1)) : Nat) : Int) - 1) - x2205)))) (1)))]), _, _, _, _, rfl, (Same.trans eG2204 eG2224), S2233, h2232, d2234, hw⟩
        · intro σ H2236 hw
          obtain ⟨items_2195, vs2196, u2197, u2198, G2240, rfl, eG2241, S2237, h2238, d2239, hw⟩ := hw
          have hw := hK2194 _ (cW_forS0 (rng_len _ _).symm hw)
          have hw : cW (F__law_symbol_items_r1 (symbol') (symbol'.2.1) (symbol'.2.2.1) (items_2195)) _ EE := hw
          unfold F__law_symbol_items_r1 at hw
          refine ⟨_, rfl, ?_⟩
          have hw := cW_ok hw
          exact hK0 _ hw _ _ _ _ fr2183 S2237.b0 S2237.g0 S2237.sG S2237.gn (S2237.ow _ (.head _)).1 h2238 d2239
      · have hw := cW_neg c2174 hw
        refine ⟨_, rfl, _, _, _, _, rfl, rfl, (SqT.of (S0.bM _ _ h2142)), rfl, _, _, rfl, rfl, _, rfl, ?_⟩
        refine iteD (fun c2243 => ?_) (fun c2243 => ?_)
        · have hw := cW_pos c2243 hw
          refine ⟨_, rfl, _, rfl, _, rfl, _, _, _, _, rfl, rfl, (SqT.of (S0.bM _ _ h2142)), rfl, rfl, rfl, G, _, _, _, rfl, S0.sG, cW_call hw (fun v2244 hw p2247 vs2248 H2245 G2249 n2250 e2246 eG2251 sG2252 hn2253 gp2254 h2255 d2256 => ?_) (fun e he H2 e2 => hE e he H2 (Same.trans S0.b0 e2))⟩
          have fr2258 := S0.free n2250
          have S2257 := S0.stepnew e2246 eG2251 sG2252 hn2253 n2250 h2255 gp2254 fr2258
          have hw := cW_ok hw
          exact hK0 _ hw _ _ _ _ fr2258 S2257.b0 S2257.g0 S2257.sG S2257.gn (S2257.ow _ (.head _)).1 h2255 d2256
        · have hw := cW_neg c2243 hw
          refine ⟨_, rfl, _, _, _, _, rfl, rfl, (SqT.of (S0.bM _ _ h2142)), rfl, _, _, rfl, rfl, _, rfl, ?_⟩
          refine iteD (fun c2259 => ?_) (fun c2259 => ?_)
          · have hw := cW_pos c2259 hw
            refine ⟨_, rfl, _, rfl, (by show 2 ≤ sizeLine; decide), fun p2260 n2261 => ?_⟩
            generalize g2262 : upd H p2260 _ = H2263
            obtain ⟨e2264, h2265⟩ := gen_new n2261 g2262
            have h2266 : H2263 p2260 = some (.tup [V.int ((-1)), V.int (symbol'.2.2.1)]) := h2265
            have fr2267 := S0.free n2261
            obtain ⟨G2269, eG2270, hg2271, S2268⟩ := S0.grow n2261 e2264 h2266 fr2267
            refine ⟨(by show 1 ≤ sizeLine; decide), fun p2272 n2273 => ?_⟩
            generalize g2274 : upd H2263 p2272 _ = H2275
            obtain ⟨e2276, h2277⟩ := gen_new n2273 g2274
            have h2278 : H2275 p2272 = some (.lst ([V.ref p2260])) := h2277
            have fr2279 := S2268.free n2273
            have S2280 := S2268.new n2273 e2276 h2278 fr2279
            have d2281 : RpAll G2269 ([V.ref p2260]) (([((-1), symbol'.2.2.1)] : (List (Int × Int))).map (encT2 PyData.int PyData.int)) := (RpAll.cons (rp_mk2 hg2271 (.int _) (.int _)) RpAll.nil)
            have hw := cW_ok hw
            exact hK0 _ hw _ _ _ _ fr2279 S2280.b0 S2280.g0 S2280.sG S2280.gn (S2280.ow _ (.head _)).1 h2278 d2281
          · have hw := cW_neg c2259 hw
            refine ⟨_, rfl, _, rfl, _, rfl, rfl, rfl, G, _, _, rfl, S0.sG, cW_call hw (fun v2282 hw p2285 vs2286 H2283 G2287 n2288 e2284 eG2289 sG2290 hn2291 gp2292 h2293 d2294 => ?_) (fun e he H2 e2 => hE e he H2 (Same.trans S0.b0 e2))⟩
            have fr2296 := S0.free n2288
            have S2295 := S0.stepnew e2284 eG2289 sG2290 hn2291 n2288 h2293 gp2292 fr2296
            refine ⟨fun σ H' => ∃ (items_2298 : (List (Int × Int))) (vs2299 : List V) (G' : Hp), σ = [some (V.ref a2141), some (V.int (symbol'.2.1)), some (V.int (symbol'.2.2.1)), none, some (V.ref p2285), none, none] ∧ Same G2287 G' ∧ Sep [] H G G' H' [p2285] ∧ H' p2285 = some (.lst (vs2299)) ∧ RpAll G' (vs2299) ((items_2298 : (List (Int × Int))).map (encT2 PyData.int PyData.int)) ∧ cW (F__law_symbol_items_k2  items_2298) KK EE, ?_, ?_⟩
            · obtain ⟨K2300, hK2301, hw⟩ := cW_push hw
              refine ⟨_, rfl, _, _, _, _, rfl, rfl, (SqT.of (S2295.bM _ _ h2142)), rfl, _, _, rfl, rfl, _, rfl, ?_⟩
              refine iteD (fun c2302 => ?_) (fun c2302 => ?_)
              · have hw := cW_pos c2302 hw
                refine ⟨_, rfl, _, _, rfl, rfl, _, rfl, ?_⟩
                refine iteN (fun c2303 => ?_) (fun c2303 => ?_)
                · have hw := cW_neg c2303 hw
                  refine ⟨_, rfl, (.inl ⟨rfl, _, SqL.of h2293⟩), _, rfl, _, rfl, _, _, rfl, rfl, .inr ⟨_, rfl, ?_⟩⟩
                  refine ⟨(by show 2 ≤ sizeLine; decide), fun p2304 n2305 => ?_⟩
                  generalize g2306 : upd H2283 p2304 _ = H2307
                  obtain ⟨e2308, h2309⟩ := gen_new n2305 g2306
                  have h2310 : H2307 p2304 = some (.tup [V.int ((-1)), V.int ((if decide (symbol'.2.2.1 < 0) = true then 1 else 0))]) := h2309
                  have fr2311 := S2295.free n2305
                  obtain ⟨G2313, eG2314, hg2315, S2312⟩ := S2295.grow n2305 e2308 h2310 fr2311
                  obtain ⟨g2316, hw⟩ := cW_grd hw
                  have h2317 := (e2308 _ _ h2293)
                  refine ⟨_, _, _, rfl, rfl, h2317, (app_len (RpAll.mono eG2314 d2294) g2316), ?_⟩
                  generalize g2318 : upd H2307 p2285 _ = H2319
                  obtain ⟨x2320, h2321⟩ := gen_mut g2318
                  have h2322 : H2319 p2285 = some (.lst (vs2286 ++ [V.ref p2304])) := h2321
                  have S2323 := S2312.mut1 x2320 (.head _) h2322
                  have d2324 : RpAll G2313 (vs2286 ++ [V.ref p2304]) (((v2282) ++ [((-1), (if decide (symbol'.2.2.1 < 0) = true then 1 else 0))] : (List (Int × Int))).map (encT2 PyData.int PyData.int)) := app_map (RpAll.mono eG2314 d2294) (RpAll.one (rp_mk2 hg2315 (.int _) (.int _)))
                  have hw := cW_bnd hw
                  have hw := cW_ok hw
                  have hw := hK2301 _ hw
                  exact ⟨((v2282) ++ [((-1), (if decide (symbol'.2.2.1 < 0) = true then 1 else 0))]), _, _, rfl, eG2314, S2323, h2322, d2324, hw⟩
                · have hw := cW_pos c2303 hw
                  have hw := cW_ok hw
                  have hw := hK2301 _ hw
                  exact ⟨(v2282), _, _, rfl, (Same.refl _), S2295, h2293, d2294, hw⟩
              · have hw := cW_neg c2302 hw
                refine iteF ?_
                have hw := cW_ok hw
                have hw := hK2301 _ hw
                exact ⟨(v2282), _, _, rfl, (Same.refl _), S2295, h2293, d2294, hw⟩
            · intro σ H2326 hw
              obtain ⟨items_2298, vs2299, G2330, rfl, eG2331, S2327, h2328, d2329, hw⟩ := hw
              unfold F__law_symbol_items_k2 at hw
              refine ⟨_, rfl, ?_⟩
              have hw := cW_ok hw
              exact hK0 _ hw _ _ _ _ fr2296 S2327.b0 S2327.g0 S2327.sG S2327.gn (S2327.ow _ (.head _)).1 h2328 d2329

abbrev N_Encoder_octets : List Str := ["self", "octets", "shift"]
theorem sc_Encoder_octets : FnScope N_Encoder_octets ["self"] (defScope s_Encoder_octets) := ⟨rfl, rfl, rfl, by decide +kernel, rfl, by decide +kernel, by decide +kernel⟩
theorem ok_Encoder_octets (D : MethX K AD.c_Encoder "Encoder.octets" "octets" s_Encoder_octets ["self"] pats_Encoder_octets) (T : Txt K mg AD)  : MetX P w K mg base 1 AD.c_Encoder "octets" (sp_Encoder_octets K AD) pats_Encoder_octets := by
  refine D.ok T.cl_Encoder sc_Encoder_octets (fun vs H Q E h => ?_) (fun f cdv A_ outer s H vs Q E hr h => ?_)
  · obtain ⟨G, p_self, l_self_probs, l_self_front, dx_self, self', rfl, _⟩ := h
    rfl
  · obtain ⟨G, p_self, l_self_probs, l_self_front, dx_self, self', rfl, sG, h_p_self, h_l_self_probs, h_l_self_front, hw⟩ := h
    refine ⟨_, (pss_cons (ps_set (i := 1) sc_Encoder_octets.nd rfl (Or.inl rfl) (pe_op op_cat (fldK (K := K) (pv 0)) (pe_lc (own := [("shift", 2)]) (g := gName 2) (by rfl) sc_Encoder_octets.nd (pi_tupK (K := K) (pe_tup (pa_cons pe_int (pa_cons pe_int (pa_cons pe_int (pa_cons pe_int pa_nil)))))) (blkOk_by (own := [("shift", 2)]) (N := N_Encoder_octets) (sc := defScope s_Encoder_octets) (by decide +kernel)) (fun _ _ _ _ _ => (pg_name (i := 2) sc_Encoder_octets.nd rfl (Or.inl rfl))) (fun _ _ _ _ _ => pts_nil) (fun _ _ _ _ _ => (pe_op op_and (pe_op op_shr (fldK (K := K) (pv 0)) (pv 2)) pe_int)))))
      (pss_cons (ps_while (passes_of rfl) (PW.pt (pw_and (pt_truth (pv 1) (fun _ => rfl)) (pw_and1 (pt_cmp (pc_eqI (pe_ix (ix_listK (K := K)) (pv 1) (pe_un un_neg pe_int) (fun _ _ => rfl)) pe_int))))) (pss_one (ps_expr (pe_bm0 PySem.F.plainAttrs_list PySem.F.slot_list_pop PySem.F.type_list_pop mt_pop (pv 1)))))
      (pss_one (ps_ret (pv 1))))), ?_⟩
    obtain ⟨KK, EE, hK0, hE, hw⟩ := cW_gen hw
    have S0 := Sep.startG sG
    unfold F_Encoder_octets at hw
    refine ⟨_, rfl, _, _, _, _, _, rfl, (S0.bM _ _ h_p_self), T.cl_Encoder, T.n_Encoder__front, rfl, (by show 4 ≤ sizeLine; decide), fun p2332 n2333 => ?_⟩
    generalize g2334 : upd H p2332 _ = H2335
    obtain ⟨e2336, h2337⟩ := gen_new n2333 g2334
    have h2338 : H2335 p2332 = some (.tup [V.int (24), V.int (16), V.int (8), V.int (0)]) := h2337
    have fr2339 := S0.free n2333
    obtain ⟨G2341, eG2342, hg2343, S2340⟩ := S0.grow n2333 e2336 h2338 fr2339
    obtain ⟨K2346, hK2347, hw⟩ := cW_push hw
    refine ⟨_, rfl, ⟨_, (SqT.of (S2340.sG _ _ hg2343))⟩, fun D2348 n2349 => lc_tup (K := K) (a := p2332) (xs := (([24, 16, 8, 0] : List Int).map V.int)) (fun i H' => ∃ (G' : Hp) (acc2351 : (List Int)), Same G2341 G' ∧ Sep [] H G G' H' [D2348] ∧ H' D2348 = some (.lst ((acc2351 : (List Int)).map V.int)) ∧ Same H2335 H' ∧ cW (mapA (List.drop i ([24, 16, 8, 0])) acc2351 (fun x => noEr (F_Encoder_octets_c1 (self') x))) K2346 EE) ?_ ?_ ?_ ?_⟩
    · generalize g2353 : upd H2335 D2348 _ = H2354
      obtain ⟨e2355, h2356⟩ := gen_new n2349 g2353
      have fr2357 := S2340.free n2349
      have S2358 := S2340.new n2349 e2355 h2356 fr2357
      exact ⟨_, [], Same.refl _, S2358, h2356, e2355, hw⟩
    · intro i H2359 _ hw
      obtain ⟨G2362, acc2364, eG2363, S2360, h2361, eo2370, hw⟩ := hw
      exact (SqT.of (S2360.sG _ _ (eG2363 _ _ hg2343)))
    · intro i x H2371 hj hw
      obtain ⟨G2374, acc2376, eG2375, S2372, h2373, eo2382, hw⟩ := hw
      obtain ⟨x2383, hx, rfl⟩ := map_get hj
      obtain ⟨z2384, hw⟩ := cW_mapA hx hw
      have hw := cW_noEr hw
      have hw : cW (F_Encoder_octets_c1 (self') (x2383)) _ (fun _ => False) := hw
      unfold F_Encoder_octets_c1 at hw
      refine ⟨rfl, ?_⟩
      refine tyes_go ?_
      obtain ⟨g2386, hw⟩ := cW_grd hw
      refine ⟨_, rfl, _, _, _, _, _, rfl, (S2372.bM _ _ h_p_self), T.cl_Encoder, T.n_Encoder__low, rfl, _, rfl, _, _, rfl, rfl, g2386, _, _, rfl, rfl, _, h2373, (app_lenM z2384), ?_⟩
      generalize g2387 : upd H2371 D2348 _ = H2388
      obtain ⟨x2389, h2390⟩ := gen_mut g2387
      have S2391 := S2372.mut1 x2389 (.head _) h2390
      have hw := cW_ok hw
      exact ⟨_, (acc2376 ++ [(PySem.Builtin.bitAnd ((self'.low / 2 ^ Int.toNat (x2383))) (255))]), eG2375, S2391, (snoc_map h2390), (same_mut eo2382 x2389 n2349), hw⟩
    intro H2392 hw
    obtain ⟨G2395, acc2397, eG2396, S2393, h2394, eo2403, hw⟩ := hw
    have hw := hK2347 _ (cW_mapA0 (by rw [List.length_map]) hw)
    have fr2404 := S2340.free n2349
    obtain ⟨g2405, hw⟩ := cW_grd hw
    refine ⟨_, _, _, _, rfl, rfl, (S2393.bM _ _ h_l_self_front), h2394, (cat_lenM g2405), fun p2406 n2407 => ?_⟩
    generalize g2408 : upd H2392 p2406 _ = H2409
    obtain ⟨e2410, h2411⟩ := gen_new n2407 g2408
    have h2412 : H2409 p2406 = some (.lst (((self'.front) ++ (acc2397) : (List Int)).map V.int)) := cat_map h2411
    have fr2413 := S2393.free n2407
    have S2414 := S2393.new n2407 e2410 h2412 fr2413
    obtain ⟨K2415, hK2416, hw⟩ := cW_push hw
    refine ⟨fun m σ H' => ∃ (octets_2417 : (List Int)) (G' : Hp), σ = [some (V.ref p_self), some (V.ref p2406), none] ∧ Same G2395 G' ∧ Sep [] H G G' H' [p2406] ∧ H' p2406 = some (.lst ((octets_2417 : (List Int)).map V.int)) ∧ cW (whileR m octets_2417 (fun s => F_Encoder_octets_b2  s)) K2415 EE, ?_, ?_⟩
    · exact ⟨_, ⟨((self'.front) ++ (acc2397)), _, rfl, (Same.refl _), (S2414.sub (all_cons (.head _) all_nil)), h2412, hw⟩⟩
    · intro m σ H2418 hw
      obtain ⟨octets_2417, G2421, rfl, eG2422, S2419, h2420, hw⟩ := hw
      obtain ⟨m2423, rfl, hw2⟩ := cW_whileR hw
      have hw := hw2
      have hw : cW (F_Encoder_octets_b2  (octets_2417)) _ EE := hw
      unfold F_Encoder_octets_b2 at hw
      obtain ⟨K2425, hK2426, hw⟩ := cW_name hw
      refine ⟨_, rfl, _, (.inl ⟨_, (SqL.of h2420), tru_map⟩), ?_⟩
      refine iteN (fun c2427 => ?_) (fun c2427 => ?_)
      · have hw := cW_neg c2427 hw
        obtain ⟨g2428, hw⟩ := cW_grd hw
        refine ⟨_, rfl, _, rfl, _, _, _, _, rfl, rfl, (SqL.of h2420), (atI_map g2428), _, _, rfl, rfl, _, rfl, ?_⟩
        refine iteD (fun c2429 => ?_) (fun c2429 => ?_)
        · have hw := cW_pos c2429 hw
          refine ⟨(fun σ H' => ∃ m, (∃ (octets_2417 : (List Int)) (G' : Hp), σ = [some (V.ref p_self), some (V.ref p2406), none] ∧ Same G2395 G' ∧ Sep [] H G G' H' [p2406] ∧ H' p2406 = some (.lst ((octets_2417 : (List Int)).map V.int)) ∧ cW (whileR m octets_2417 (fun s => F_Encoder_octets_b2  s)) K2415 EE) ∧ m < m2423 + 1), (fun _ _ ⟨m', a, b⟩ => ⟨m', b, a⟩), ?_⟩
          obtain ⟨g2430, hw⟩ := cW_grd hw
          refine ⟨_, rfl, (.inl ⟨rfl, _, SqL.of h2420⟩), _, _, _, rfl, rfl, h2420, (pop_map g2430), ?_⟩
          generalize g2431 : upd H2418 p2406 _ = H2432
          obtain ⟨x2433, h2434⟩ := gen_mut g2431
          have h2435 : H2432 p2406 = some (.lst (((octets_2417).dropLast : (List Int)).map V.int)) := drop_map h2434
          have S2436 := S2419.mut1 x2433 (.head _) h2435
          have hw := cW_bnd hw
          have hw := cW_ok hw
          have hw := hK2426 _ hw
          exact ⟨m2423, ⟨((octets_2417).dropLast), _, rfl, eG2422, S2436, h2435, hw⟩, Nat.lt_succ_self _⟩
        · have hw := cW_neg c2429 hw
          have hw := cW_ok hw
          have hw := hK2426 _ hw
          have hw := cW_aftgo (hK2416 (.go _) hw)
          have hw : cW (F_Encoder_octets_r2  (octets_2417)) _ EE := hw
          unfold F_Encoder_octets_r2 at hw
          refine ⟨_, rfl, ?_⟩
          have hw := cW_ok hw
          exact hK0 _ hw _ _ fr2413 S2419.b0 h2420
      · have hw := cW_pos c2427 hw
        refine iteF ?_
        have hw := cW_ok hw
        have hw := hK2426 _ hw
        have hw := cW_aftgo (hK2416 (.go _) hw)
        have hw : cW (F_Encoder_octets_r2  (octets_2417)) _ EE := hw
        unfold F_Encoder_octets_r2 at hw
        refine ⟨_, rfl, ?_⟩
        have hw := cW_ok hw
        exact hK0 _ hw _ _ fr2413 S2419.b0 h2420

abbrev N_Encoder_probability : List Str := ["self", "context"]
theorem sc_Encoder_probability : FnScope N_Encoder_probability ["self", "context"] (defScope s_Encoder_probability) := ⟨rfl, rfl, rfl, by decide +kernel, rfl, by decide +kernel, by decide +kernel⟩
theorem ok_Encoder_probability (D : MethX K AD.c_Encoder "Encoder.probability" "probability" s_Encoder_probability ["self", "context"] pats_Encoder_probability) (T : Txt K mg AD) (c__check_context : CalX P w K mg base 1 "_check_context" (sp__check_context K AD) pats__check_context) : MetX P w K mg base 2 AD.c_Encoder "probability" (sp_Encoder_probability K AD) pats_Encoder_probability := by
  refine D.ok T.cl_Encoder sc_Encoder_probability (fun vs H Q E h => ?_) (fun f cdv A_ outer s H vs Q E hr h => ?_)
  · obtain ⟨G, p_self, l_self_probs, l_self_front, dx_self, self', context', rfl, _⟩ := h
    rfl
  · obtain ⟨G, p_self, l_self_probs, l_self_front, dx_self, self', context', rfl, sG, h_p_self, h_l_self_probs, h_l_self_front, hw⟩ := h
    refine ⟨_, (pss_cons (ps_expr (vx_callX c__check_context pat__check_context_0 (.head _) hr (by decide) (takes_of rfl rfl rfl rfl) rfl (pa_cons (pv 1) pa_nil) pk_nil))
      (pss_one (ps_ret (pe_ix (ix_listK (K := K)) (fldK (K := K) (pv 0)) (pv 1) (fun _ _ => rfl))))), ?_⟩
    obtain ⟨KK, EE, hK0, hE, hw⟩ := cW_gen hw
    have S0 := Sep.startG sG
    unfold F_Encoder_probability at hw
    refine ⟨_, rfl, rfl, rfl, G, _, rfl, S0.sG, cW_call hw (fun v2440 hw => ?_) (fun e he => hE e he _ S0.b0)⟩
    obtain ⟨g2441, hw⟩ := cW_grd hw
    refine ⟨_, rfl, _, _, _, _, _, rfl, (S0.bM _ _ h_p_self), T.cl_Encoder, T.n_Encoder__probabilities, rfl, _, rfl, _, _, _, _, rfl, rfl, (SqL.of (S0.bM _ _ h_l_self_probs)), (atI_map g2441), ?_⟩
    have hw := cW_ok hw
    exact hK0 _ hw _ S0.b0

abbrev N_law : List Str := ["script", "symbols", "encoder", "writer", "items", "symbol", "due", "context", "cell"]
theorem sc_law : FnScope N_law ["script"] (defScope s_law) := ⟨rfl, rfl, rfl, by decide +kernel, rfl, by decide +kernel, by decide +kernel⟩
theorem ok_law {f : Addr} {fd : FuncData} (F : FunD K "law" "law" (defArgs s_law) (defBody s_law) (defScope s_law) [] [] f fd) (T : Txt K mg AD) (c__law_named : CalX P w K mg base 1 "_law_named" (sp__law_named K AD) pats__law_named) (c__law_symbol : CalX P w K mg base 2 "_law_symbol" (sp__law_symbol K AD) pats__law_symbol) (c_Encoder___init__ : MakX P w K mg base 1 "Encoder" AD.c_Encoder (sp_Encoder___init__ K AD) pats_Encoder___init__) (c_SymbolWriter___init__ : MakX P w K mg base 1 "SymbolWriter" AD.c_SymbolWriter (sp_SymbolWriter___init__ K AD) pats_SymbolWriter___init__) (c__law_put : CalX P w K mg base 7 "_law_put" (sp__law_put K AD) pats__law_put) (c__law_symbol_items : CalX P w K mg base 3 "_law_symbol_items" (sp__law_symbol_items K AD) pats__law_symbol_items) (c__law_code : CalX P w K mg base 2 "_law_code" (sp__law_code K AD) pats__law_code) (c_Encoder_octets : MetX P w K mg base 1 AD.c_Encoder "octets" (sp_Encoder_octets K AD) pats_Encoder_octets) (c_Encoder_probability : MetX P w K mg base 2 AD.c_Encoder "probability" (sp_Encoder_probability K AD) pats_Encoder_probability) : FnG P w K mg base CX0 8 f fd ["script"] (sp_law K AD) := by
  refine FnG.bodyN F sc_law (fun vs H Q E h => ?_) (fun cdv A_ outer s H vs Q E hr h => ?_)
  · obtain ⟨a_script, script, rfl, _⟩ := h
    rfl
  · obtain ⟨a_script, script', rfl, q_script, hw, k⟩ := h
    refine ⟨_, (pss_cons (ps_if (pt_not (pt_val (vx_callX0 c__law_named pat__law_named_0 (.head _) hr (by decide) takes0 rfl))) (pss_one (ps_ret pe_bl)) pss_nil)
      (pss_cons (ps_setLc (i := 1) (y := "symbols") rfl sc_law.nd rfl rfl (sw_true rfl rfl rfl (by decide +kernel)) (own := [("cell", 8)]) (g := gName 8) (pi_listK (K := K) (pv 0)) (blkOk_by (own := [("cell", 8)]) (N := N_law) (sc := defScope s_law) (by decide +kernel)) (fun _ _ _ _ _ => (pg_name (i := 8) sc_law.nd rfl (Or.inl rfl))) (fun _ _ _ _ _ => pts_nil) (fun _ _ _ _ _ => (vx_callX c__law_symbol pat__law_symbol_0 (.head _) hr (by decide) takes0 rfl (pa_cons (pv 8) pa_nil) pk_nil)))
      (pss_cons (ps_set (i := 1) sc_law.nd rfl (Or.inl rfl) (pe_op op_cat (pv 1) (pe_lst (pa_cons (pe_tup (pa_cons pe_int (pa_cons (C8.pe_gc rfl T.g_SKIP) (pa_cons pe_int (pa_cons pe_int pa_nil))))) (pa_cons (pe_tup (pa_cons pe_int (pa_cons (C8.pe_gc rfl T.g_MODE) (pa_cons pe_int (pa_cons pe_int pa_nil))))) (pa_cons (pe_tup (pa_cons pe_int (pa_cons (C8.pe_gc rfl T.g_VECTOR_X) (pa_cons (pe_un un_neg pe_int) (pa_cons pe_int pa_nil))))) (pa_cons (pe_tup (pa_cons pe_int (pa_cons (C8.pe_gc rfl T.g_INDEX) (pa_cons pe_int (pa_cons pe_int pa_nil))))) (pa_cons (pe_tup (pa_cons pe_int (pa_cons (C8.pe_gc rfl T.g_VECTOR_Y) (pa_cons pe_int (pa_cons pe_int pa_nil))))) pa_nil))))))))
      (pss_cons (ps_set (i := 1) sc_law.nd rfl (Or.inl rfl) (pe_slice (sl_listK (K := K)) (pv 1) po_none (po_some pe_int)))
      (pss_cons (ps_set (i := 2) sc_law.nd rfl (Or.inl rfl) (vx_makeX0 c_Encoder___init__ pat_Encoder___init___0 (.head _) hr (by decide) takes0 rfl))
      (pss_cons (ps_set (i := 3) sc_law.nd rfl (Or.inl rfl) (vx_makeX c_SymbolWriter___init__ pat_SymbolWriter___init___0 (.head _) hr (by decide) takes0 rfl (pa_cons (pv 2) pa_nil) pk_nil))
      (pss_cons (ps_set (i := 4) sc_law.nd rfl (Or.inl rfl) (pe_lst pa_nil))
      (pss_cons (ps_for PassesOwn.never rfl (pi_listK (K := K) (pv 1)) (pg_name (i := 5) sc_law.nd rfl (Or.inl rfl)) (pss_cons (ps_expr (vx_callX c__law_put pat__law_put_0 (.head _) hr (by decide) takes0 rfl (pa_cons (pv 3) (pa_cons (pv 5) pa_nil)) pk_nil))
      (pss_one (ps_set (i := 4) sc_law.nd rfl (Or.inl rfl) (pe_op op_cat (pv 4) (vx_callX c__law_symbol_items pat__law_symbol_items_0 (.head _) hr (by decide) takes0 rfl (pa_cons (pv 5) pa_nil) pk_nil))))))
      (pss_cons (ps_set (i := 6) sc_law.nd rfl (Or.inl rfl) (vx_callX c__law_code pat__law_code_0 (.head _) hr (by decide) takes0 rfl (pa_cons (pv 4) pa_nil) pk_nil))
      (pss_cons (ps_if (pt_cmpR (op_neT (encOk_L encOk_int) hr.units) (vx_methX0 c_Encoder_octets pat_Encoder_octets_0 (.head _) hr (by decide) takes0 (pv 2)) (pe_ix (ix_tupK (K := K)) (pv 6) pe_int (fun _ _ => rfl)) (nomark _)) (pss_one (ps_ret pe_bl)) pss_nil)
      (pss_cons (ps_for PassesOwn.never rfl (pi_range1 rfl T.b_range (pa_cons pe_int pa_nil)) (pg_name (i := 7) sc_law.nd rfl (Or.inl rfl)) (pss_one (ps_if (pt_cmp (pc_neI (vx_methX c_Encoder_probability pat_Encoder_probability_0 (.head _) hr (by decide) takes0 (pv 2) (pa_cons (pv 7) pa_nil) pk_nil) (pe_ix (ix_listK (K := K)) (pe_ix (ix_tupK (K := K)) (pv 6) pe_int (fun _ _ => rfl)) (pv 7) (fun _ _ => rfl)))) (pss_one (ps_ret pe_bl)) pss_nil)))
      (pss_one (ps_ret pe_bl))))))))))))), ?_⟩
    obtain ⟨KK, EE, hK0, hE, hw⟩ := cW_gen hw
    have S0 := Sep.start0 H
    unfold F_law at hw
    refine ⟨rfl, rfl, H, rfl, S0.sG, cW_call hw (fun v2442 hw H2443 e2444 => ?_) (fun e he => (hE e he).elim)⟩
    have S2445 := S0.same e2444
    refine ⟨_, rfl, ?_⟩
    refine iteBN (fun c2446 => ?_) (fun c2446 => ?_)
    · have hw := cW_negB c2446 hw
      have hw := cW_ok hw
      exact eq_bl (k _) (hK0 _ hw).symm
    · have hw := cW_pos c2446 hw
      obtain ⟨K2448, hK2449, hw⟩ := cW_push hw
      refine ⟨_, rfl, _, rfl, ⟨_, (S2445.b0.seq q_script)⟩, fun D2450 n2451 => lc_list (K := K) (a := a_script) (xs := (script' : List Int).map V.int) (fun i H' => ∃ (G' : Hp) (acc2453 : (List (Int × Int × Int × Int))) (vs2454 : List V), Same H G' ∧ Sep [] H H G' H' [D2450] ∧ H' D2450 = some (.lst vs2454) ∧ RpAll G' vs2454 ((acc2453 : (List (Int × Int × Int × Int))).map (encT4 PyData.int PyData.int PyData.int PyData.int)) ∧ Same H2443 H' ∧ cW (mapA (List.drop i (script')) acc2453 (fun x => noEr (F_law_c1  x))) K2448 EE) ?_ ?_ ?_ ?_⟩
      · generalize g2455 : upd H2443 D2450 _ = H2456
        obtain ⟨e2457, h2458⟩ := gen_new n2451 g2455
        have fr2459 := S2445.free n2451
        have S2460 := S2445.new n2451 e2457 h2458 fr2459
        exact ⟨_, [], [], Same.refl _, S2460, h2458, RpAll.nil, e2457, hw⟩
      · intro i H2461 _ hw
        obtain ⟨G2464, acc2466, vs2467, eG2465, S2462, h2463, d2468, eo2472, hw⟩ := hw
        exact (S2462.b0.seq q_script)
      · intro i x H2473 hj hw
        obtain ⟨G2476, acc2478, vs2479, eG2477, S2474, h2475, d2480, eo2484, hw⟩ := hw
        obtain ⟨x2485, hx, rfl⟩ := map_get hj
        obtain ⟨z2486, hw⟩ := cW_mapA hx hw
        have hw := cW_noEr hw
        have hw : cW (F_law_c1  (x2485)) _ (fun _ => False) := hw
        unfold F_law_c1 at hw
        refine ⟨rfl, ?_⟩
        refine tyes_go ?_
        refine ⟨_, rfl, rfl, rfl, G2476, _, rfl, S2474.sG, cW_call hw (fun v2488 hw v2491 H2489 G2492 e2490 eG2493 sG2494 hn2495 r2496 => ?_) (fun e he => he.elim)⟩
        have S2497 := S2474.step e2490 eG2493 sG2494 hn2495
        obtain ⟨a2498, v2500, v2501, v2502, v2503, rfl, h2499, r2504, r2505, r2506, r2507⟩ := rp_tup4 r2496
        obtain rfl := rp_int r2504
        obtain rfl := rp_int r2505
        obtain rfl := rp_int r2506
        obtain rfl := rp_int r2507
        have h2508 := (e2490 _ _ h2475)
        refine ⟨_, h2508, (app_len (RpAll.mono eG2493 d2480) z2486), ?_⟩
        generalize g2509 : upd H2489 D2450 _ = H2510
        obtain ⟨x2511, h2512⟩ := gen_mut g2509
        have S2513 := S2497.mut1 x2511 (.head _) h2512
        have hw := cW_ok hw
        exact ⟨_, (acc2478 ++ [v2488]), _, (Same.trans eG2477 eG2493), S2513, h2512, (app_map (RpAll.mono eG2493 d2480) (RpAll.one (rp_mk4 h2499 (.int _) (.int _) (.int _) (.int _)))), (same_mut (Same.trans eo2484 e2490) x2511 n2451), hw⟩
      intro H2514 hw
      obtain ⟨G2517, acc2519, vs2520, eG2518, S2515, h2516, d2521, eo2525, hw⟩ := hw
      have hw := hK2449 _ (cW_mapA0 (by rw [List.length_map]) hw)
      have fr2526 := S2445.free n2451
      refine ⟨_, rfl, (by show 4 ≤ sizeLine; decide), fun p2527 n2528 => ?_⟩
      generalize g2529 : upd H2514 p2527 _ = H2530
      obtain ⟨e2531, h2532⟩ := gen_new n2528 g2529
      have h2533 : H2530 p2527 = some (.tup [V.int (0), V.int (0), V.int (1), V.int (0)]) := h2532
      have fr2534 := S2515.free n2528
      obtain ⟨G2536, eG2537, hg2538, S2535⟩ := S2515.grow n2528 e2531 h2533 fr2534
      refine ⟨(by show 4 ≤ sizeLine; decide), fun p2539 n2540 => ?_⟩
      generalize g2541 : upd H2530 p2539 _ = H2542
      obtain ⟨e2543, h2544⟩ := gen_new n2540 g2541
      have h2545 : H2542 p2539 = some (.tup [V.int (1), V.int (8), V.int (5), V.int (8)]) := h2544
      have fr2546 := S2535.free n2540
      obtain ⟨G2548, eG2549, hg2550, S2547⟩ := S2535.grow n2540 e2543 h2545 fr2546
      refine ⟨_, rfl, (by show 4 ≤ sizeLine; decide), fun p2551 n2552 => ?_⟩
      generalize g2553 : upd H2542 p2551 _ = H2554
      obtain ⟨e2555, h2556⟩ := gen_new n2552 g2553
      have h2557 : H2554 p2551 = some (.tup [V.int (4), V.int (25), V.int ((-3)), V.int (0)]) := h2556
      have fr2558 := S2547.free n2552
      obtain ⟨G2560, eG2561, hg2562, S2559⟩ := S2547.grow n2552 e2555 h2557 fr2558
      refine ⟨(by show 4 ≤ sizeLine; decide), fun p2563 n2564 => ?_⟩
      generalize g2565 : upd H2554 p2563 _ = H2566
      obtain ⟨e2567, h2568⟩ := gen_new n2564 g2565
      have h2569 : H2566 p2563 = some (.tup [V.int (1), V.int (24), V.int (1), V.int (2)]) := h2568
      have fr2570 := S2559.free n2564
      obtain ⟨G2572, eG2573, hg2574, S2571⟩ := S2559.grow n2564 e2567 h2569 fr2570
      refine ⟨(by show 4 ≤ sizeLine; decide), fun p2575 n2576 => ?_⟩
      generalize g2577 : upd H2566 p2575 _ = H2578
      obtain ⟨e2579, h2580⟩ := gen_new n2576 g2577
      have h2581 : H2578 p2575 = some (.tup [V.int (3), V.int (41), V.int (70), V.int (0)]) := h2580
      have fr2582 := S2571.free n2576
      obtain ⟨G2584, eG2585, hg2586, S2583⟩ := S2571.grow n2576 e2579 h2581 fr2582
      refine ⟨(by show 5 ≤ sizeLine; decide), fun p2587 n2588 => ?_⟩
      generalize g2589 : upd H2578 p2587 _ = H2590
      obtain ⟨e2591, h2592⟩ := gen_new n2588 g2589
      have h2593 : H2590 p2587 = some (.lst ([V.ref p2527, V.ref p2539, V.ref p2551, V.ref p2563, V.ref p2575])) := h2592
      have fr2594 := S2583.free n2588
      have S2595 := S2583.new n2588 e2591 h2593 fr2594
      have d2596 : RpAll G2584 ([V.ref p2527, V.ref p2539, V.ref p2551, V.ref p2563, V.ref p2575]) (([(0, 0, 1, 0), (1, 8, 5, 8), (4, 25, (-3), 0), (1, 24, 1, 2), (3, 41, 70, 0)] : (List (Int × Int × Int × Int))).map (encT4 PyData.int PyData.int PyData.int PyData.int)) := (RpAll.cons (rp_mk4 (eG2585 _ _ (eG2573 _ _ (eG2561 _ _ (eG2549 _ _ hg2538)))) (.int _) (.int _) (.int _) (.int _)) (RpAll.cons (rp_mk4 (eG2585 _ _ (eG2573 _ _ (eG2561 _ _ hg2550))) (.int _) (.int _) (.int _) (.int _)) (RpAll.cons (rp_mk4 (eG2585 _ _ (eG2573 _ _ hg2562)) (.int _) (.int _) (.int _) (.int _)) (RpAll.cons (rp_mk4 (eG2585 _ _ hg2574) (.int _) (.int _) (.int _) (.int _)) (RpAll.cons (rp_mk4 hg2586 (.int _) (.int _) (.int _) (.int _)) RpAll.nil)))))
      obtain ⟨g2597, hw⟩ := cW_grd hw
      have h2598 := (e2591 _ _ (e2579 _ _ (e2567 _ _ (e2555 _ _ (e2543 _ _ (e2531 _ _ h2516))))))
      obtain ⟨G2599, eG2600, hg2601, S2602⟩ := Sep.freeze (O' := [p2587]) S2595 (.tail _ (.head _)) h2598 fr2526 ((all_cons ⟨(.head _), (ne_of_none (e2579 _ _ (e2567 _ _ (e2555 _ _ (e2543 _ _ (e2531 _ _ h2516))))) n2588).symm⟩ all_nil))
      obtain ⟨G2603, eG2604, hg2605, S2606⟩ := Sep.freeze (O' := []) S2602 (.head _) h2593 fr2594 (all_nil)
      refine ⟨_, _, _, _, rfl, rfl, h2598, h2593, (cat_len (RpAll.mono eG2585 (RpAll.mono eG2573 (RpAll.mono eG2561 (RpAll.mono eG2549 (RpAll.mono eG2537 d2521))))) d2596 g2597), fun p2607 n2608 => ?_⟩
      generalize g2609 : upd H2590 p2607 _ = H2610
      obtain ⟨e2611, h2612⟩ := gen_new n2608 g2609
      have h2613 : H2610 p2607 = some (.lst (vs2520 ++ [V.ref p2527, V.ref p2539, V.ref p2551, V.ref p2563, V.ref p2575])) := h2612
      have fr2614 := S2606.free n2608
      have S2615 := S2606.new n2608 e2611 h2613 fr2614
      have d2616 : RpAll G2603 (vs2520 ++ [V.ref p2527, V.ref p2539, V.ref p2551, V.ref p2563, V.ref p2575]) (((acc2519) ++ ([(0, 0, 1, 0), (1, 8, 5, 8), (4, 25, (-3), 0), (1, 24, 1, 2), (3, 41, 70, 0)]) : (List (Int × Int × Int × Int))).map (encT4 PyData.int PyData.int PyData.int PyData.int)) := app_map (RpAll.mono eG2604 (RpAll.mono eG2600 (RpAll.mono eG2585 (RpAll.mono eG2573 (RpAll.mono eG2561 (RpAll.mono eG2549 (RpAll.mono eG2537 d2521))))))) (RpAll.mono eG2604 (RpAll.mono eG2600 d2596))
      obtain ⟨G2617, eG2618, hg2619, S2620⟩ := Sep.freeze (O' := []) S2615 (.head _) h2613 fr2614 (all_nil)
      refine ⟨_, rfl, _, rfl, _, _, rfl, (SqL.of h2613), fun p2621 n2622 => ?_⟩
      generalize g2623 : upd H2610 p2621 _ = H2624
      obtain ⟨e2625, h2626⟩ := gen_new n2622 g2623
      have h2627 : H2624 p2621 = some (.lst (cutV (vs2520 ++ [V.ref p2527, V.ref p2539, V.ref p2551, V.ref p2563, V.ref p2575]) none (some (40)))) := h2626
      have fr2628 := S2620.free n2622
      have S2629 := S2620.new n2622 e2625 h2627 fr2628
      have d2630 : RpAll G2617 (cutV (vs2520 ++ [V.ref p2527, V.ref p2539, V.ref p2551, V.ref p2563, V.ref p2575]) none (some (40))) ((cutL ((acc2519) ++ ([(0, 0, 1, 0), (1, 8, 5, 8), (4, 25, (-3), 0), (1, 24, 1, 2), (3, 41, 70, 0)])) none (some (40)) : (List (Int × Int × Int × Int))).map (encT4 PyData.int PyData.int PyData.int PyData.int)) := cut_all none (some (40)) (RpAll.mono eG2618 d2616)
      refine ⟨rfl, rfl, fun x2631 dx2632 n2633 n2634 n2635 => ?_⟩
      generalize g2636 : upd (upd H2624 dx2632 _) x2631 _ = H2637
      obtain ⟨e2638, h2639⟩ := gen_obj n2633 n2634 n2635 g2636
      have fr2640 := S2629.free n2633
      have S2641 := S2629.new n2633 e2638 h2639 fr2640
      refine ⟨G2617, _, _, rfl, S2641.sG, (S2641.gno (all_cons (.head _) all_nil)), h2639, cW_call hw (fun v2642 hw H2645 l2643 l2644 x2646 n2651 n2652 ne2653 h2647 h2649 h2650 => ⟨rfl, ?_⟩) (fun e he => (hE e he).elim)⟩
      have fr2654 := S2641.free n2651
      have fr2655 := S2641.free n2652
      have S2648 : Sep _ _ _ _ H2645 [l2643, l2644, x2631, p2621] := Sep.init S2641 x2646 (.head _) h2647 [l2643, l2644] (all_cons ⟨n2651, some_ne h2649, fr2654⟩ (all_cons ⟨n2652, some_ne h2650, fr2655⟩ all_nil))
      refine ⟨_, rfl, rfl, rfl, fun x2656 dx2657 n2658 n2659 n2660 => ?_⟩
      generalize g2661 : upd (upd H2645 dx2657 _) x2656 _ = H2662
      obtain ⟨e2663, h2664⟩ := gen_obj n2658 n2659 n2660 g2661
      have fr2665 := S2648.free n2658
      have S2666 := S2648.new n2658 e2663 h2664 fr2665
      have h2667 := (e2663 _ _ h2647)
      have h2668 := (e2663 _ _ h2649)
      have h2669 := (e2663 _ _ h2650)
      refine ⟨G2617, _, _, _, _, _, _, v2642, rfl, S2666.sG, (S2666.gno (all_cons (.head _) all_nil)), h2664, ((hideL_out (ni1 (ne_of_none h2647 n2658))).trans h2667), ((hideL_out (ni1 (ne_of_none h2649 n2658))).trans h2668), ((hideL_out (ni1 (ne_of_none h2650 n2658))).trans h2669), cW_call hw (fun v2670 hw H2671 x2672 h2673 => ⟨rfl, ?_⟩) (fun e he => (hE e he).elim)⟩
      have S2674 : Sep _ _ _ _ H2671 [x2656, l2643, l2644, x2631, p2621] := Sep.init S2666 x2672 (.head _) h2673 [] all_nil
      refine ⟨(by show 0 ≤ sizeLine; decide), fun p2675 n2676 => ?_⟩
      generalize g2677 : upd H2671 p2675 _ = H2678
      obtain ⟨e2679, h2680⟩ := gen_new n2676 g2677
      have h2681 : H2678 p2675 = some (.lst ([])) := h2680
      have fr2682 := S2674.free n2676
      have S2683 := S2674.new n2676 e2679 h2681 fr2682
      have d2684 : RpAll G2617 ([]) ((([] : (List (Int × Int))) : (List (Int × Int))).map (encT2 PyData.int PyData.int)) := RpAll.nil
      have h2685 := (e2679 _ _ ((SameXs.of x2672) _ _ (e2663 _ _ ((SameXs.of x2646) _ _ (e2638 _ _ h2627) (ni1 (ne_of_none h2627 n2633)))) (ni1 (ne_of_none ((SameXs.of x2646) _ _ (e2638 _ _ h2627) (ni1 (ne_of_none h2627 n2633))) n2658))))
      obtain ⟨K2686, hK2687, hw⟩ := cW_push hw
      refine ⟨_, rfl, _, rfl, ⟨_, (SqL.of h2685)⟩, for_list (K := K) (a := p2621) (xs := cutV (vs2520 ++ [V.ref p2527, V.ref p2539, V.ref p2551, V.ref p2563, V.ref p2575]) none (some (40))) (fun i σ H' => ∃ (writer_2688 : St_SymbolWriter) (items_2689 : (List (Int × Int))) (u2690 : V) (u2691 : Option V) (G' : Hp), σ = [some (V.ref a_script), some (V.ref p2621), some (V.ref x2631), some (V.ref x2656), some u2690, u2691, none, none, none] ∧ Same G2617 G' ∧ Sep [] H H G' H' [p2621, x2631, l2643, l2644, x2656] ∧ H' p2621 = some (.lst (cutV (vs2520 ++ [V.ref p2527, V.ref p2539, V.ref p2551, V.ref p2563, V.ref p2575]) none (some (40)))) ∧ H' x2631 = some (.ins AD.c_Encoder dx2632 [("_probabilities", V.ref l2643), ("_front", V.ref l2644), ("_low", V.int (writer_2688.enc.low)), ("_span", V.int (writer_2688.enc.span))]) ∧ H' l2643 = some (.lst ((writer_2688.enc.probs : (List Int)).map V.int)) ∧ H' l2644 = some (.lst ((writer_2688.enc.front : (List Int)).map V.int)) ∧ H' x2656 = some (.ins AD.c_SymbolWriter dx2657 [("_encoder", V.ref x2631)]) ∧ Rp G' u2690 ((encL (encT2 PyData.int PyData.int)) items_2689) ∧ cW (forS (List.drop i (cutL ((acc2519) ++ ([(0, 0, 1, 0), (1, 8, 5, 8), (4, 25, (-3), 0), (1, 24, 1, 2), (3, 41, 70, 0)])) none (some (40)))) (writer_2688, items_2689) (fun s x => F_law_b2  (s.1) (s.2) x)) K2686 EE) ?_ ?_ ?_ ?_⟩
      · obtain ⟨G2692, eG2693, hg2694, S2695⟩ := Sep.freeze (O' := [x2656, l2643, l2644, x2631, p2621]) S2683 (.head _) h2681 fr2682 ((all_cons ⟨(.tail _ (.head _)), (ne_of_none h2673 n2676)⟩ (all_cons ⟨(.tail _ (.tail _ (.head _))), (ne_of_none ((SameXs.of x2672) _ _ h2668 (ni1 (ne_of_none h2649 n2658))) n2676)⟩ (all_cons ⟨(.tail _ (.tail _ (.tail _ (.head _)))), (ne_of_none ((SameXs.of x2672) _ _ h2669 (ni1 (ne_of_none h2650 n2658))) n2676)⟩ (all_cons ⟨(.tail _ (.tail _ (.tail _ (.tail _ (.head _))))), (ne_of_none ((SameXs.of x2672) _ _ h2667 (ni1 (ne_of_none h2647 n2658))) n2676)⟩ (all_cons ⟨(.tail _ (.tail _ (.tail _ (.tail _ (.tail _ (.head _)))))), (ne_of_none ((SameXs.of x2672) _ _ (e2663 _ _ ((SameXs.of x2646) _ _ (e2638 _ _ h2627) (ni1 (ne_of_none h2627 n2633)))) (ni1 (ne_of_none ((SameXs.of x2646) _ _ (e2638 _ _ h2627) (ni1 (ne_of_none h2627 n2633))) n2658))) n2676)⟩ all_nil))))))
        have h2696 := (e2679 _ _ ((SameXs.of x2672) _ _ h2667 (ni1 (ne_of_none h2647 n2658))))
        have h2697 := (e2679 _ _ ((SameXs.of x2672) _ _ h2668 (ni1 (ne_of_none h2649 n2658))))
        have h2698 := (e2679 _ _ ((SameXs.of x2672) _ _ h2669 (ni1 (ne_of_none h2650 n2658))))
        have h2699 := (e2679 _ _ h2673)
        exact ⟨((⟨v2642⟩ : St_SymbolWriter)), (([] : (List (Int × Int)))), _, _, _, rfl, eG2693, (S2695.sub (all_cons (.tail _ (.tail _ (.tail _ (.tail _ (.head _))))) (all_cons (.tail _ (.tail _ (.tail _ (.head _)))) (all_cons (.tail _ (.head _)) (all_cons (.tail _ (.tail _ (.head _))) (all_cons (.head _) all_nil)))))), h2685, h2696, h2697, h2698, h2699, (rp_mk_list hg2694 (RpAll.mono eG2693 d2684)), hw⟩
      · intro i σ H2700 _ hw
        obtain ⟨writer_2688, items_2689, u2690, u2691, G2708, rfl, eG2709, S2701, h2702, h2703, h2704, h2705, h2706, r2707, hw⟩ := hw
        obtain ⟨a2710, vs2711, rfl, h2712, d2713⟩ := rp_list r2707
        exact (SqL.of h2702)
      · intro i x σ H2714 hj hw
        obtain ⟨writer_2688, items_2689, u2690, u2691, G2722, rfl, eG2723, S2715, h2716, h2717, h2718, h2719, h2720, r2721, hw⟩ := hw
        obtain ⟨a2724, vs2725, rfl, h2726, d2727⟩ := rp_list r2721
        obtain ⟨x2728, hx, r2729⟩ := RpAll.get (RpAll.mono eG2723 d2630) hj
        obtain ⟨a2730, v2732, v2733, v2734, v2735, rfl, h2731, r2736, r2737, r2738, r2739⟩ := rp_tup4 r2729
        obtain rfl := rp_int r2736
        obtain rfl := rp_int r2737
        obtain rfl := rp_int r2738
        obtain rfl := rp_int r2739
        have hw := cW_forS hx hw
        have hw : cW (F_law_b2  (writer_2688) (items_2689) (x2728)) _ EE := hw
        unfold F_law_b2 at hw
        obtain ⟨K2742, hK2743, hw⟩ := cW_name hw
        refine ⟨_, rfl, _, rfl, rfl, rfl, G2722, _, _, _, _, _, _, writer_2688, _, _, rfl, S2715.sG, (S2715.gno (all_cons (.tail _ (.tail _ (.tail _ (.tail _ (.head _))))) (all_cons (.tail _ (.head _)) (all_cons (.tail _ (.tail _ (.head _))) (all_cons (.tail _ (.tail _ (.tail _ (.head _)))) all_nil))))), h2720, h2717, h2718, h2719, ne2653, (ne_of_none h2647 n2658).symm, (Rp.mono (S2715.hid (all_cons (.tail _ (.tail _ (.tail _ (.tail _ (.head _))))) (all_cons (.tail _ (.head _)) (all_cons (.tail _ (.tail _ (.head _))) (all_cons (.tail _ (.tail _ (.tail _ (.head _)))) all_nil))))) (rp_mk4 h2731 (.int _) (.int _) (.int _) (.int _))), cW_call hw (fun v2745 hw H2746 x2747 h2749 h2750 h2751 h2752  => ?_) (fun e he => (hE e he).elim)⟩
        have S2748 := S2715.mut x2747 (all_cons (.tail _ (.tail _ (.tail _ (.tail _ (.head _))))) (all_cons (.tail _ (.head _)) (all_cons (.tail _ (.tail _ (.head _))) (all_cons (.tail _ (.tail _ (.tail _ (.head _)))) all_nil)))) (all_cons (some_ne h2749) (all_cons (some_ne h2750) (all_cons (some_ne h2751) (all_cons (some_ne h2752) all_nil))))
        refine ⟨_, rfl, _, rfl, rfl, rfl, G2722, _, _, rfl, S2748.sG, (Rp.hide_nil (rp_mk4 (S2748.sG _ _ h2731) (.int _) (.int _) (.int _) (.int _))), cW_call hw (fun v2757 hw p2760 vs2761 H2758 G2762 n2763 e2759 eG2764 sG2765 hn2766 gp2767 h2768 d2769 => ?_) (fun e he => (hE e he).elim)⟩
        have fr2771 := S2748.free n2763
        have S2770 := S2748.stepnew e2759 eG2764 sG2765 hn2766 n2763 h2768 gp2767 fr2771
        obtain ⟨g2772, hw⟩ := cW_grd hw
        obtain ⟨G2773, eG2774, hg2775, S2776⟩ := Sep.freeze (O' := [p2621, x2631, l2643, l2644, x2656]) S2770 (.head _) h2768 fr2771 ((all_cons ⟨(.tail _ (.head _)), (ne_of_none (x2747 _ _ h2716 (ni4 (ne_of_none ((SameXs.of x2646) _ _ (e2638 _ _ h2627) (ni1 (ne_of_none h2627 n2633))) n2658) (ne_of_none h2627 n2633) (ne_of_none (e2638 _ _ h2627) n2651) (ne_of_none (e2638 _ _ h2627) n2652))) n2763)⟩ (all_cons ⟨(.tail _ (.tail _ (.head _))), (ne_of_none h2750 n2763)⟩ (all_cons ⟨(.tail _ (.tail _ (.tail _ (.head _)))), (ne_of_none h2751 n2763)⟩ (all_cons ⟨(.tail _ (.tail _ (.tail _ (.tail _ (.head _))))), (ne_of_none h2752 n2763)⟩ (all_cons ⟨(.tail _ (.tail _ (.tail _ (.tail _ (.tail _ (.head _)))))), (ne_of_none h2749 n2763)⟩ all_nil))))))
        refine ⟨_, _, _, _, rfl, rfl, (S2770.sG _ _ (eG2764 _ _ h2726)), h2768, (cat_len (RpAll.mono eG2764 d2727) d2769 g2772), fun p2777 n2778 => ?_⟩
        generalize g2779 : upd H2758 p2777 _ = H2780
        obtain ⟨e2781, h2782⟩ := gen_new n2778 g2779
        have h2783 : H2780 p2777 = some (.lst (vs2725 ++ vs2761)) := h2782
        have fr2784 := S2776.free n2778
        have S2785 := S2776.new n2778 e2781 h2783 fr2784
        have d2786 : RpAll G2773 (vs2725 ++ vs2761) (((items_2689) ++ (v2757) : (List (Int × Int))).map (encT2 PyData.int PyData.int)) := app_map (RpAll.mono eG2774 (RpAll.mono eG2764 d2727)) (RpAll.mono eG2774 d2769)
        have hw := cW_ok hw
        have hw := hK2743 _ hw
        obtain ⟨G2787, eG2788, hg2789, S2790⟩ := Sep.freeze (O' := [p2621, x2631, l2643, l2644, x2656]) S2785 (.head _) h2783 fr2784 ((all_cons ⟨(.tail _ (.head _)), (ne_of_none (e2759 _ _ (x2747 _ _ h2716 (ni4 (ne_of_none ((SameXs.of x2646) _ _ (e2638 _ _ h2627) (ni1 (ne_of_none h2627 n2633))) n2658) (ne_of_none h2627 n2633) (ne_of_none (e2638 _ _ h2627) n2651) (ne_of_none (e2638 _ _ h2627) n2652)))) n2778)⟩ (all_cons ⟨(.tail _ (.tail _ (.head _))), (ne_of_none (e2759 _ _ h2750) n2778)⟩ (all_cons ⟨(.tail _ (.tail _ (.tail _ (.head _)))), (ne_of_none (e2759 _ _ h2751) n2778)⟩ (all_cons ⟨(.tail _ (.tail _ (.tail _ (.tail _ (.head _))))), (ne_of_none (e2759 _ _ h2752) n2778)⟩ (all_cons ⟨(.tail _ (.tail _ (.tail _ (.tail _ (.tail _ (.head _)))))), (ne_of_none (e2759 _ _ h2749) n2778)⟩ all_nil))))))
        have h2791 := (e2781 _ _ (e2759 _ _ (x2747 _ _ h2716 (ni4 (ne_of_none ((SameXs.of x2646) _ _ (e2638 _ _ h2627) (ni1 (ne_of_none h2627 n2633))) n2658) (ne_of_none h2627 n2633) (ne_of_none (e2638 _ _ h2627) n2651) (ne_of_none (e2638 _ _ h2627) n2652)))))
        have h2792 := (e2781 _ _ (e2759 _ _ h2750))
        have h2793 := (e2781 _ _ (e2759 _ _ h2751))
        have h2794 := (e2781 _ _ (e2759 _ _ h2752))
        have h2795 := (e2781 _ _ (e2759 _ _ h2749))
        exact ⟨(v2745), ((items_2689) ++ (v2757)), _, _, _, rfl, (Same.trans (Same.trans (Same.trans eG2723 eG2764) eG2774) eG2788), S2790, h2791, h2792, h2793, h2794, h2795, (rp_mk_list hg2789 (RpAll.mono eG2788 d2786)), hw⟩
      · intro σ H2796 hw
        obtain ⟨writer_2688, items_2689, u2690, u2691, G2804, rfl, eG2805, S2797, h2798, h2799, h2800, h2801, h2802, r2803, hw⟩ := hw
        obtain ⟨a2806, vs2807, rfl, h2808, d2809⟩ := rp_list r2803
        have hw := hK2687 _ (cW_forS0 (by rw [(RpAll.mono eG2805 d2630).len, List.length_map]) hw)
        have hw : cW (F_law_r2  (writer_2688) (items_2689)) _ EE := hw
        unfold F_law_r2 at hw
        refine ⟨_, rfl, rfl, rfl, G2804, _, _, rfl, S2797.sG, (Rp.hide_nil (rp_mk_list (S2797.sG _ _ h2808) (RpAll.mono S2797.sG d2809))), cW_call hw (fun v2812 hw v2815 H2813 G2816 e2814 eG2817 sG2818 hn2819 r2820 => ?_) (fun e he => (hE e he).elim)⟩
        have S2821 := S2797.step e2814 eG2817 sG2818 hn2819
        obtain ⟨a2822, v2824, v2825, rfl, h2823, r2826, r2827⟩ := rp_tup2 r2820
        obtain ⟨a2828, rfl, h2829⟩ := rp_ints r2826
        obtain ⟨a2830, rfl, h2831⟩ := rp_ints r2827
        have h2832 := (e2814 _ _ h2799)
        have h2833 := (e2814 _ _ h2800)
        have h2834 := (e2814 _ _ h2801)
        refine ⟨_, rfl, _, _, _, rfl, h2832, rfl, rfl, rfl, G2816, _, _, _, _, writer_2688.enc, rfl, S2821.sG, (hide_nil h2832), (hide_nil h2833), (hide_nil h2834), cW_call hw (fun v2835 hw p2838 H2836 n2839 e2837 h2840 => ?_) (fun e he => (hE e he).elim)⟩
        have h2841 : H2836 p2838 = some (.lst ((v2835 : (List Int)).map V.int)) := h2840
        have fr2842 := S2821.free n2839
        have S2843 := S2821.new n2839 e2837 h2841 fr2842
        refine ⟨_, rfl, _, _, _, _, rfl, rfl, (SqT.of (S2843.sG _ _ h2823)), rfl, _, _, (rp_mk_ints h2841), (rp_mk_ints (S2843.sG _ _ h2829)), _, rfl, ?_⟩
        refine iteN (fun c2844 => ?_) (fun c2844 => ?_)
        · have hw := cW_neg c2844 hw
          have hw := cW_ok hw
          exact eq_bl (k _) (hK0 _ hw).symm
        · have hw := cW_pos c2844 hw
          obtain ⟨K2847, hK2848, hw⟩ := cW_push hw
          refine ⟨_, rfl, (by decide), (by decide), for_range (lo := 0) (n := Int.toNat (256)) (fun i σ H' => ∃ (u2849 : Option V) (G' : Hp), σ = [some (V.ref a_script), some (V.ref p2621), some (V.ref x2631), some (V.ref x2656), some (V.ref a2806), u2691, some (V.ref a2822), u2849, none] ∧ Same G2816 G' ∧ Sep [] H H G' H' [p2621, x2631, l2643, l2644, x2656] ∧ H' p2621 = some (.lst (cutV (vs2520 ++ [V.ref p2527, V.ref p2539, V.ref p2551, V.ref p2563, V.ref p2575]) none (some (40)))) ∧ H' x2631 = some (.ins AD.c_Encoder dx2632 [("_probabilities", V.ref l2643), ("_front", V.ref l2644), ("_low", V.int (writer_2688.enc.low)), ("_span", V.int (writer_2688.enc.span))]) ∧ H' l2643 = some (.lst ((writer_2688.enc.probs : (List Int)).map V.int)) ∧ H' l2644 = some (.lst ((writer_2688.enc.front : (List Int)).map V.int)) ∧ H' x2656 = some (.ins AD.c_SymbolWriter dx2657 [("_encoder", V.ref x2631)]) ∧ cW (forR (List.drop i (rng (0) (Int.toNat (256)))) () (fun s x => F_law_b3 (writer_2688.enc) (v2812)  x)) K2847 EE) ?_ ?_ ?_⟩
          · have h2850 := (e2837 _ _ (e2814 _ _ h2798))
            have h2851 := (e2837 _ _ h2832)
            have h2852 := (e2837 _ _ h2833)
            have h2853 := (e2837 _ _ h2834)
            have h2854 := (e2837 _ _ (e2814 _ _ h2802))
            exact ⟨_, _, rfl, (Same.refl _), (S2843.sub (all_cons (.tail _ (.head _)) (all_cons (.tail _ (.tail _ (.head _))) (all_cons (.tail _ (.tail _ (.tail _ (.head _)))) (all_cons (.tail _ (.tail _ (.tail _ (.tail _ (.head _))))) (all_cons (.tail _ (.tail _ (.tail _ (.tail _ (.tail _ (.head _)))))) all_nil)))))), h2850, h2851, h2852, h2853, h2854, hw⟩
          · intro i σ H2855 hi hw
            obtain ⟨u2849, G2862, rfl, eG2863, S2856, h2857, h2858, h2859, h2860, h2861, hw⟩ := hw
            have hw := cW_forR (rng_get hi) hw
            generalize (0 + (i : Int)) = x2864 at hw ⊢
            have hw : cW (F_law_b3 (writer_2688.enc) (v2812)  (x2864)) _ EE := hw
            unfold F_law_b3 at hw
            obtain ⟨K2865, hK2866, hw⟩ := cW_name hw
            refine ⟨_, rfl, _, _, _, rfl, h2858, rfl, _, rfl, rfl, rfl, G2862, _, _, _, _, writer_2688.enc, _, rfl, S2856.sG, (hide_nil h2858), (hide_nil h2859), (hide_nil h2860), cW_call hw (fun v2868 hw H2869 e2870 => ?_) (fun e he => (hE e he).elim)⟩
            have S2871 := S2856.same e2870
            obtain ⟨g2872, hw⟩ := cW_grd hw
            refine ⟨_, rfl, _, _, _, _, rfl, rfl, (SqT.of (S2871.sG _ _ (eG2863 _ _ h2823))), rfl, _, rfl, _, _, _, _, rfl, rfl, (SqL.of (S2871.sG _ _ (eG2863 _ _ h2831))), (atI_map g2872), _, _, rfl, rfl, _, rfl, ?_⟩
            refine iteN (fun c2873 => ?_) (fun c2873 => ?_)
            · have hw := cW_neg c2873 hw
              have hw := cW_ok hw
              have hw := hK2866 (.rt _) hw
              have hw := hK2848 (.rt _) hw
              have hw := cW_ok hw
              exact eq_bl (k _) (hK0 _ hw).symm
            · have hw := cW_pos c2873 hw
              have hw := cW_ok hw
              have hw := hK2866 _ hw
              have h2874 := (e2870 _ _ h2857)
              have h2875 := (e2870 _ _ h2858)
              have h2876 := (e2870 _ _ h2859)
              have h2877 := (e2870 _ _ h2860)
              have h2878 := (e2870 _ _ h2861)
              exact ⟨_, _, rfl, eG2863, S2871, h2874, h2875, h2876, h2877, h2878, hw⟩
          · intro σ H2879 hw
            obtain ⟨u2849, G2886, rfl, eG2887, S2880, h2881, h2882, h2883, h2884, h2885, hw⟩ := hw
            have hw := cW_aftgo (hK2848 _ (cW_forR0 (rng_len _ _).symm hw))
            have hw : cW (F_law_r3  ) _ EE := hw
            unfold F_law_r3 at hw
            have hw := cW_ok hw
            exact eq_bl (k _) (hK0 _ hw).symm
end
def spL (K : PySem.W.Frag) : Sp := fun vs H Q _ => ∃ (a_script : Addr) (script : List Int), vs = [.ref a_script] ∧ SqL K H a_script (script.map V.int) ∧ script.length ≤ 63 ∧ ∀ H', Q (.bl true) H'
theorem all_mk {l : PySem.W.OpenLaw} {w : World} {K : PySem.W.Frag} {h : Heap} {mg : Str → Option Value} {fa : Addr} (X : K.In h) (G : h.Ns mainGlobals mg) (hfa : mg "law" = some (.ref fa))
    {f0 f1 f2 f3 f4 f5 f6 f7 f8 f9 f10 f11 f12 f13 f14 f15 f16 f17 f18 f19 f20 f21 f22 f23 f24 f25 f26 f27 f28 f29 f30 CEncoder CSymbolWriter XOutOfRange : Addr} {od0 an0 od1 an1 od2 an2 od3 an3 od4 an4 od5 an5 od6 an6 od7 an7 od8 an8 od9 an9 od10 an10 od11 an11 od12 an12 od13 an13 od14 an14 od15 an15 od16 an16 od17 an17 od18 an18 od19 an19 od20 an20 od21 an21 od22 an22 od23 an23 od24 an24 od25 an25 od26 an26 od27 an27 od28 an28 od29 an29 od30 an30 : Option Addr} {sl0 sl1 sl2 sl3 sl4 sl5 sl6 sl7 sl8 sl9 sl10 sl11 sl12 sl13 sl14 sl15 sl16 sl17 sl18 sl19 sl20 sl21 sl22 sl23 sl24 sl25 sl26 sl27 sl28 sl29 sl30 : Array (Option Value)} {oc0 kV0 dc0 pm0 cd0 ct0 oc1 kV1 dc1 pm1 cd1 ct1 oc2 kV2 dc2 pm2 cd2 ct2 oc3 kV3 dc3 pm3 cd3 ct3 oc4 kV4 dc4 pm4 cd4 ct4 oc5 kV5 dc5 pm5 cd5 ct5 oc6 kV6 dc6 pm6 cd6 ct6 oc7 kV7 dc7 pm7 cd7 ct7 oc8 kV8 dc8 pm8 cd8 ct8 oc9 kV9 dc9 pm9 cd9 ct9 oc10 kV10 dc10 pm10 cd10 ct10 oc11 kV11 dc11 pm11 cd11 ct11 oc12 kV12 dc12 pm12 cd12 ct12 oc13 kV13 dc13 pm13 cd13 ct13 oc14 kV14 dc14 pm14 cd14 ct14 oc15 kV15 dc15 pm15 cd15 ct15 oc16 kV16 dc16 pm16 cd16 ct16 oc17 kV17 dc17 pm17 cd17 ct17 oc18 kV18 dc18 pm18 cd18 ct18 oc19 kV19 dc19 pm19 cd19 ct19 oc20 kV20 dc20 pm20 cd20 ct20 oc21 kV21 dc21 pm21 cd21 ct21 oc22 kV22 dc22 pm22 cd22 ct22 oc23 kV23 dc23 pm23 cd23 ct23 oc24 kV24 dc24 pm24 cd24 ct24 oc25 kV25 dc25 pm25 cd25 ct25 oc26 kV26 dc26 pm26 cd26 ct26 oc27 kV27 dc27 pm27 cd27 ct27 oc28 kV28 dc28 pm28 cd28 ct28 oc29 kV29 dc29 pm29 cd29 ct29 oc30 kV30 dc30 pm30 cd30 ct30 : Value} {tk0 tk1 tk2 tk5 tk6 tk7 tk8 tk9 tk10 tk11 tk12 tk13 tk14 tk15 tk16 tk17 tk18 tk19 tk24 tk25 tk26 tk27 tk28 tk29 tk30 tk31 tk32 tk33 : Tok}
    (wEncoder : PySem.W.nsIn K mainGlobals "Encoder" = some (some (.ref CEncoder))) (wSymbolWriter : PySem.W.nsIn K mainGlobals "SymbolWriter" = some (some (.ref CSymbolWriter))) (vOutOfRange : PySem.W.nsIn K mainGlobals "OutOfRange" = some (some (.ref XOutOfRange))) (a0 : PySem.W.findIn K (.ref CEncoder) "__init__" = some (some (.ref f0))) (b0 : PySem.W.isFn K (.ref f0) = true) (d0 : PySem.W.makesIn K CEncoder = true) (e0 : PySem.W.keepIn K (.ref CEncoder) = true) (l0 : K.lookup f0 = some ⟨oc0, od0, .func (PySem.W.fnOf "__init__" "Encoder.__init__" (defArgs s_Encoder___init__) (defBody s_Encoder___init__) (defScope s_Encoder___init__) .none kV0 dc0 pm0 an0 cd0 ct0), sl0⟩) (c0 : PySem.W.codeIn K cd0 "Encoder.__init__" = true) (k0 : PySem.W.keepIn K (.ref f0) = true) (a1 : PySem.W.findIn K (.ref CSymbolWriter) "__init__" = some (some (.ref f1))) (b1 : PySem.W.isFn K (.ref f1) = true) (d1 : PySem.W.makesIn K CSymbolWriter = true) (e1 : PySem.W.keepIn K (.ref CSymbolWriter) = true) (l1 : K.lookup f1 = some ⟨oc1, od1, .func (PySem.W.fnOf "__init__" "SymbolWriter.__init__" (defArgs s_SymbolWriter___init__) (defBody s_SymbolWriter___init__) (defScope s_SymbolWriter___init__) .none kV1 dc1 pm1 an1 cd1 ct1), sl1⟩) (c1 : PySem.W.codeIn K cd1 "SymbolWriter.__init__" = true) (k1 : PySem.W.keepIn K (.ref f1) = true) (a2 : PySem.W.nsIn K mainGlobals "_law_moved" = some (some (.ref f2))) (l2 : K.lookup f2 = some ⟨oc2, od2, .func (PySem.W.fnOf "_law_moved" "_law_moved" (defArgs s__law_moved) (defBody s__law_moved) (defScope s__law_moved) .none kV2 dc2 pm2 an2 cd2 ct2), sl2⟩) (c2 : PySem.W.codeIn K cd2 "_law_moved" = true) (k2 : PySem.W.keepIn K (.ref f2) = true) (a3 : PySem.W.nsIn K mainGlobals "_law_code" = some (some (.ref f3))) (l3 : K.lookup f3 = some ⟨oc3, od3, .func (PySem.W.fnOf "_law_code" "_law_code" (defArgs s__law_code) (defBody s__law_code) (defScope s__law_code) .none kV3 dc3 pm3 an3 cd3 ct3), sl3⟩) (c3 : PySem.W.codeIn K cd3 "_law_code" = true) (k3 : PySem.W.keepIn K (.ref f3) = true) (a4 : PySem.W.nsIn K mainGlobals "_law_named" = some (some (.ref f4))) (l4 : K.lookup f4 = some ⟨oc4, od4, .func (PySem.W.fnOf "_law_named" "_law_named" (defArgs s__law_named) (defBody s__law_named) (defScope s__law_named) .none kV4 dc4 pm4 an4 cd4 ct4), sl4⟩) (c4 : PySem.W.codeIn K cd4 "_law_named" = true) (k4 : PySem.W.keepIn K (.ref f4) = true) (a5 : PySem.W.nsIn K mainGlobals "_law_draws" = some (some (.ref f5))) (l5 : K.lookup f5 = some ⟨oc5, od5, .func (PySem.W.fnOf "_law_draws" "_law_draws" (defArgs s__law_draws) (defBody s__law_draws) (defScope s__law_draws) .none kV5 dc5 pm5 an5 cd5 ct5), sl5⟩) (c5 : PySem.W.codeIn K cd5 "_law_draws" = true) (k5 : PySem.W.keepIn K (.ref f5) = true) (a6 : PySem.W.nsIn K mainGlobals "_law_symbol" = some (some (.ref f6))) (l6 : K.lookup f6 = some ⟨oc6, od6, .func (PySem.W.fnOf "_law_symbol" "_law_symbol" (defArgs s__law_symbol) (defBody s__law_symbol) (defScope s__law_symbol) .none kV6 dc6 pm6 an6 cd6 ct6), sl6⟩) (c6 : PySem.W.codeIn K cd6 "_law_symbol" = true) (k6 : PySem.W.keepIn K (.ref f6) = true) (a7 : PySem.W.nsIn K mainGlobals "_check_contexts" = some (some (.ref f7))) (l7 : K.lookup f7 = some ⟨oc7, od7, .func (PySem.W.fnOf "_check_contexts" "_check_contexts" (defArgs s__check_contexts) (defBody s__check_contexts) (defScope s__check_contexts) .none kV7 dc7 pm7 an7 cd7 ct7), sl7⟩) (c7 : PySem.W.codeIn K cd7 "_check_contexts" = true) (k7 : PySem.W.keepIn K (.ref f7) = true) (a8 : PySem.W.nsIn K mainGlobals "_check_context" = some (some (.ref f8))) (l8 : K.lookup f8 = some ⟨oc8, od8, .func (PySem.W.fnOf "_check_context" "_check_context" (defArgs s__check_context) (defBody s__check_context) (defScope s__check_context) .none kV8 dc8 pm8 an8 cd8 ct8), sl8⟩) (c8 : PySem.W.codeIn K cd8 "_check_context" = true) (k8 : PySem.W.keepIn K (.ref f8) = true) (a9 : PySem.W.nsIn K mainGlobals "_check_decision" = some (some (.ref f9))) (l9 : K.lookup f9 = some ⟨oc9, od9, .func (PySem.W.fnOf "_check_decision" "_check_decision" (defArgs s__check_decision) (defBody s__check_decision) (defScope s__check_decision) .none kV9 dc9 pm9 an9 cd9 ct9), sl9⟩) (c9 : PySem.W.codeIn K cd9 "_check_decision" = true) (k9 : PySem.W.keepIn K (.ref f9) = true) (a10 : PySem.W.nsIn K mainGlobals "_adapted" = some (some (.ref f10))) (l10 : K.lookup f10 = some ⟨oc10, od10, .func (PySem.W.fnOf "_adapted" "_adapted" (defArgs s__adapted) (defBody s__adapted) (defScope s__adapted) .none kV10 dc10 pm10 an10 cd10 ct10), sl10⟩) (c10 : PySem.W.codeIn K cd10 "_adapted" = true) (k10 : PySem.W.keepIn K (.ref f10) = true) (a11 : PySem.W.findIn K (.ref CEncoder) "_carry" = some (some (.ref f11))) (b11 : PySem.W.isFn K (.ref f11) = true) (l11 : K.lookup f11 = some ⟨oc11, od11, .func (PySem.W.fnOf "_carry" "Encoder._carry" (defArgs s_Encoder__carry) (defBody s_Encoder__carry) (defScope s_Encoder__carry) .none kV11 dc11 pm11 an11 cd11 ct11), sl11⟩) (c11 : PySem.W.codeIn K cd11 "Encoder._carry" = true) (k11 : PySem.W.keepIn K (.ref f11) = true) (a12 : PySem.W.findIn K (.ref CEncoder) "_narrow" = some (some (.ref f12))) (b12 : PySem.W.isFn K (.ref f12) = true) (l12 : K.lookup f12 = some ⟨oc12, od12, .func (PySem.W.fnOf "_narrow" "Encoder._narrow" (defArgs s_Encoder__narrow) (defBody s_Encoder__narrow) (defScope s_Encoder__narrow) .none kV12 dc12 pm12 an12 cd12 ct12), sl12⟩) (c12 : PySem.W.codeIn K cd12 "Encoder._narrow" = true) (k12 : PySem.W.keepIn K (.ref f12) = true) (a13 : PySem.W.findIn K (.ref CEncoder) "code" = some (some (.ref f13))) (b13 : PySem.W.isFn K (.ref f13) = true) (l13 : K.lookup f13 = some ⟨oc13, od13, .func (PySem.W.fnOf "code" "Encoder.code" (defArgs s_Encoder_code) (defBody s_Encoder_code) (defScope s_Encoder_code) .none kV13 dc13 pm13 an13 cd13 ct13), sl13⟩) (c13 : PySem.W.codeIn K cd13 "Encoder.code" = true) (k13 : PySem.W.keepIn K (.ref f13) = true) (a14 : PySem.W.findIn K (.ref CSymbolWriter) "flag" = some (some (.ref f14))) (b14 : PySem.W.isFn K (.ref f14) = true) (l14 : K.lookup f14 = some ⟨oc14, od14, .func (PySem.W.fnOf "flag" "SymbolWriter.flag" (defArgs s_SymbolWriter_flag) (defBody s_SymbolWriter_flag) (defScope s_SymbolWriter_flag) .none kV14 dc14 pm14 an14 cd14 ct14), sl14⟩) (c14 : PySem.W.codeIn K cd14 "SymbolWriter.flag" = true) (k14 : PySem.W.keepIn K (.ref f14) = true) (a15 : PySem.W.nsIn K mainGlobals "_choice_digits" = some (some (.ref f15))) (l15 : K.lookup f15 = some ⟨oc15, od15, .func (PySem.W.fnOf "_choice_digits" "_choice_digits" (defArgs s__choice_digits) (defBody s__choice_digits) (defScope s__choice_digits) .none kV15 dc15 pm15 an15 cd15 ct15), sl15⟩) (c15 : PySem.W.codeIn K cd15 "_choice_digits" = true) (k15 : PySem.W.keepIn K (.ref f15) = true) (a16 : PySem.W.findIn K (.ref CSymbolWriter) "choice" = some (some (.ref f16))) (b16 : PySem.W.isFn K (.ref f16) = true) (l16 : K.lookup f16 = some ⟨oc16, od16, .func (PySem.W.fnOf "choice" "SymbolWriter.choice" (defArgs s_SymbolWriter_choice) (defBody s_SymbolWriter_choice) (defScope s_SymbolWriter_choice) .none kV16 dc16 pm16 an16 cd16 ct16), sl16⟩) (c16 : PySem.W.codeIn K cd16 "SymbolWriter.choice" = true) (k16 : PySem.W.keepIn K (.ref f16) = true) (a17 : PySem.W.nsIn K mainGlobals "_check_unary" = some (some (.ref f17))) (l17 : K.lookup f17 = some ⟨oc17, od17, .func (PySem.W.fnOf "_check_unary" "_check_unary" (defArgs s__check_unary) (defBody s__check_unary) (defScope s__check_unary) .none kV17 dc17 pm17 an17 cd17 ct17), sl17⟩) (c17 : PySem.W.codeIn K cd17 "_check_unary" = true) (k17 : PySem.W.keepIn K (.ref f17) = true) (a18 : PySem.W.findIn K (.ref CSymbolWriter) "unary" = some (some (.ref f18))) (b18 : PySem.W.isFn K (.ref f18) = true) (l18 : K.lookup f18 = some ⟨oc18, od18, .func (PySem.W.fnOf "unary" "SymbolWriter.unary" (defArgs s_SymbolWriter_unary) (defBody s_SymbolWriter_unary) (defScope s_SymbolWriter_unary) .none kV18 dc18 pm18 an18 cd18 ct18), sl18⟩) (c18 : PySem.W.codeIn K cd18 "SymbolWriter.unary" = true) (k18 : PySem.W.keepIn K (.ref f18) = true) (a19 : PySem.W.nsIn K mainGlobals "_digit_context" = some (some (.ref f19))) (l19 : K.lookup f19 = some ⟨oc19, od19, .func (PySem.W.fnOf "_digit_context" "_digit_context" (defArgs s__digit_context) (defBody s__digit_context) (defScope s__digit_context) .none kV19 dc19 pm19 an19 cd19 ct19), sl19⟩) (c19 : PySem.W.codeIn K cd19 "_digit_context" = true) (k19 : PySem.W.keepIn K (.ref f19) = true) (a20 : PySem.W.findIn K (.ref CEncoder) "code_even" = some (some (.ref f20))) (b20 : PySem.W.isFn K (.ref f20) = true) (l20 : K.lookup f20 = some ⟨oc20, od20, .func (PySem.W.fnOf "code_even" "Encoder.code_even" (defArgs s_Encoder_code_even) (defBody s_Encoder_code_even) (defScope s_Encoder_code_even) .none kV20 dc20 pm20 an20 cd20 ct20), sl20⟩) (c20 : PySem.W.codeIn K cd20 "Encoder.code_even" = true) (k20 : PySem.W.keepIn K (.ref f20) = true) (a21 : PySem.W.findIn K (.ref CSymbolWriter) "number" = some (some (.ref f21))) (b21 : PySem.W.isFn K (.ref f21) = true) (l21 : K.lookup f21 = some ⟨oc21, od21, .func (PySem.W.fnOf "number" "SymbolWriter.number" (defArgs s_SymbolWriter_number) (defBody s_SymbolWriter_number) (defScope s_SymbolWriter_number) .none kV21 dc21 pm21 an21 cd21 ct21), sl21⟩) (c21 : PySem.W.codeIn K cd21 "SymbolWriter.number" = true) (k21 : PySem.W.keepIn K (.ref f21) = true) (a22 : PySem.W.findIn K (.ref CSymbolWriter) "signed" = some (some (.ref f22))) (b22 : PySem.W.isFn K (.ref f22) = true) (l22 : K.lookup f22 = some ⟨oc22, od22, .func (PySem.W.fnOf "signed" "SymbolWriter.signed" (defArgs s_SymbolWriter_signed) (defBody s_SymbolWriter_signed) (defScope s_SymbolWriter_signed) .none kV22 dc22 pm22 an22 cd22 ct22), sl22⟩) (c22 : PySem.W.codeIn K cd22 "SymbolWriter.signed" = true) (k22 : PySem.W.keepIn K (.ref f22) = true) (a23 : PySem.W.findIn K (.ref CSymbolWriter) "even" = some (some (.ref f23))) (b23 : PySem.W.isFn K (.ref f23) = true) (l23 : K.lookup f23 = some ⟨oc23, od23, .func (PySem.W.fnOf "even" "SymbolWriter.even" (defArgs s_SymbolWriter_even) (defBody s_SymbolWriter_even) (defScope s_SymbolWriter_even) .none kV23 dc23 pm23 an23 cd23 ct23), sl23⟩) (c23 : PySem.W.codeIn K cd23 "SymbolWriter.even" = true) (k23 : PySem.W.keepIn K (.ref f23) = true) (a24 : PySem.W.nsIn K mainGlobals "_law_put" = some (some (.ref f24))) (l24 : K.lookup f24 = some ⟨oc24, od24, .func (PySem.W.fnOf "_law_put" "_law_put" (defArgs s__law_put) (defBody s__law_put) (defScope s__law_put) .none kV24 dc24 pm24 an24 cd24 ct24), sl24⟩) (c24 : PySem.W.codeIn K cd24 "_law_put" = true) (k24 : PySem.W.keepIn K (.ref f24) = true) (a25 : PySem.W.nsIn K mainGlobals "_law_unary_items" = some (some (.ref f25))) (l25 : K.lookup f25 = some ⟨oc25, od25, .func (PySem.W.fnOf "_law_unary_items" "_law_unary_items" (defArgs s__law_unary_items) (defBody s__law_unary_items) (defScope s__law_unary_items) .none kV25 dc25 pm25 an25 cd25 ct25), sl25⟩) (c25 : PySem.W.codeIn K cd25 "_law_unary_items" = true) (k25 : PySem.W.keepIn K (.ref f25) = true) (a26 : PySem.W.nsIn K mainGlobals "_law_number_items" = some (some (.ref f26))) (l26 : K.lookup f26 = some ⟨oc26, od26, .func (PySem.W.fnOf "_law_number_items" "_law_number_items" (defArgs s__law_number_items) (defBody s__law_number_items) (defScope s__law_number_items) .none kV26 dc26 pm26 an26 cd26 ct26), sl26⟩) (c26 : PySem.W.codeIn K cd26 "_law_number_items" = true) (k26 : PySem.W.keepIn K (.ref f26) = true) (a27 : PySem.W.nsIn K mainGlobals "_law_symbol_items" = some (some (.ref f27))) (l27 : K.lookup f27 = some ⟨oc27, od27, .func (PySem.W.fnOf "_law_symbol_items" "_law_symbol_items" (defArgs s__law_symbol_items) (defBody s__law_symbol_items) (defScope s__law_symbol_items) .none kV27 dc27 pm27 an27 cd27 ct27), sl27⟩) (c27 : PySem.W.codeIn K cd27 "_law_symbol_items" = true) (k27 : PySem.W.keepIn K (.ref f27) = true) (a28 : PySem.W.findIn K (.ref CEncoder) "octets" = some (some (.ref f28))) (b28 : PySem.W.isFn K (.ref f28) = true) (l28 : K.lookup f28 = some ⟨oc28, od28, .func (PySem.W.fnOf "octets" "Encoder.octets" (defArgs s_Encoder_octets) (defBody s_Encoder_octets) (defScope s_Encoder_octets) .none kV28 dc28 pm28 an28 cd28 ct28), sl28⟩) (c28 : PySem.W.codeIn K cd28 "Encoder.octets" = true) (k28 : PySem.W.keepIn K (.ref f28) = true) (a29 : PySem.W.findIn K (.ref CEncoder) "probability" = some (some (.ref f29))) (b29 : PySem.W.isFn K (.ref f29) = true) (l29 : K.lookup f29 = some ⟨oc29, od29, .func (PySem.W.fnOf "probability" "Encoder.probability" (defArgs s_Encoder_probability) (defBody s_Encoder_probability) (defScope s_Encoder_probability) .none kV29 dc29 pm29 an29 cd29 ct29), sl29⟩) (c29 : PySem.W.codeIn K cd29 "Encoder.probability" = true) (k29 : PySem.W.keepIn K (.ref f29) = true) (a30 : PySem.W.nsIn K mainGlobals "law" = some (some (.ref f30))) (l30 : K.lookup f30 = some ⟨oc30, od30, .func (PySem.W.fnOf "law" "law" (defArgs s_law) (defBody s_law) (defScope s_law) .none kV30 dc30 pm30 an30 cd30 ct30), sl30⟩) (c30 : PySem.W.codeIn K cd30 "law" = true) (k30 : PySem.W.keepIn K (.ref f30) = true)
    (z0 : PySem.W.nsIn K mainGlobals "EVEN" = some (some (.int 2048 tk0))) (z1 : PySem.W.nsIn K mainGlobals "CONTEXTS_coder" = some (some (.int 256 tk1))) (z2 : PySem.W.nsIn K mainGlobals "WORD" = some (some (.int 4294967296 tk2))) (z3 : PySem.W.nsIn K mainGlobals "range" = some none) (z4 : PySem.W.nsIn K mainGlobals "len" = some none) (z5 : PySem.W.nsIn K mainGlobals "LEVEL" = some (some (.int 192 tk5))) (z6 : PySem.W.nsIn K mainGlobals "LAST" = some (some (.int 128 tk6))) (z7 : PySem.W.nsIn K mainGlobals "SIGNIFICANT" = some (some (.int 64 tk7))) (z8 : PySem.W.nsIn K mainGlobals "CODED" = some (some (.int 58 tk8))) (z9 : PySem.W.nsIn K mainGlobals "SIZE" = some (some (.int 57 tk9))) (z10 : PySem.W.nsIn K mainGlobals "VECTOR_Y" = some (some (.int 41 tk10))) (z11 : PySem.W.nsIn K mainGlobals "VECTOR_X" = some (some (.int 25 tk11))) (z12 : PySem.W.nsIn K mainGlobals "INDEX" = some (some (.int 24 tk12))) (z13 : PySem.W.nsIn K mainGlobals "DIRECTION" = some (some (.int 20 tk13))) (z14 : PySem.W.nsIn K mainGlobals "CHROMA" = some (some (.int 16 tk14))) (z15 : PySem.W.nsIn K mainGlobals "MODE" = some (some (.int 8 tk15))) (z16 : PySem.W.nsIn K mainGlobals "SPLIT" = some (some (.int 6 tk16))) (z17 : PySem.W.nsIn K mainGlobals "INTRA" = some (some (.int 3 tk17))) (z18 : PySem.W.nsIn K mainGlobals "SKIP" = some (some (.int 0 tk18))) (z19 : PySem.W.nsIn K mainGlobals "OFFSET" = some (some (.int 224 tk19))) (z20 : PySem.W.nsIn K mainGlobals "abs" = some none) (z21 : PySem.W.nsIn K mainGlobals "int" = some none) (z22 : PySem.W.nsIn K mainGlobals "min" = some none) (z23 : PySem.W.nsIn K mainGlobals "max" = some none) (z24 : PySem.W.nsIn K mainGlobals "CONTEXTS_symbols" = some (some (.int 256 tk24))) (z25 : PySem.W.nsIn K mainGlobals "SCALE" = some (some (.int 4096 tk25))) (z26 : PySem.W.nsIn K mainGlobals "RATE" = some (some (.int 5 tk26))) (z27 : PySem.W.nsIn K mainGlobals "SCALE_BITS" = some (some (.int 12 tk27))) (z28 : PySem.W.nsIn K mainGlobals "LEAST_SPAN" = some (some (.int 16777216 tk28))) (z29 : PySem.W.nsIn K mainGlobals "MOST_CHOICES" = some (some (.int 16 tk29))) (z30 : PySem.W.nsIn K mainGlobals "GREATEST_UNARY" = some (some (.int 64 tk30))) (z31 : PySem.W.nsIn K mainGlobals "SHARED" = some (some (.int 8 tk31))) (z32 : PySem.W.nsIn K mainGlobals "GREATEST_NUMBER" = some (some (.int 1048576 tk32))) (z33 : PySem.W.nsIn K mainGlobals "MOST_DIGITS" = some (some (.int 20 tk33))) (yEncoder0 : PySem.W.plainGet K CEncoder Str.empty = true) (yEncoder1 : PySem.W.hasDictIn K CEncoder = true) (yEncoder2 : PySem.W.plainOver K CEncoder = true) (yEncoder3 : PySem.W.findIn K (.ref CEncoder) "__setattr__" = some (some (.builtin "object.__setattr__"))) (xEncoder0 : PySem.W.findIn K (.ref CEncoder) "_probabilities" = some none) (xEncoder1 : PySem.W.findIn K (.ref CEncoder) "_front" = some none) (xEncoder2 : PySem.W.findIn K (.ref CEncoder) "_low" = some none) (xEncoder3 : PySem.W.findIn K (.ref CEncoder) "_span" = some none) (ySymbolWriter0 : PySem.W.plainGet K CSymbolWriter Str.empty = true) (ySymbolWriter1 : PySem.W.hasDictIn K CSymbolWriter = true) (ySymbolWriter2 : PySem.W.plainOver K CSymbolWriter = true) (ySymbolWriter3 : PySem.W.findIn K (.ref CSymbolWriter) "__setattr__" = some (some (.builtin "object.__setattr__"))) (xSymbolWriter0 : PySem.W.findIn K (.ref CSymbolWriter) "_encoder" = some none) (exOutOfRange : PySem.W.excIn K XOutOfRange [.type "ValueError", .type "Exception", .type "BaseException", .type "object"] "ValueError.__new__" = true) (ekOutOfRange : PySem.W.keepIn K (.ref XOutOfRange) = true) (ebOutOfRange : PySem.W.subIn K (.ref XOutOfRange) (.type "BaseException") = some true) (etOutOfRange : PySem.W.typeIn K (.ref XOutOfRange) = some (.type "type")) :
    ∃ fd : FuncData, (∀ (s : Shared) (v : Value), BindsTo s fd ⟨[v], []⟩ [("script", v)]) ∧ ∀ base : Heap, K.In base → base.Ns mainGlobals mg → FnG l.prog w K mg base CX0 8 fa fd ["script"] (spL K) := by
  have e := hfa.symm.trans (PySem.W.mg_of X G a30)
  cases e
  have T : Txt K mg ⟨CEncoder, CSymbolWriter, fa, XOutOfRange, fa⟩ := ⟨⟨_, PySem.W.mg_of X G z0, ⟨_, rfl⟩⟩, ⟨_, PySem.W.mg_of X G z1, ⟨_, rfl⟩⟩, ⟨_, PySem.W.mg_of X G z2, ⟨_, rfl⟩⟩, PySem.W.mg_none_of X G z3, PySem.W.mg_none_of X G z4, ⟨_, PySem.W.mg_of X G z5, ⟨_, rfl⟩⟩, ⟨_, PySem.W.mg_of X G z6, ⟨_, rfl⟩⟩, ⟨_, PySem.W.mg_of X G z7, ⟨_, rfl⟩⟩, ⟨_, PySem.W.mg_of X G z8, ⟨_, rfl⟩⟩, ⟨_, PySem.W.mg_of X G z9, ⟨_, rfl⟩⟩, ⟨_, PySem.W.mg_of X G z10, ⟨_, rfl⟩⟩, ⟨_, PySem.W.mg_of X G z11, ⟨_, rfl⟩⟩, ⟨_, PySem.W.mg_of X G z12, ⟨_, rfl⟩⟩, ⟨_, PySem.W.mg_of X G z13, ⟨_, rfl⟩⟩, ⟨_, PySem.W.mg_of X G z14, ⟨_, rfl⟩⟩, ⟨_, PySem.W.mg_of X G z15, ⟨_, rfl⟩⟩, ⟨_, PySem.W.mg_of X G z16, ⟨_, rfl⟩⟩, ⟨_, PySem.W.mg_of X G z17, ⟨_, rfl⟩⟩, ⟨_, PySem.W.mg_of X G z18, ⟨_, rfl⟩⟩, ⟨_, PySem.W.mg_of X G z19, ⟨_, rfl⟩⟩, PySem.W.mg_none_of X G z20, PySem.W.mg_none_of X G z21, PySem.W.mg_none_of X G z22, PySem.W.mg_none_of X G z23, ⟨_, PySem.W.mg_of X G z24, ⟨_, rfl⟩⟩, ⟨_, PySem.W.mg_of X G z25, ⟨_, rfl⟩⟩, ⟨_, PySem.W.mg_of X G z26, ⟨_, rfl⟩⟩, ⟨_, PySem.W.mg_of X G z27, ⟨_, rfl⟩⟩, ⟨_, PySem.W.mg_of X G z28, ⟨_, rfl⟩⟩, ⟨_, PySem.W.mg_of X G z29, ⟨_, rfl⟩⟩, ⟨_, PySem.W.mg_of X G z30, ⟨_, rfl⟩⟩, ⟨_, PySem.W.mg_of X G z31, ⟨_, rfl⟩⟩, ⟨_, PySem.W.mg_of X G z32, ⟨_, rfl⟩⟩, ⟨_, PySem.W.mg_of X G z33, ⟨_, rfl⟩⟩, ⟨yEncoder0, yEncoder1, yEncoder2, yEncoder3⟩, xEncoder0, xEncoder1, xEncoder2, xEncoder3, ⟨ySymbolWriter0, ySymbolWriter1, ySymbolWriter2, ySymbolWriter3⟩, xSymbolWriter0, PySem.W.mg_of X G vOutOfRange, exOutOfRange, ekOutOfRange, ebOutOfRange, etOutOfRange⟩
  have F0 : FunD K "__init__" "Encoder.__init__" (defArgs s_Encoder___init__) (defBody s_Encoder___init__) (defScope s_Encoder___init__) [] [] f0 _ := ⟨⟨_, _, _, _, _, _, _, _, _, _, rfl, l0, c0, .inl ⟨rfl, rfl⟩, .inl rfl⟩, k0⟩
  have D_0 : InitX K mg CEncoder "Encoder" "Encoder.__init__" s_Encoder___init__ ["self"] pats_Encoder___init__ := ⟨_, _, _, _, F0, ⟨d0, a0, b0, e0⟩, PySem.W.mg_of X G wEncoder, (all_consQ (Bnd.all fun us ws vs zs l1 l2 r rz => by
      obtain ⟨u0, rfl⟩ := len1 (r.length.symm.trans l1)
      obtain rfl := len0 (rz.length.symm.trans l2)
      cases r with | cons r0 r =>
        cases r
        cases rz
        exact ⟨[u0], rfl, (.cons r0 .nil)⟩) all_nilQ)⟩
  have F1 : FunD K "__init__" "SymbolWriter.__init__" (defArgs s_SymbolWriter___init__) (defBody s_SymbolWriter___init__) (defScope s_SymbolWriter___init__) [] [] f1 _ := ⟨⟨_, _, _, _, _, _, _, _, _, _, rfl, l1, c1, .inl ⟨rfl, rfl⟩, .inl rfl⟩, k1⟩
  have D_1 : InitX K mg CSymbolWriter "SymbolWriter" "SymbolWriter.__init__" s_SymbolWriter___init__ ["self", "encoder"] pats_SymbolWriter___init__ := ⟨_, _, _, _, F1, ⟨d1, a1, b1, e1⟩, PySem.W.mg_of X G wSymbolWriter, (all_consQ (Bnd.all fun us ws vs zs l1 l2 r rz => by
      obtain ⟨u0, u1, rfl⟩ := len2 (r.length.symm.trans l1)
      obtain rfl := len0 (rz.length.symm.trans l2)
      cases r with | cons r0 r =>
        cases r with | cons r1 r =>
          cases r
          cases rz
          exact ⟨[u0, u1], rfl, (.cons r0 (.cons r1 .nil))⟩) all_nilQ)⟩
  have F2 : FunD K "_law_moved" "_law_moved" (defArgs s__law_moved) (defBody s__law_moved) (defScope s__law_moved) [] [] f2 _ := ⟨⟨_, _, _, _, _, _, _, _, _, _, rfl, l2, c2, .inl ⟨rfl, rfl⟩, .inl rfl⟩, k2⟩
  have D_2 : DefX K mg "_law_moved" s__law_moved ["p", "decision"] pats__law_moved := ⟨_, _, _, _, F2, PySem.W.mg_of X G a2, (all_consQ (Bnd.all fun us ws vs zs l1 l2 r rz => by
      obtain ⟨u0, u1, rfl⟩ := len2 (r.length.symm.trans l1)
      obtain rfl := len0 (rz.length.symm.trans l2)
      cases r with | cons r0 r =>
        cases r with | cons r1 r =>
          cases r
          cases rz
          exact ⟨[u0, u1], rfl, (.cons r0 (.cons r1 .nil))⟩) all_nilQ)⟩
  have F3 : FunD K "_law_code" "_law_code" (defArgs s__law_code) (defBody s__law_code) (defScope s__law_code) [] [] f3 _ := ⟨⟨_, _, _, _, _, _, _, _, _, _, rfl, l3, c3, .inl ⟨rfl, rfl⟩, .inl rfl⟩, k3⟩
  have D_3 : DefX K mg "_law_code" s__law_code ["items"] pats__law_code := ⟨_, _, _, _, F3, PySem.W.mg_of X G a3, (all_consQ (Bnd.all fun us ws vs zs l1 l2 r rz => by
      obtain ⟨u0, rfl⟩ := len1 (r.length.symm.trans l1)
      obtain rfl := len0 (rz.length.symm.trans l2)
      cases r with | cons r0 r =>
        cases r
        cases rz
        exact ⟨[u0], rfl, (.cons r0 .nil)⟩) all_nilQ)⟩
  have F4 : FunD K "_law_named" "_law_named" (defArgs s__law_named) (defBody s__law_named) (defScope s__law_named) [] [] f4 _ := ⟨⟨_, _, _, _, _, _, _, _, _, _, rfl, l4, c4, .inl ⟨rfl, rfl⟩, .inl rfl⟩, k4⟩
  have D_4 : DefX K mg "_law_named" s__law_named [] pats__law_named := ⟨_, _, _, _, F4, PySem.W.mg_of X G a4, (all_consQ (Bnd.all fun us ws vs zs l1 l2 r rz => by
      obtain rfl := len0 (r.length.symm.trans l1)
      obtain rfl := len0 (rz.length.symm.trans l2)
      cases r
      cases rz
      exact ⟨[], rfl, .nil⟩) all_nilQ)⟩
  have F5 : FunD K "_law_draws" "_law_draws" (defArgs s__law_draws) (defBody s__law_draws) (defScope s__law_draws) [] [] f5 _ := ⟨⟨_, _, _, _, _, _, _, _, _, _, rfl, l5, c5, .inl ⟨rfl, rfl⟩, .inl rfl⟩, k5⟩
  have D_5 : DefX K mg "_law_draws" s__law_draws ["cell", "limits"] pats__law_draws := ⟨_, _, _, _, F5, PySem.W.mg_of X G a5, (all_consQ (Bnd.all fun us ws vs zs l1 l2 r rz => by
      obtain ⟨u0, u1, rfl⟩ := len2 (r.length.symm.trans l1)
      obtain rfl := len0 (rz.length.symm.trans l2)
      cases r with | cons r0 r =>
        cases r with | cons r1 r =>
          cases r
          cases rz
          exact ⟨[u0, u1], rfl, (.cons r0 (.cons r1 .nil))⟩) all_nilQ)⟩
  have F6 : FunD K "_law_symbol" "_law_symbol" (defArgs s__law_symbol) (defBody s__law_symbol) (defScope s__law_symbol) [] [] f6 _ := ⟨⟨_, _, _, _, _, _, _, _, _, _, rfl, l6, c6, .inl ⟨rfl, rfl⟩, .inl rfl⟩, k6⟩
  have D_6 : DefX K mg "_law_symbol" s__law_symbol ["cell"] pats__law_symbol := ⟨_, _, _, _, F6, PySem.W.mg_of X G a6, (all_consQ (Bnd.all fun us ws vs zs l1 l2 r rz => by
      obtain ⟨u0, rfl⟩ := len1 (r.length.symm.trans l1)
      obtain rfl := len0 (rz.length.symm.trans l2)
      cases r with | cons r0 r =>
        cases r
        cases rz
        exact ⟨[u0], rfl, (.cons r0 .nil)⟩) all_nilQ)⟩
  have F7 : FunD K "_check_contexts" "_check_contexts" (defArgs s__check_contexts) (defBody s__check_contexts) (defScope s__check_contexts) [] [] f7 _ := ⟨⟨_, _, _, _, _, _, _, _, _, _, rfl, l7, c7, .inl ⟨rfl, rfl⟩, .inl rfl⟩, k7⟩
  have D_7 : DefX K mg "_check_contexts" s__check_contexts ["base", "count"] pats__check_contexts := ⟨_, _, _, _, F7, PySem.W.mg_of X G a7, (all_consQ (Bnd.all fun us ws vs zs l1 l2 r rz => by
      obtain ⟨u0, u1, rfl⟩ := len2 (r.length.symm.trans l1)
      obtain rfl := len0 (rz.length.symm.trans l2)
      cases r with | cons r0 r =>
        cases r with | cons r1 r =>
          cases r
          cases rz
          exact ⟨[u0, u1], rfl, (.cons r0 (.cons r1 .nil))⟩) all_nilQ)⟩
  have F8 : FunD K "_check_context" "_check_context" (defArgs s__check_context) (defBody s__check_context) (defScope s__check_context) [] [] f8 _ := ⟨⟨_, _, _, _, _, _, _, _, _, _, rfl, l8, c8, .inl ⟨rfl, rfl⟩, .inl rfl⟩, k8⟩
  have D_8 : DefX K mg "_check_context" s__check_context ["context"] pats__check_context := ⟨_, _, _, _, F8, PySem.W.mg_of X G a8, (all_consQ (Bnd.all fun us ws vs zs l1 l2 r rz => by
      obtain ⟨u0, rfl⟩ := len1 (r.length.symm.trans l1)
      obtain rfl := len0 (rz.length.symm.trans l2)
      cases r with | cons r0 r =>
        cases r
        cases rz
        exact ⟨[u0], rfl, (.cons r0 .nil)⟩) all_nilQ)⟩
  have F9 : FunD K "_check_decision" "_check_decision" (defArgs s__check_decision) (defBody s__check_decision) (defScope s__check_decision) [] [] f9 _ := ⟨⟨_, _, _, _, _, _, _, _, _, _, rfl, l9, c9, .inl ⟨rfl, rfl⟩, .inl rfl⟩, k9⟩
  have D_9 : DefX K mg "_check_decision" s__check_decision ["decision"] pats__check_decision := ⟨_, _, _, _, F9, PySem.W.mg_of X G a9, (all_consQ (Bnd.all fun us ws vs zs l1 l2 r rz => by
      obtain ⟨u0, rfl⟩ := len1 (r.length.symm.trans l1)
      obtain rfl := len0 (rz.length.symm.trans l2)
      cases r with | cons r0 r =>
        cases r
        cases rz
        exact ⟨[u0], rfl, (.cons r0 .nil)⟩) all_nilQ)⟩
  have F10 : FunD K "_adapted" "_adapted" (defArgs s__adapted) (defBody s__adapted) (defScope s__adapted) [] [] f10 _ := ⟨⟨_, _, _, _, _, _, _, _, _, _, rfl, l10, c10, .inl ⟨rfl, rfl⟩, .inl rfl⟩, k10⟩
  have D_10 : DefX K mg "_adapted" s__adapted ["chance", "decision"] pats__adapted := ⟨_, _, _, _, F10, PySem.W.mg_of X G a10, (all_consQ (Bnd.all fun us ws vs zs l1 l2 r rz => by
      obtain ⟨u0, u1, rfl⟩ := len2 (r.length.symm.trans l1)
      obtain rfl := len0 (rz.length.symm.trans l2)
      cases r with | cons r0 r =>
        cases r with | cons r1 r =>
          cases r
          cases rz
          exact ⟨[u0, u1], rfl, (.cons r0 (.cons r1 .nil))⟩) all_nilQ)⟩
  have F11 : FunD K "_carry" "Encoder._carry" (defArgs s_Encoder__carry) (defBody s_Encoder__carry) (defScope s_Encoder__carry) [] [] f11 _ := ⟨⟨_, _, _, _, _, _, _, _, _, _, rfl, l11, c11, .inl ⟨rfl, rfl⟩, .inl rfl⟩, k11⟩
  have D_11 : MethX K CEncoder "Encoder._carry" "_carry" s_Encoder__carry ["self"] pats_Encoder__carry := ⟨_, _, _, _, F11, ⟨a11, b11, k11⟩, (all_consQ (Bnd.all fun us ws vs zs l1 l2 r rz => by
      obtain ⟨u0, rfl⟩ := len1 (r.length.symm.trans l1)
      obtain rfl := len0 (rz.length.symm.trans l2)
      cases r with | cons r0 r =>
        cases r
        cases rz
        exact ⟨[u0], rfl, (.cons r0 .nil)⟩) all_nilQ)⟩
  have F12 : FunD K "_narrow" "Encoder._narrow" (defArgs s_Encoder__narrow) (defBody s_Encoder__narrow) (defScope s_Encoder__narrow) [] [] f12 _ := ⟨⟨_, _, _, _, _, _, _, _, _, _, rfl, l12, c12, .inl ⟨rfl, rfl⟩, .inl rfl⟩, k12⟩
  have D_12 : MethX K CEncoder "Encoder._narrow" "_narrow" s_Encoder__narrow ["self", "chance", "decision"] pats_Encoder__narrow := ⟨_, _, _, _, F12, ⟨a12, b12, k12⟩, (all_consQ (Bnd.all fun us ws vs zs l1 l2 r rz => by
      obtain ⟨u0, u1, u2, rfl⟩ := len3 (r.length.symm.trans l1)
      obtain rfl := len0 (rz.length.symm.trans l2)
      cases r with | cons r0 r =>
        cases r with | cons r1 r =>
          cases r with | cons r2 r =>
            cases r
            cases rz
            exact ⟨[u0, u1, u2], rfl, (.cons r0 (.cons r1 (.cons r2 .nil)))⟩) all_nilQ)⟩
  have F13 : FunD K "code" "Encoder.code" (defArgs s_Encoder_code) (defBody s_Encoder_code) (defScope s_Encoder_code) [] [] f13 _ := ⟨⟨_, _, _, _, _, _, _, _, _, _, rfl, l13, c13, .inl ⟨rfl, rfl⟩, .inl rfl⟩, k13⟩
  have D_13 : MethX K CEncoder "Encoder.code" "code" s_Encoder_code ["self", "context", "decision"] pats_Encoder_code := ⟨_, _, _, _, F13, ⟨a13, b13, k13⟩, (all_consQ (Bnd.all fun us ws vs zs l1 l2 r rz => by
      obtain ⟨u0, u1, u2, rfl⟩ := len3 (r.length.symm.trans l1)
      obtain rfl := len0 (rz.length.symm.trans l2)
      cases r with | cons r0 r =>
        cases r with | cons r1 r =>
          cases r with | cons r2 r =>
            cases r
            cases rz
            exact ⟨[u0, u1, u2], rfl, (.cons r0 (.cons r1 (.cons r2 .nil)))⟩) all_nilQ)⟩
  have F14 : FunD K "flag" "SymbolWriter.flag" (defArgs s_SymbolWriter_flag) (defBody s_SymbolWriter_flag) (defScope s_SymbolWriter_flag) [] [] f14 _ := ⟨⟨_, _, _, _, _, _, _, _, _, _, rfl, l14, c14, .inl ⟨rfl, rfl⟩, .inl rfl⟩, k14⟩
  have D_14 : MethX K CSymbolWriter "SymbolWriter.flag" "flag" s_SymbolWriter_flag ["self", "base", "value"] pats_SymbolWriter_flag := ⟨_, _, _, _, F14, ⟨a14, b14, k14⟩, (all_consQ (Bnd.all fun us ws vs zs l1 l2 r rz => by
      obtain ⟨u0, u1, u2, rfl⟩ := len3 (r.length.symm.trans l1)
      obtain rfl := len0 (rz.length.symm.trans l2)
      cases r with | cons r0 r =>
        cases r with | cons r1 r =>
          cases r with | cons r2 r =>
            cases r
            cases rz
            exact ⟨[u0, u1, u2], rfl, (.cons r0 (.cons r1 (.cons r2 .nil)))⟩) all_nilQ)⟩
  have F15 : FunD K "_choice_digits" "_choice_digits" (defArgs s__choice_digits) (defBody s__choice_digits) (defScope s__choice_digits) [] [] f15 _ := ⟨⟨_, _, _, _, _, _, _, _, _, _, rfl, l15, c15, .inl ⟨rfl, rfl⟩, .inl rfl⟩, k15⟩
  have D_15 : DefX K mg "_choice_digits" s__choice_digits ["base", "count"] pats__choice_digits := ⟨_, _, _, _, F15, PySem.W.mg_of X G a15, (all_consQ (Bnd.all fun us ws vs zs l1 l2 r rz => by
      obtain ⟨u0, u1, rfl⟩ := len2 (r.length.symm.trans l1)
      obtain rfl := len0 (rz.length.symm.trans l2)
      cases r with | cons r0 r =>
        cases r with | cons r1 r =>
          cases r
          cases rz
          exact ⟨[u0, u1], rfl, (.cons r0 (.cons r1 .nil))⟩) all_nilQ)⟩
  have F16 : FunD K "choice" "SymbolWriter.choice" (defArgs s_SymbolWriter_choice) (defBody s_SymbolWriter_choice) (defScope s_SymbolWriter_choice) [] [] f16 _ := ⟨⟨_, _, _, _, _, _, _, _, _, _, rfl, l16, c16, .inl ⟨rfl, rfl⟩, .inl rfl⟩, k16⟩
  have D_16 : MethX K CSymbolWriter "SymbolWriter.choice" "choice" s_SymbolWriter_choice ["self", "base", "value", "count"] pats_SymbolWriter_choice := ⟨_, _, _, _, F16, ⟨a16, b16, k16⟩, (all_consQ (Bnd.all fun us ws vs zs l1 l2 r rz => by
      obtain ⟨u0, u1, u2, rfl⟩ := len3 (r.length.symm.trans l1)
      obtain ⟨w0, rfl⟩ := len1 (rz.length.symm.trans l2)
      cases r with | cons r0 r =>
        cases r with | cons r1 r =>
          cases r with | cons r2 r =>
            cases r
            cases rz with | cons q0 rz =>
              cases rz
              exact ⟨[u0, u1, u2, w0], rfl, (.cons r0 (.cons r1 (.cons r2 (.cons q0 .nil))))⟩) all_nilQ)⟩
  have F17 : FunD K "_check_unary" "_check_unary" (defArgs s__check_unary) (defBody s__check_unary) (defScope s__check_unary) [] [] f17 _ := ⟨⟨_, _, _, _, _, _, _, _, _, _, rfl, l17, c17, .inl ⟨rfl, rfl⟩, .inl rfl⟩, k17⟩
  have D_17 : DefX K mg "_check_unary" s__check_unary ["base", "most"] pats__check_unary := ⟨_, _, _, _, F17, PySem.W.mg_of X G a17, (all_consQ (Bnd.all fun us ws vs zs l1 l2 r rz => by
      obtain ⟨u0, u1, rfl⟩ := len2 (r.length.symm.trans l1)
      obtain rfl := len0 (rz.length.symm.trans l2)
      cases r with | cons r0 r =>
        cases r with | cons r1 r =>
          cases r
          cases rz
          exact ⟨[u0, u1], rfl, (.cons r0 (.cons r1 .nil))⟩) all_nilQ)⟩
  have F18 : FunD K "unary" "SymbolWriter.unary" (defArgs s_SymbolWriter_unary) (defBody s_SymbolWriter_unary) (defScope s_SymbolWriter_unary) [] [] f18 _ := ⟨⟨_, _, _, _, _, _, _, _, _, _, rfl, l18, c18, .inl ⟨rfl, rfl⟩, .inl rfl⟩, k18⟩
  have D_18 : MethX K CSymbolWriter "SymbolWriter.unary" "unary" s_SymbolWriter_unary ["self", "base", "value", "most"] pats_SymbolWriter_unary := ⟨_, _, _, _, F18, ⟨a18, b18, k18⟩, (all_consQ (Bnd.all fun us ws vs zs l1 l2 r rz => by
      obtain ⟨u0, u1, u2, rfl⟩ := len3 (r.length.symm.trans l1)
      obtain ⟨w0, rfl⟩ := len1 (rz.length.symm.trans l2)
      cases r with | cons r0 r =>
        cases r with | cons r1 r =>
          cases r with | cons r2 r =>
            cases r
            cases rz with | cons q0 rz =>
              cases rz
              exact ⟨[u0, u1, u2, w0], rfl, (.cons r0 (.cons r1 (.cons r2 (.cons q0 .nil))))⟩) all_nilQ)⟩
  have F19 : FunD K "_digit_context" "_digit_context" (defArgs s__digit_context) (defBody s__digit_context) (defScope s__digit_context) [] [] f19 _ := ⟨⟨_, _, _, _, _, _, _, _, _, _, rfl, l19, c19, .inl ⟨rfl, rfl⟩, .inl rfl⟩, k19⟩
  have D_19 : DefX K mg "_digit_context" s__digit_context ["base", "digits"] pats__digit_context := ⟨_, _, _, _, F19, PySem.W.mg_of X G a19, (all_consQ (Bnd.all fun us ws vs zs l1 l2 r rz => by
      obtain ⟨u0, u1, rfl⟩ := len2 (r.length.symm.trans l1)
      obtain rfl := len0 (rz.length.symm.trans l2)
      cases r with | cons r0 r =>
        cases r with | cons r1 r =>
          cases r
          cases rz
          exact ⟨[u0, u1], rfl, (.cons r0 (.cons r1 .nil))⟩) all_nilQ)⟩
  have F20 : FunD K "code_even" "Encoder.code_even" (defArgs s_Encoder_code_even) (defBody s_Encoder_code_even) (defScope s_Encoder_code_even) [] [] f20 _ := ⟨⟨_, _, _, _, _, _, _, _, _, _, rfl, l20, c20, .inl ⟨rfl, rfl⟩, .inl rfl⟩, k20⟩
  have D_20 : MethX K CEncoder "Encoder.code_even" "code_even" s_Encoder_code_even ["self", "decision"] pats_Encoder_code_even := ⟨_, _, _, _, F20, ⟨a20, b20, k20⟩, (all_consQ (Bnd.all fun us ws vs zs l1 l2 r rz => by
      obtain ⟨u0, u1, rfl⟩ := len2 (r.length.symm.trans l1)
      obtain rfl := len0 (rz.length.symm.trans l2)
      cases r with | cons r0 r =>
        cases r with | cons r1 r =>
          cases r
          cases rz
          exact ⟨[u0, u1], rfl, (.cons r0 (.cons r1 .nil))⟩) all_nilQ)⟩
  have F21 : FunD K "number" "SymbolWriter.number" (defArgs s_SymbolWriter_number) (defBody s_SymbolWriter_number) (defScope s_SymbolWriter_number) [] [] f21 _ := ⟨⟨_, _, _, _, _, _, _, _, _, _, rfl, l21, c21, .inl ⟨rfl, rfl⟩, .inl rfl⟩, k21⟩
  have D_21 : MethX K CSymbolWriter "SymbolWriter.number" "number" s_SymbolWriter_number ["self", "base", "value"] pats_SymbolWriter_number := ⟨_, _, _, _, F21, ⟨a21, b21, k21⟩, (all_consQ (Bnd.all fun us ws vs zs l1 l2 r rz => by
      obtain ⟨u0, u1, u2, rfl⟩ := len3 (r.length.symm.trans l1)
      obtain rfl := len0 (rz.length.symm.trans l2)
      cases r with | cons r0 r =>
        cases r with | cons r1 r =>
          cases r with | cons r2 r =>
            cases r
            cases rz
            exact ⟨[u0, u1, u2], rfl, (.cons r0 (.cons r1 (.cons r2 .nil)))⟩) all_nilQ)⟩
  have F22 : FunD K "signed" "SymbolWriter.signed" (defArgs s_SymbolWriter_signed) (defBody s_SymbolWriter_signed) (defScope s_SymbolWriter_signed) [] [] f22 _ := ⟨⟨_, _, _, _, _, _, _, _, _, _, rfl, l22, c22, .inl ⟨rfl, rfl⟩, .inl rfl⟩, k22⟩
  have D_22 : MethX K CSymbolWriter "SymbolWriter.signed" "signed" s_SymbolWriter_signed ["self", "base", "value"] pats_SymbolWriter_signed := ⟨_, _, _, _, F22, ⟨a22, b22, k22⟩, (all_consQ (Bnd.all fun us ws vs zs l1 l2 r rz => by
      obtain ⟨u0, u1, u2, rfl⟩ := len3 (r.length.symm.trans l1)
      obtain rfl := len0 (rz.length.symm.trans l2)
      cases r with | cons r0 r =>
        cases r with | cons r1 r =>
          cases r with | cons r2 r =>
            cases r
            cases rz
            exact ⟨[u0, u1, u2], rfl, (.cons r0 (.cons r1 (.cons r2 .nil)))⟩) all_nilQ)⟩
  have F23 : FunD K "even" "SymbolWriter.even" (defArgs s_SymbolWriter_even) (defBody s_SymbolWriter_even) (defScope s_SymbolWriter_even) [] [] f23 _ := ⟨⟨_, _, _, _, _, _, _, _, _, _, rfl, l23, c23, .inl ⟨rfl, rfl⟩, .inl rfl⟩, k23⟩
  have D_23 : MethX K CSymbolWriter "SymbolWriter.even" "even" s_SymbolWriter_even ["self", "decision"] pats_SymbolWriter_even := ⟨_, _, _, _, F23, ⟨a23, b23, k23⟩, (all_consQ (Bnd.all fun us ws vs zs l1 l2 r rz => by
      obtain ⟨u0, u1, rfl⟩ := len2 (r.length.symm.trans l1)
      obtain rfl := len0 (rz.length.symm.trans l2)
      cases r with | cons r0 r =>
        cases r with | cons r1 r =>
          cases r
          cases rz
          exact ⟨[u0, u1], rfl, (.cons r0 (.cons r1 .nil))⟩) all_nilQ)⟩
  have F24 : FunD K "_law_put" "_law_put" (defArgs s__law_put) (defBody s__law_put) (defScope s__law_put) [] [] f24 _ := ⟨⟨_, _, _, _, _, _, _, _, _, _, rfl, l24, c24, .inl ⟨rfl, rfl⟩, .inl rfl⟩, k24⟩
  have D_24 : DefX K mg "_law_put" s__law_put ["writer", "symbol"] pats__law_put := ⟨_, _, _, _, F24, PySem.W.mg_of X G a24, (all_consQ (Bnd.all fun us ws vs zs l1 l2 r rz => by
      obtain ⟨u0, u1, rfl⟩ := len2 (r.length.symm.trans l1)
      obtain rfl := len0 (rz.length.symm.trans l2)
      cases r with | cons r0 r =>
        cases r with | cons r1 r =>
          cases r
          cases rz
          exact ⟨[u0, u1], rfl, (.cons r0 (.cons r1 .nil))⟩) all_nilQ)⟩
  have F25 : FunD K "_law_unary_items" "_law_unary_items" (defArgs s__law_unary_items) (defBody s__law_unary_items) (defScope s__law_unary_items) [] [] f25 _ := ⟨⟨_, _, _, _, _, _, _, _, _, _, rfl, l25, c25, .inl ⟨rfl, rfl⟩, .inl rfl⟩, k25⟩
  have D_25 : DefX K mg "_law_unary_items" s__law_unary_items ["base", "value", "most"] pats__law_unary_items := ⟨_, _, _, _, F25, PySem.W.mg_of X G a25, (all_consQ (Bnd.all fun us ws vs zs l1 l2 r rz => by
      obtain ⟨u0, u1, u2, rfl⟩ := len3 (r.length.symm.trans l1)
      obtain rfl := len0 (rz.length.symm.trans l2)
      cases r with | cons r0 r =>
        cases r with | cons r1 r =>
          cases r with | cons r2 r =>
            cases r
            cases rz
            exact ⟨[u0, u1, u2], rfl, (.cons r0 (.cons r1 (.cons r2 .nil)))⟩) all_nilQ)⟩
  have F26 : FunD K "_law_number_items" "_law_number_items" (defArgs s__law_number_items) (defBody s__law_number_items) (defScope s__law_number_items) [] [] f26 _ := ⟨⟨_, _, _, _, _, _, _, _, _, _, rfl, l26, c26, .inl ⟨rfl, rfl⟩, .inl rfl⟩, k26⟩
  have D_26 : DefX K mg "_law_number_items" s__law_number_items ["base", "value"] pats__law_number_items := ⟨_, _, _, _, F26, PySem.W.mg_of X G a26, (all_consQ (Bnd.all fun us ws vs zs l1 l2 r rz => by
      obtain ⟨u0, u1, rfl⟩ := len2 (r.length.symm.trans l1)
      obtain rfl := len0 (rz.length.symm.trans l2)
      cases r with | cons r0 r =>
        cases r with | cons r1 r =>
          cases r
          cases rz
          exact ⟨[u0, u1], rfl, (.cons r0 (.cons r1 .nil))⟩) all_nilQ)⟩
  have F27 : FunD K "_law_symbol_items" "_law_symbol_items" (defArgs s__law_symbol_items) (defBody s__law_symbol_items) (defScope s__law_symbol_items) [] [] f27 _ := ⟨⟨_, _, _, _, _, _, _, _, _, _, rfl, l27, c27, .inl ⟨rfl, rfl⟩, .inl rfl⟩, k27⟩
  have D_27 : DefX K mg "_law_symbol_items" s__law_symbol_items ["symbol"] pats__law_symbol_items := ⟨_, _, _, _, F27, PySem.W.mg_of X G a27, (all_consQ (Bnd.all fun us ws vs zs l1 l2 r rz => by
      obtain ⟨u0, rfl⟩ := len1 (r.length.symm.trans l1)
      obtain rfl := len0 (rz.length.symm.trans l2)
      cases r with | cons r0 r =>
        cases r
        cases rz
        exact ⟨[u0], rfl, (.cons r0 .nil)⟩) all_nilQ)⟩
  have F28 : FunD K "octets" "Encoder.octets" (defArgs s_Encoder_octets) (defBody s_Encoder_octets) (defScope s_Encoder_octets) [] [] f28 _ := ⟨⟨_, _, _, _, _, _, _, _, _, _, rfl, l28, c28, .inl ⟨rfl, rfl⟩, .inl rfl⟩, k28⟩
  have D_28 : MethX K CEncoder "Encoder.octets" "octets" s_Encoder_octets ["self"] pats_Encoder_octets := ⟨_, _, _, _, F28, ⟨a28, b28, k28⟩, (all_consQ (Bnd.all fun us ws vs zs l1 l2 r rz => by
      obtain ⟨u0, rfl⟩ := len1 (r.length.symm.trans l1)
      obtain rfl := len0 (rz.length.symm.trans l2)
      cases r with | cons r0 r =>
        cases r
        cases rz
        exact ⟨[u0], rfl, (.cons r0 .nil)⟩) all_nilQ)⟩
  have F29 : FunD K "probability" "Encoder.probability" (defArgs s_Encoder_probability) (defBody s_Encoder_probability) (defScope s_Encoder_probability) [] [] f29 _ := ⟨⟨_, _, _, _, _, _, _, _, _, _, rfl, l29, c29, .inl ⟨rfl, rfl⟩, .inl rfl⟩, k29⟩
  have D_29 : MethX K CEncoder "Encoder.probability" "probability" s_Encoder_probability ["self", "context"] pats_Encoder_probability := ⟨_, _, _, _, F29, ⟨a29, b29, k29⟩, (all_consQ (Bnd.all fun us ws vs zs l1 l2 r rz => by
      obtain ⟨u0, u1, rfl⟩ := len2 (r.length.symm.trans l1)
      obtain rfl := len0 (rz.length.symm.trans l2)
      cases r with | cons r0 r =>
        cases r with | cons r1 r =>
          cases r
          cases rz
          exact ⟨[u0, u1], rfl, (.cons r0 (.cons r1 .nil))⟩) all_nilQ)⟩
  have F30 : FunD K "law" "law" (defArgs s_law) (defBody s_law) (defScope s_law) [] [] _ _ := ⟨⟨_, _, _, _, _, _, _, _, _, _, rfl, l30, c30, .inl ⟨rfl, rfl⟩, .inl rfl⟩, k30⟩
  have R_Encoder___init__ : ∀ base : Heap, MakX l.prog w K mg base 1 "Encoder" (⟨CEncoder, CSymbolWriter, fa, XOutOfRange, fa⟩ : Ads).c_Encoder (sp_Encoder___init__ K ⟨CEncoder, CSymbolWriter, fa, XOutOfRange, fa⟩) pats_Encoder___init__ := fun base => ok_Encoder___init__ D_0 T 
  have R_SymbolWriter___init__ : ∀ base : Heap, MakX l.prog w K mg base 1 "SymbolWriter" (⟨CEncoder, CSymbolWriter, fa, XOutOfRange, fa⟩ : Ads).c_SymbolWriter (sp_SymbolWriter___init__ K ⟨CEncoder, CSymbolWriter, fa, XOutOfRange, fa⟩) pats_SymbolWriter___init__ := fun base => ok_SymbolWriter___init__ D_1 T 
  have R__law_moved : ∀ base : Heap, CalX l.prog w K mg base 1 "_law_moved" (sp__law_moved K ⟨CEncoder, CSymbolWriter, fa, XOutOfRange, fa⟩) pats__law_moved := fun base => ok__law_moved D_2 T 
  have R__law_code : ∀ base : Heap, CalX l.prog w K mg base 2 "_law_code" (sp__law_code K ⟨CEncoder, CSymbolWriter, fa, XOutOfRange, fa⟩) pats__law_code := fun base => ok__law_code D_3 T (R__law_moved base)
  have R__law_named : ∀ base : Heap, CalX l.prog w K mg base 1 "_law_named" (sp__law_named K ⟨CEncoder, CSymbolWriter, fa, XOutOfRange, fa⟩) pats__law_named := fun base => ok__law_named D_4 T 
  have R__law_draws : ∀ base : Heap, CalX l.prog w K mg base 1 "_law_draws" (sp__law_draws K ⟨CEncoder, CSymbolWriter, fa, XOutOfRange, fa⟩) pats__law_draws := fun base => ok__law_draws D_5 T 
  have R__law_symbol : ∀ base : Heap, CalX l.prog w K mg base 2 "_law_symbol" (sp__law_symbol K ⟨CEncoder, CSymbolWriter, fa, XOutOfRange, fa⟩) pats__law_symbol := fun base => ok__law_symbol D_6 T (R__law_draws base)
  have R__check_contexts : ∀ base : Heap, CalX l.prog w K mg base 1 "_check_contexts" (sp__check_contexts K ⟨CEncoder, CSymbolWriter, fa, XOutOfRange, fa⟩) pats__check_contexts := fun base => ok__check_contexts D_7 T 
  have R__check_context : ∀ base : Heap, CalX l.prog w K mg base 1 "_check_context" (sp__check_context K ⟨CEncoder, CSymbolWriter, fa, XOutOfRange, fa⟩) pats__check_context := fun base => ok__check_context D_8 T 
  have R__check_decision : ∀ base : Heap, CalX l.prog w K mg base 1 "_check_decision" (sp__check_decision K ⟨CEncoder, CSymbolWriter, fa, XOutOfRange, fa⟩) pats__check_decision := fun base => ok__check_decision D_9 T 
  have R__adapted : ∀ base : Heap, CalX l.prog w K mg base 1 "_adapted" (sp__adapted K ⟨CEncoder, CSymbolWriter, fa, XOutOfRange, fa⟩) pats__adapted := fun base => ok__adapted D_10 T 
  have R_Encoder__carry : ∀ base : Heap, MetX l.prog w K mg base 1 (⟨CEncoder, CSymbolWriter, fa, XOutOfRange, fa⟩ : Ads).c_Encoder "_carry" (sp_Encoder__carry K ⟨CEncoder, CSymbolWriter, fa, XOutOfRange, fa⟩) pats_Encoder__carry := fun base => ok_Encoder__carry D_11 T 
  have R_Encoder__narrow : ∀ base : Heap, MetX l.prog w K mg base 2 (⟨CEncoder, CSymbolWriter, fa, XOutOfRange, fa⟩ : Ads).c_Encoder "_narrow" (sp_Encoder__narrow K ⟨CEncoder, CSymbolWriter, fa, XOutOfRange, fa⟩) pats_Encoder__narrow := fun base => ok_Encoder__narrow D_12 T (R_Encoder__carry base)
  have R_Encoder_code : ∀ base : Heap, MetX l.prog w K mg base 3 (⟨CEncoder, CSymbolWriter, fa, XOutOfRange, fa⟩ : Ads).c_Encoder "code" (sp_Encoder_code K ⟨CEncoder, CSymbolWriter, fa, XOutOfRange, fa⟩) pats_Encoder_code := fun base => ok_Encoder_code D_13 T (R__check_context base) (R__check_decision base) (R_Encoder__narrow base) (R__adapted base)
  have R_SymbolWriter_flag : ∀ base : Heap, MetX l.prog w K mg base 4 (⟨CEncoder, CSymbolWriter, fa, XOutOfRange, fa⟩ : Ads).c_SymbolWriter "flag" (sp_SymbolWriter_flag K ⟨CEncoder, CSymbolWriter, fa, XOutOfRange, fa⟩) pats_SymbolWriter_flag := fun base => ok_SymbolWriter_flag D_14 T (R__check_contexts base) (R_Encoder_code base)
  have R__choice_digits : ∀ base : Heap, CalX l.prog w K mg base 2 "_choice_digits" (sp__choice_digits K ⟨CEncoder, CSymbolWriter, fa, XOutOfRange, fa⟩) pats__choice_digits := fun base => ok__choice_digits D_15 T (R__check_contexts base)
  have R_SymbolWriter_choice : ∀ base : Heap, MetX l.prog w K mg base 4 (⟨CEncoder, CSymbolWriter, fa, XOutOfRange, fa⟩ : Ads).c_SymbolWriter "choice" (sp_SymbolWriter_choice K ⟨CEncoder, CSymbolWriter, fa, XOutOfRange, fa⟩) pats_SymbolWriter_choice := fun base => ok_SymbolWriter_choice D_16 T (R__choice_digits base) (R_Encoder_code base)
  have R__check_unary : ∀ base : Heap, CalX l.prog w K mg base 2 "_check_unary" (sp__check_unary K ⟨CEncoder, CSymbolWriter, fa, XOutOfRange, fa⟩) pats__check_unary := fun base => ok__check_unary D_17 T (R__check_contexts base)
  have R_SymbolWriter_unary : ∀ base : Heap, MetX l.prog w K mg base 4 (⟨CEncoder, CSymbolWriter, fa, XOutOfRange, fa⟩ : Ads).c_SymbolWriter "unary" (sp_SymbolWriter_unary K ⟨CEncoder, CSymbolWriter, fa, XOutOfRange, fa⟩) pats_SymbolWriter_unary := fun base => ok_SymbolWriter_unary D_18 T (R__check_unary base) (R_Encoder_code base)
  have R__digit_context : ∀ base : Heap, CalX l.prog w K mg base 1 "_digit_context" (sp__digit_context K ⟨CEncoder, CSymbolWriter, fa, XOutOfRange, fa⟩) pats__digit_context := fun base => ok__digit_context D_19 T 
  have R_Encoder_code_even : ∀ base : Heap, MetX l.prog w K mg base 3 (⟨CEncoder, CSymbolWriter, fa, XOutOfRange, fa⟩ : Ads).c_Encoder "code_even" (sp_Encoder_code_even K ⟨CEncoder, CSymbolWriter, fa, XOutOfRange, fa⟩) pats_Encoder_code_even := fun base => ok_Encoder_code_even D_20 T (R__check_decision base) (R_Encoder__narrow base)
  have R_SymbolWriter_number : ∀ base : Heap, MetX l.prog w K mg base 5 (⟨CEncoder, CSymbolWriter, fa, XOutOfRange, fa⟩ : Ads).c_SymbolWriter "number" (sp_SymbolWriter_number K ⟨CEncoder, CSymbolWriter, fa, XOutOfRange, fa⟩) pats_SymbolWriter_number := fun base => ok_SymbolWriter_number D_21 T (R__check_contexts base) (R_SymbolWriter_unary base) (R_Encoder_code base) (R__digit_context base) (R_Encoder_code_even base)
  have R_SymbolWriter_signed : ∀ base : Heap, MetX l.prog w K mg base 6 (⟨CEncoder, CSymbolWriter, fa, XOutOfRange, fa⟩ : Ads).c_SymbolWriter "signed" (sp_SymbolWriter_signed K ⟨CEncoder, CSymbolWriter, fa, XOutOfRange, fa⟩) pats_SymbolWriter_signed := fun base => ok_SymbolWriter_signed D_22 T (R_SymbolWriter_number base) (R_Encoder_code_even base)
  have R_SymbolWriter_even : ∀ base : Heap, MetX l.prog w K mg base 4 (⟨CEncoder, CSymbolWriter, fa, XOutOfRange, fa⟩ : Ads).c_SymbolWriter "even" (sp_SymbolWriter_even K ⟨CEncoder, CSymbolWriter, fa, XOutOfRange, fa⟩) pats_SymbolWriter_even := fun base => ok_SymbolWriter_even D_23 T (R_Encoder_code_even base)
  have R__law_put : ∀ base : Heap, CalX l.prog w K mg base 7 "_law_put" (sp__law_put K ⟨CEncoder, CSymbolWriter, fa, XOutOfRange, fa⟩) pats__law_put := fun base => ok__law_put D_24 T (R_SymbolWriter_flag base) (R_SymbolWriter_choice base) (R_SymbolWriter_unary base) (R_SymbolWriter_number base) (R_SymbolWriter_signed base) (R_SymbolWriter_even base)
  have R__law_unary_items : ∀ base : Heap, CalX l.prog w K mg base 1 "_law_unary_items" (sp__law_unary_items K ⟨CEncoder, CSymbolWriter, fa, XOutOfRange, fa⟩) pats__law_unary_items := fun base => ok__law_unary_items D_25 T 
  have R__law_number_items : ∀ base : Heap, CalX l.prog w K mg base 2 "_law_number_items" (sp__law_number_items K ⟨CEncoder, CSymbolWriter, fa, XOutOfRange, fa⟩) pats__law_number_items := fun base => ok__law_number_items D_26 T (R__law_unary_items base)
  have R__law_symbol_items : ∀ base : Heap, CalX l.prog w K mg base 3 "_law_symbol_items" (sp__law_symbol_items K ⟨CEncoder, CSymbolWriter, fa, XOutOfRange, fa⟩) pats__law_symbol_items := fun base => ok__law_symbol_items D_27 T (R__law_unary_items base) (R__law_number_items base)
  have R_Encoder_octets : ∀ base : Heap, MetX l.prog w K mg base 1 (⟨CEncoder, CSymbolWriter, fa, XOutOfRange, fa⟩ : Ads).c_Encoder "octets" (sp_Encoder_octets K ⟨CEncoder, CSymbolWriter, fa, XOutOfRange, fa⟩) pats_Encoder_octets := fun base => ok_Encoder_octets D_28 T 
  have R_Encoder_probability : ∀ base : Heap, MetX l.prog w K mg base 2 (⟨CEncoder, CSymbolWriter, fa, XOutOfRange, fa⟩ : Ads).c_Encoder "probability" (sp_Encoder_probability K ⟨CEncoder, CSymbolWriter, fa, XOutOfRange, fa⟩) pats_Encoder_probability := fun base => ok_Encoder_probability D_29 T (R__check_context base)

  refine ⟨PySem.W.fnOf "law" "law" (defArgs s_law) (defBody s_law) (defScope s_law) .none kV30 dc30 pm30 an30 cd30 ct30, fun s v => .of_eq rfl, fun base _ _ => (ok_law (AD := ⟨CEncoder, CSymbolWriter, fa, XOutOfRange, fa⟩) F30 T (R__law_named base) (R__law_symbol base) (R_Encoder___init__ base) (R_SymbolWriter___init__ base) (R__law_put base) (R__law_symbol_items base) (R__law_code base) (R_Encoder_octets base) (R_Encoder_probability base)).imp ?_⟩
  rintro vs H Q E ⟨a, xs, rfl, hs, hl, q⟩
  exact ⟨a, xs, rfl, hs, by rw [law_true xs hl]; exact cW_mk rfl, q⟩
end Vx
open PySem PySem.W PyProof.Rows
set_option maxRecDepth 100000 in
set_option maxHeartbeats 0 in
theorem PySem.Challenge.cw_thaumatrope_k17_symbols_as_decisions_holds : PySem.Challenge.rw_thaumatrope_k17_symbols_as_decisions.Holds := by
  w_on; o_law; k_head; (case hw => w_witness2)
  k_fill
  refine Vx.walkG (l := PySem.Challenge.rw_thaumatrope_k17_symbols_as_decisions) (n := 63) (k := 8) (x := "script") rfl (by decide) rfl ⟨rfl, by decide, by decide⟩ (fun w h Y => PySem.W.kIn_of Y) ?F
  case F =>
    intro w mg fa h KX G hmg
    refine' Vx.all_mk KX G hmg ?wEncoder ?wSymbolWriter ?vOutOfRange ?a0 ?b0 ?d0 ?e0 ?l0 ?c0 ?k0 ?a1 ?b1 ?d1 ?e1 ?l1 ?c1 ?k1 ?a2 ?l2 ?c2 ?k2 ?a3 ?l3 ?c3 ?k3 ?a4 ?l4 ?c4 ?k4 ?a5 ?l5 ?c5 ?k5 ?a6 ?l6 ?c6 ?k6 ?a7 ?l7 ?c7 ?k7 ?a8 ?l8 ?c8 ?k8 ?a9 ?l9 ?c9 ?k9 ?a10 ?l10 ?c10 ?k10 ?a11 ?b11 ?l11 ?c11 ?k11 ?a12 ?b12 ?l12 ?c12 ?k12 ?a13 ?b13 ?l13 ?c13 ?k13 ?a14 ?b14 ?l14 ?c14 ?k14 ?a15 ?l15 ?c15 ?k15 ?a16 ?b16 ?l16 ?c16 ?k16 ?a17 ?l17 ?c17 ?k17 ?a18 ?b18 ?l18 ?c18 ?k18 ?a19 ?l19 ?c19 ?k19 ?a20 ?b20 ?l20 ?c20 ?k20 ?a21 ?b21 ?l21 ?c21 ?k21 ?a22 ?b22 ?l22 ?c22 ?k22 ?a23 ?b23 ?l23 ?c23 ?k23 ?a24 ?l24 ?c24 ?k24 ?a25 ?l25 ?c25 ?k25 ?a26 ?l26 ?c26 ?k26 ?a27 ?l27 ?c27 ?k27 ?a28 ?b28 ?l28 ?c28 ?k28 ?a29 ?b29 ?l29 ?c29 ?k29 ?a30 ?l30 ?c30 ?k30 ?z0 ?z1 ?z2 ?z3 ?z4 ?z5 ?z6 ?z7 ?z8 ?z9 ?z10 ?z11 ?z12 ?z13 ?z14 ?z15 ?z16 ?z17 ?z18 ?z19 ?z20 ?z21 ?z22 ?z23 ?z24 ?z25 ?z26 ?z27 ?z28 ?z29 ?z30 ?z31 ?z32 ?z33 ?yEncoder0 ?yEncoder1 ?yEncoder2 ?yEncoder3 ?xEncoder0 ?xEncoder1 ?xEncoder2 ?xEncoder3 ?ySymbolWriter0 ?ySymbolWriter1 ?ySymbolWriter2 ?ySymbolWriter3 ?xSymbolWriter0 ?exOutOfRange ?ekOutOfRange ?ebOutOfRange ?etOutOfRange
    (case wEncoder => k_is)
    (case wSymbolWriter => k_is)
    (case vOutOfRange => k_is)
    (case a0 => k_is)
    (case b0 => k_is)
    (case d0 => k_is)
    (case e0 => k_is)
    (case l0 => k_is)
    (case c0 => k_is)
    (case k0 => k_is)
    (case a1 => k_is)
    (case b1 => k_is)
    (case d1 => k_is)
    (case e1 => k_is)
    (case l1 => k_is)
    (case c1 => k_is)
    (case k1 => k_is)
    (case a2 => k_is)
    (case l2 => k_is)
    (case c2 => k_is)
    (case k2 => k_is)
    (case a3 => k_is)
    (case l3 => k_is)
    (case c3 => k_is)
    (case k3 => k_is)
    (case a4 => k_is)
    (case l4 => k_is)
    (case c4 => k_is)
    (case k4 => k_is)
    (case a5 => k_is)
    (case l5 => k_is)
    (case c5 => k_is)
    (case k5 => k_is)
    (case a6 => k_is)
    (case l6 => k_is)
    (case c6 => k_is)
    (case k6 => k_is)
    (case a7 => k_is)
    (case l7 => k_is)
    (case c7 => k_is)
    (case k7 => k_is)
    (case a8 => k_is)
    (case l8 => k_is)
    (case c8 => k_is)
    (case k8 => k_is)
    (case a9 => k_is)
    (case l9 => k_is)
    (case c9 => k_is)
    (case k9 => k_is)
    (case a10 => k_is)
    (case l10 => k_is)
    (case c10 => k_is)
    (case k10 => k_is)
    (case a11 => k_is)
    (case b11 => k_is)
    (case l11 => k_is)
    (case c11 => k_is)
    (case k11 => k_is)
    (case a12 => k_is)
    (case b12 => k_is)
    (case l12 => k_is)
    (case c12 => k_is)
    (case k12 => k_is)
    (case a13 => k_is)
    (case b13 => k_is)
    (case l13 => k_is)
    (case c13 => k_is)
    (case k13 => k_is)
    (case a14 => k_is)
    (case b14 => k_is)
    (case l14 => k_is)
    (case c14 => k_is)
    (case k14 => k_is)
    (case a15 => k_is)
    (case l15 => k_is)
    (case c15 => k_is)
    (case k15 => k_is)
    (case a16 => k_is)
    (case b16 => k_is)
    (case l16 => k_is)
    (case c16 => k_is)
    (case k16 => k_is)
    (case a17 => k_is)
    (case l17 => k_is)
    (case c17 => k_is)
    (case k17 => k_is)
    (case a18 => k_is)
    (case b18 => k_is)
    (case l18 => k_is)
    (case c18 => k_is)
    (case k18 => k_is)
    (case a19 => k_is)
    (case l19 => k_is)
    (case c19 => k_is)
    (case k19 => k_is)
    (case a20 => k_is)
    (case b20 => k_is)
    (case l20 => k_is)
    (case c20 => k_is)
    (case k20 => k_is)
    (case a21 => k_is)
    (case b21 => k_is)
    (case l21 => k_is)
    (case c21 => k_is)
    (case k21 => k_is)
    (case a22 => k_is)
    (case b22 => k_is)
    (case l22 => k_is)
    (case c22 => k_is)
    (case k22 => k_is)
    (case a23 => k_is)
    (case b23 => k_is)
    (case l23 => k_is)
    (case c23 => k_is)
    (case k23 => k_is)
    (case a24 => k_is)
    (case l24 => k_is)
    (case c24 => k_is)
    (case k24 => k_is)
    (case a25 => k_is)
    (case l25 => k_is)
    (case c25 => k_is)
    (case k25 => k_is)
    (case a26 => k_is)
    (case l26 => k_is)
    (case c26 => k_is)
    (case k26 => k_is)
    (case a27 => k_is)
    (case l27 => k_is)
    (case c27 => k_is)
    (case k27 => k_is)
    (case a28 => k_is)
    (case b28 => k_is)
    (case l28 => k_is)
    (case c28 => k_is)
    (case k28 => k_is)
    (case a29 => k_is)
    (case b29 => k_is)
    (case l29 => k_is)
    (case c29 => k_is)
    (case k29 => k_is)
    (case a30 => k_is)
    (case l30 => k_is)
    (case c30 => k_is)
    (case k30 => k_is)
    (case z0 => k_is)
    (case z1 => k_is)
    (case z2 => k_is)
    (case z3 => k_is)
    (case z4 => k_is)
    (case z5 => k_is)
    (case z6 => k_is)
    (case z7 => k_is)
    (case z8 => k_is)
    (case z9 => k_is)
    (case z10 => k_is)
    (case z11 => k_is)
    (case z12 => k_is)
    (case z13 => k_is)
    (case z14 => k_is)
    (case z15 => k_is)
    (case z16 => k_is)
    (case z17 => k_is)
    (case z18 => k_is)
    (case z19 => k_is)
    (case z20 => k_is)
    (case z21 => k_is)
    (case z22 => k_is)
    (case z23 => k_is)
    (case z24 => k_is)
    (case z25 => k_is)
    (case z26 => k_is)
    (case z27 => k_is)
    (case z28 => k_is)
    (case z29 => k_is)
    (case z30 => k_is)
    (case z31 => k_is)
    (case z32 => k_is)
    (case z33 => k_is)
    (case yEncoder0 => k_is)
    (case yEncoder1 => k_is)
    (case yEncoder2 => k_is)
    (case yEncoder3 => k_is)
    (case xEncoder0 => k_is)
    (case xEncoder1 => k_is)
    (case xEncoder2 => k_is)
    (case xEncoder3 => k_is)
    (case ySymbolWriter0 => k_is)
    (case ySymbolWriter1 => k_is)
    (case ySymbolWriter2 => k_is)
    (case ySymbolWriter3 => k_is)
    (case xSymbolWriter0 => k_is)
    (case exOutOfRange => k_exc)
    (case ekOutOfRange => k_is)
    (case ebOutOfRange => k_is)
    (case etOutOfRange => k_is)
