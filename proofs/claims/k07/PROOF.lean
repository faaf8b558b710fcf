import PyProof.Rows.All
import Wide.All
import OpenK.AllK
import Wide.FinOn
import HandS.ForMost
import HandS.Codes
import HandS.Steps
import HandS.IsInst
import HandS.Property
import HandS.Wide
import HandS.WideBits
import HandS.Exc
import HandS.Defaults
import HandS.ExcOwn
import HandS.TryOnly
import HandS.WordsExc
import HandS.ExcIs
import HandS.MakeKwOnly
import HandS.RaiseMore
import HandS.Style
import HandS.Zip
import HandS.Iter
import HandS.Walk
import HandS.More
import HandS.SetFor
import HandS.Strs
import PySem.Challenge.RW_thaumatrope_k07_any_octets_read_as_bits
set_option Elab.async false
set_option linter.all false
set_option maxRecDepth 100000
set_option maxHeartbeats 8000000
namespace Vx
open PySem PySem.Spec PyProof.Rows L2

/-! ### heaps -/
def SameX (m : Addr) (H H' : Hp) : Prop := ∀ b o, H b = some o → b ≠ m → H' b = some o
theorem gen_new {H H' : Hp} {p : Addr} {o : HO} (n : H p = none) (h : upd H p o = H') : Same H H' ∧ H' p = some o := by
  subst h
  exact ⟨fun b u e => by rw [upd_ne (ne_of_none e n)]; exact e, upd_same⟩
theorem gen_mut {H H' : Hp} {m : Addr} {o : HO} (h : upd H m o = H') : SameX m H H' ∧ H' m = some o := by
  subst h
  exact ⟨fun b u e n => by rw [upd_ne n]; exact e, upd_same⟩
theorem same_mut {H0 H H' : Hp} {m : Addr} (B : Same H0 H) (x : SameX m H H') (f : H0 m = none) : Same H0 H' :=
  fun b o e => x b o (B b o e) (ne_of_none e f)
theorem map_get {xs : List Int} {i : Nat} {x : V} (h : (xs.map V.int)[i]? = some x) : ∃ o, xs[i]? = some o ∧ x = .int o := by
  rw [List.getElem?_map] at h
  cases e : xs[i]? with
  | none => rw [e] at h; cases h
  | some z => rw [e] at h; exact ⟨z, rfl, (Option.some.inj h).symm⟩
theorem get_len {α : Type} {xs : List α} {i : Nat} {x : α} (h : xs[i]? = some x) : i < xs.length := (List.getElem?_eq_some_iff.mp h).1
theorem eq_int {Q : VK} {H : Hp} {a b : Int} (h : Q (.int a) H) (e : a = b) : Q (.int b) H := e ▸ h
theorem eq_bl {Q : VK} {H : Hp} {a b : Bool} (h : Q (.bl a) H) (e : a = b) : Q (.bl b) H := e ▸ h
theorem small {n : Nat} (h : n ≤ 1000000) : n < sizeLine := Nat.lt_of_le_of_lt h (by decide)
theorem smallE {n : Nat} (h : n ≤ 1000000) : n ≤ sizeLine := Nat.le_of_lt (small h)
theorem snoc_int {xs : List Int} {y : Int} {H : Hp} {p : Addr} (h : H p = some (.lst (xs.map V.int ++ [V.int y]))) : H p = some (.lst ((xs ++ [y]).map V.int)) := by
  rw [List.map_append]; exact h
theorem cat_int {xs ys : List Int} {H : Hp} {p : Addr} (h : H p = some (.lst (xs.map V.int ++ ys.map V.int))) : H p = some (.lst ((xs ++ ys).map V.int)) := by
  rw [List.map_append]; exact h
theorem cast_lst {xs ys : List Int} {H : Hp} {p : Addr} (h : H p = some (.lst (xs.map V.int))) (e : xs = ys) : H p = some (.lst (ys.map V.int)) := e ▸ h

/-! ### tests -/
theorem dT {p : Prop} [Decidable p] (h : decide p = true) : p := of_decide_eq_true h
theorem dF {p : Prop} [Decidable p] (h : ¬ decide p = true) : ¬ p := fun x => h (decide_eq_true x)
theorem iteD {p A B : Prop} [Decidable p] (h1 : p → A) (h2 : ¬ p → B) : if decide p = true then A else B := by
  by_cases h : p
  · rw [if_pos (decide_eq_true h)]; exact h1 h
  · rw [if_neg (fun x => h (of_decide_eq_true x))]; exact h2 h
theorem iteN {p A B : Prop} [Decidable p] (h1 : ¬ p → A) (h2 : p → B) : if (!decide p) = true then A else B := by
  by_cases h : p
  · rw [decide_eq_true h]; exact iteF (h2 h)
  · rw [decide_eq_false h]; exact iteT (h1 h)
theorem iteB {b : Bool} {A B : Prop} (h1 : b = true → A) (h2 : b = false → B) : if b = true then A else B := by
  cases b with
  | true => exact iteT (h1 rfl)
  | false => exact iteF (h2 rfl)
theorem iteBN {b : Bool} {A B : Prop} (h1 : b = false → A) (h2 : b = true → B) : if (!b) = true then A else B := by
  cases b with
  | true => exact iteF (h2 rfl)
  | false => exact iteT (h1 rfl)
theorem iteDT {p A B : Prop} [Decidable p] (h : p) (k : A) : if decide p = true then A else B := by
  rw [if_pos (decide_eq_true h)]; exact k
theorem iteDF {p A B : Prop} [Decidable p] (h : ¬ p) (k : B) : if decide p = true then A else B := by
  rw [if_neg (fun x => h (of_decide_eq_true x))]; exact k
theorem iteNT {p A B : Prop} [Decidable p] (h : ¬ p) (k : A) : if (!decide p) = true then A else B := iteN (fun _ => k) (fun x => (h x).elim)
theorem iteNF {p A B : Prop} [Decidable p] (h : p) (k : B) : if (!decide p) = true then A else B := iteN (fun x => (x h).elim) (fun _ => k)

/-! ### equality of lists of ints -/
theorem eqvAll_ints : ∀ xs ys : List Int, PyData.eqvAll (xs.map PyData.int) (ys.map PyData.int) = decide (xs = ys)
  | [], [] => by simp [PyData.eqvAll]
  | [], y :: ys => by simp [PyData.eqvAll]
  | x :: xs, [] => by simp [PyData.eqvAll]
  | x :: xs, y :: ys => by
    have ih := eqvAll_ints xs ys
    simp only [List.map_cons, PyData.eqvAll, PyData.eqv, ih]
    by_cases h : x = y <;> by_cases h2 : xs = ys <;> simp [h, h2]
end Vx

namespace Vx
open PySem PySem.Spec PyProof.Rows L2
section
variable {X : Cx}
def rEqLi (K : PySem.W.Frag) : R2 := fun x y H Q => ∃ (a b : Addr) (xs ys : List Int), x = .ref a ∧ y = .ref b ∧ SqL K H a (xs.map V.int) ∧ SqL K H b (ys.map V.int) ∧ Q (.bl (decide (xs = ys))) H
def rNeLi (K : PySem.W.Frag) : R2 := fun x y H Q => ∃ (a b : Addr) (xs ys : List Int), x = .ref a ∧ y = .ref b ∧ SqL K H a (xs.map V.int) ∧ SqL K H b (ys.map V.int) ∧ Q (.bl (!decide (xs = ys))) H
theorem dpAll_ints {K : PySem.W.Frag} {H : Hp} : ∀ xs : List Int, DpAll K H (xs.map V.int) (xs.map PyData.int)
  | [] => .nil
  | x :: xs => .cons (.int x) (dpAll_ints xs)
theorem dp_ints {K : PySem.W.Frag} {H : Hp} {a : Addr} {xs : List Int} (h : SqL K H a (xs.map V.int)) : Dp K H (.ref a) (.list (xs.map PyData.int)) := .lst h (dpAll_ints xs)
theorem canLay_ints : ∀ xs : List Int, PyData.canLayAll0 (xs.map PyData.int) = true
  | [] => by simp [PyData.canLayAll0]
  | x :: xs => by simp [PyData.canLayAll0, PyData.canLay0, canLay_ints xs]
theorem depth_ints : ∀ xs : List Int, PyData.depthAll (xs.map PyData.int) = 0
  | [] => by simp [PyData.depthAll]
  | x :: xs => by simp [PyData.depthAll, PyData.depth, depth_ints xs]
theorem shaped_ints (xs : List Int) : SeqAt.shaped (.list (xs.map PyData.int)) = true := by
  unfold SeqAt.shaped
  simp [PyData.canLay0, canLay_ints, PyData.depth, depth_ints]
theorem eqv_ints (xs ys : List Int) : PyData.eqv (.list (xs.map PyData.int)) (.list (ys.map PyData.int)) = decide (xs = ys) := by
  simp only [PyData.eqv]
  exact eqvAll_ints xs ys
theorem op_eqLi (hu : X.A.units + 64 < cLine) : OpR X (compareOp .Eq) (rEqLi X.K) := by
  intro pins s σ H x y v u Q I rx ry h
  obtain ⟨a, b, xs, ys, rfl, rfl, h1, h2, q⟩ := h
  exact op_eqD hu pins s σ H _ _ v u Q I rx ry ⟨_, _, dp_ints h1, dp_ints h2, shaped_ints xs, shaped_ints ys, by rw [eqv_ints]; exact q⟩
theorem op_neLi (hu : X.A.units + 64 < cLine) : OpR X (compareOp .NotEq) (rNeLi X.K) := by
  intro pins s σ H x y v u Q I rx ry h
  obtain ⟨a, b, xs, ys, rfl, rfl, h1, h2, q⟩ := h
  exact op_neD hu pins s σ H _ _ v u Q I rx ry ⟨_, _, dp_ints h1, dp_ints h2, shaped_ints xs, shaped_ints ys, by rw [eqv_ints]; exact q⟩

/-! ### items, slices, repetition, comprehensions of ints -/
def itI (xs : List Int) (i : Int) : Int := (atI xs i).getD 0
theorem atI_int {xs : List Int} {i : Int} (h : -(xs.length : Int) ≤ i ∧ i < xs.length) : atI (xs.map V.int) i = some (.int (itI xs i)) := by
  unfold itI atI
  rw [List.length_map]
  have hk : ∃ j, ixN xs.length i = some j ∧ j < xs.length := by
    unfold ixN
    by_cases h0 : 0 ≤ i
    · refine ⟨i.toNat, ?_, by omega⟩
      rw [if_pos h0, if_pos h.2]
    · refine ⟨(i + xs.length).toNat, ?_, by omega⟩
      rw [if_neg h0, if_pos h.1]
  obtain ⟨j, e, hj⟩ := hk
  rw [e]
  show (xs.map V.int)[j]? = some (V.int ((xs[j]?).getD 0))
  rw [List.getElem?_map, List.getElem?_eq_getElem hj] <;> rfl
def cutI (xs : List Int) (lo hi : Option Int) : List Int := (xs.drop (HT.sIx xs.length 0 lo)).take (HT.sIx xs.length xs.length hi - HT.sIx xs.length 0 lo)
theorem cut_int {xs : List Int} {lo hi : Option Int} {H : Hp} {p : Addr} (h : H p = some (.lst (cutV (xs.map V.int) lo hi))) : H p = some (.lst ((cutI xs lo hi).map V.int)) := by
  rw [h]
  unfold cutV cutI
  rw [List.length_map, List.map_take, List.map_drop]
def rep (xs : List Int) (k : Int) : List Int := (List.replicate k.toNat xs).flatten
theorem rep_int {xs : List Int} {k : Int} {H : Hp} {p : Addr} (h : H p = some (.lst (List.replicate k.toNat (xs.map V.int)).flatten)) : H p = some (.lst ((rep xs k).map V.int)) := by
  rw [h]
  unfold rep
  rw [List.map_flatten, List.map_replicate]
theorem divW_lit {i j : Int} (h : 0 < j) (h2 : j.natAbs.log2 < 9000) : CDivW i j := ⟨h, h2⟩
theorem divW_small {i j : Int} (h : 0 < j) (h2 : j < 2 ^ 128) : CDivW i j := wide_div h (show j.natAbs < 2 ^ 128 by omega) (by decide) (by decide)
theorem comp_list {xs : List Int} {i : Nat} {x y : Int} {f : Int → Int} {H : Hp} {D : Addr} (hi : xs[i]? = some x) (h : H D = some (.lst (((xs.take i).map f).map V.int ++ [V.int y]))) (e : f x = y) : H D = some (.lst (((xs.take (i + 1)).map f).map V.int)) := by
  rw [h, ← e, List.take_succ, hi, List.map_append, List.map_append] <;> rfl
theorem comp_done {xs : List Int} {f : Int → Int} {H : Hp} {D : Addr} (h : H D = some (.lst (((xs.take (xs.map V.int).length).map f).map V.int))) : H D = some (.lst ((xs.map f).map V.int)) := by
  rw [List.length_map, List.take_length] at h
  exact h
theorem comp_range {i : Nat} {y : Int} {f : Nat → Int} {H : Hp} {D : Addr} (h : H D = some (.lst (((List.range i).map f).map V.int ++ [V.int y]))) (e : f i = y) : H D = some (.lst (((List.range (i + 1)).map f).map V.int)) := by
  rw [h, ← e, List.range_succ, List.map_append, List.map_append] <;> rfl
theorem iteBT {b : Bool} {A B : Prop} (h : b = true) (k : A) : if b = true then A else B := by rw [if_pos h]; exact k
theorem iteBF {b : Bool} {A B : Prop} (h : b = false) (k : B) : if b = true then A else B := by rw [if_neg (by rw [h]; decide)]; exact k
theorem take_succ_get {α : Type} {xs : List α} {i : Nat} {x : α} (hi : xs[i]? = some x) : xs.take (i + 1) = xs.take i ++ [x] := by rw [List.take_succ, hi] <;> rfl
end

/-! ### defs of the module, as callers see them -/
section
variable {P : Program} {w : World} {K : PySem.W.Frag} {mg : Str → Option Value} {base : Heap}
structure DefIn (K : PySem.W.Frag) (mg : Str → Option Value) (x : Str) (st : Stmt) (ps : List Str) : Prop where
  ex : ∃ (f : Addr) (fd : FuncData), Fun K x x st f fd ∧ mg x = some (.ref f) ∧ Binds K fd ps []
structure Cal (P : Program) (w : World) (K : PySem.W.Frag) (mg : Str → Option Value) (base : Heap) (k : Nat) (x : Str) (sp : Sp) : Prop where
  ex : ∃ (f : Addr) (fd : FuncData) (ps : List Str), FnOk P w K mg base CX0 k f fd ps sp ∧ mg x = some (.ref f) ∧ PySem.W.keepIn K (.ref f) = true ∧ Binds K fd ps []
theorem DefIn.ok {x : Str} {st : Stmt} {N ps : List Str} {k : Nat} {sp : Sp} (D : DefIn K mg x st ps) (S : FnScope N ps (defScope st)) (len : ∀ vs H Q E, sp vs H Q E → vs.length = ps.length)
    (hbody : ∀ (f : Addr) (cdv : Value) (A : Around) (outer : List Env) (s : Shared) (H : Hp) (vs : List V) (Q : VK) (E : XK), Room k (A.deeper (envOfC x (defScope st) s.heap.objs.size f cdv)) → sp vs H Q E →
      ∃ t, PSs (cxOf CX0 P w K mg base N x (defScope st) f cdv A outer s H E).nox (defBody st) t ∧ t { nx := fun _ H' => Q .non H', rt := Q } (start N vs) H) : Cal P w K mg base (k + 1) x sp := by
  obtain ⟨f, fd, F, hm, b⟩ := D.ex
  exact ⟨f, fd, ps, F.ok S len (fun cdv A outer s H vs Q E hr h => hbody f cdv A outer s H vs Q E hr h), hm, F.kp, b⟩
end
section
variable {X : Cx} {k j : Nat} {x : Str} {sp : Sp} {p pos : Pos} {e : Expr} {es : List Expr} {t : TA}
theorem vx_call (c : Cal X.prog X.w X.K X.mg X.base k x sp) (hr : Room j X.A) (hk : k ≤ j) (hg : Gl X x) (ha : PA X (e :: es) t)
    (hdb : (x == ("__debug__" : Str)) = false := by decide) (he : starEach (e :: es) X.env = (false, eval e X.env) :: starEach es X.env := by rfl) (hpl : (backTo pos (starEach es X.env)).any (·.1) = false := by rfl) :
    PE X (.Call (.Name x p) (e :: es) [] pos) (tCall sp [] E0 t) := by
  obtain ⟨f, fd, ps, F, hm, kp, b⟩ := c.ex
  exact pe_call F (hr.mono hk) hg hm kp b .nil pass0 ha hdb he hpl
end
end Vx

namespace Vx
open PySem PySem.Spec PyProof.Rows L2
section
variable {σ : L2.St} {H : Hp} {ta tb : TE} {x y z : V} {t : TT}
theorem vv_and {a b : Bool} (h1 : Val ta σ H (.bl a)) (h2 : Val tb σ H (.bl b)) : Val (tAndV ta tb) σ H (.bl (a && b)) := fun Q q => h1 _ ⟨a, rfl, by
  cases a with
  | true => exact iteT (h2 Q q)
  | false => exact iteF q⟩
theorem vv_or {a b : Bool} (h1 : Val ta σ H (.bl a)) (h2 : Val tb σ H (.bl b)) : Val (tOrV ta tb) σ H (.bl (a || b)) := fun Q q => h1 _ ⟨a, rfl, by
  cases a with
  | true => exact iteT q
  | false => exact iteF (h2 Q q)⟩
theorem vv_not {a : Bool} (h1 : Val ta σ H (.bl a)) : Val (tNotV ta) σ H (.bl (!a)) := fun Q q => h1 _ ⟨a, rfl, q⟩
theorem vv_un {r : V → Hp → VK → Prop} (ha : Val ta σ H x) (hr : ∀ Q : VK, Q z H → r x H Q) : Val (tUn r ta) σ H z := fun Q q => ha _ (hr Q q)
theorem vv_cmp {p : Int → Int → Bool} (ha : Val ta σ H x) (hb : Val tb σ H y) (hr : ∀ Q : VK, Q z H → ∃ i j, x = .int i ∧ y = .int j ∧ Q (.bl (p i j)) H) : Val (tCmp p ta tb) σ H z := fun Q q => ha _ (hb _ (hr Q q))
theorem vv_call1 {r : List V → Hp → VK → Prop} (ha : Val ta σ H x) (hr : ∀ Q : VK, Q z H → r [x] H Q) : Val (tCB r (tCons ta tNil)) σ H z := fun Q q => ha _ (hr Q q)
theorem vt_cmp {b : Bool} (h : Val ta σ H (.bl b)) : Ans (tB ta) σ H b := fun Q q => h _ ⟨b, rfl, q⟩
theorem vt_val {b : Bool} (h : Val ta σ H (.bl b)) : Ans (tB ta) σ H b := fun Q q => h _ ⟨b, rfl, q⟩
theorem vt_int {i : Int} {K : PySem.W.Frag} (h : Val ta σ H (.int i)) : Ans (fun σ H Q => ta σ H fun x H' => ∃ k, TruV K x H' k ∧ Q k H') σ H (i != 0) := fun Q q => h _ ⟨_, rfl, q⟩
theorem vv_if {p : Prop} [Decidable p] {a b : Int} (ht : Ans t σ H (decide p)) (hx : Val ta σ H (.int a)) (hy : Val tb σ H (.int b)) : Val (tIf t ta tb) σ H (.int (if p then a else b)) := fun Q q => ht _ (by
  by_cases h : p
  · rw [if_pos h] at q; exact iteDT h (hx Q q)
  · rw [if_neg h] at q; exact iteDF h (hy Q q))
theorem vv_ifb {c : Bool} {a b : Int} (ht : Ans t σ H c) (hx : Val ta σ H (.int a)) (hy : Val tb σ H (.int b)) : Val (tIf t ta tb) σ H (.int (if c = true then a else b)) := fun Q q => ht _ (by
  cases c with
  | true => exact iteT (hx Q q)
  | false => exact iteF (hy Q q))
end
end Vx

namespace Vx
open PySem PySem.Spec PyProof.Rows L2
def rLenLi (K : PySem.W.Frag) : List V → Hp → VK → Prop := fun xs H Q => ∃ (p : Addr) (ns : List Int), xs = [.ref p] ∧ SqL K H p (ns.map V.int) ∧ Q (.int (ns.length : Int)) H
theorem call_lenLi {X : Cx} : CallR X (.builtin "len") (rLenLi X.K) := by
  intro pins s σ H xs us Q I r h
  obtain ⟨p, ns, rfl, hs, q⟩ := h
  exact call_len_seq pins s σ H _ us Q I r ⟨p, _, rfl, Or.inl hs, by rw [List.length_map]; exact q⟩
end Vx

namespace Vx
open PySem PySem.Spec PyProof.Rows L2
section
variable {X : Cx} {K : PySem.W.Frag}
theorem ix_listK (hK : X.K = K := by rfl) : IxR X (rIxL K) := hK ▸ ix_list
theorem sl_listK (hK : X.K = K := by rfl) : SlR X (rSlL K) := hK ▸ sl_list
theorem call_lenLiK (hK : X.K = K := by rfl) : CallR X (.builtin "len") (rLenLi K) := hK ▸ call_lenLi
theorem op_eqLiK (hu : X.A.units + 64 < cLine) (hK : X.K = K := by rfl) : OpR X (compareOp .Eq) (rEqLi K) := hK ▸ op_eqLi hu
theorem op_neLiK (hu : X.A.units + 64 < cLine) (hK : X.K = K := by rfl) : OpR X (compareOp .NotEq) (rNeLi K) := hK ▸ op_neLi hu
theorem pi_listK {tg l : Expr} {tl : TE} (hl : PE X l tl) (hK : X.K = K := by rfl) : PI X tg l (iList K tl) := hK ▸ pi_list hl
theorem cr_sumK (hc : X.calm = true) (hK : X.K = K := by rfl) : CallR X (.builtin "sum") (rSum K) := hK ▸ cr_sum hc
theorem cr_maxK (hc : X.calm = true) (hK : X.K = K := by rfl) : CallR X (.builtin "max") (rMax K) := hK ▸ cr_max hc
theorem cr_minK (hc : X.calm = true) (hK : X.K = K := by rfl) : CallR X (.builtin "min") (rMin K) := hK ▸ cr_min hc
end
end Vx

namespace Vx
open PySem PySem.Spec PyProof.Rows L2
theorem tyes_go {σ : L2.St} {H : Hp} {f g : Hp → Prop} (h : f H) : tYes σ H (fun b H3 => if b = true then f H3 else g H3) := by
  show if true = true then f H else g H
  exact iteT h
end Vx

/-! # second part: data of any depth, the stable heap G, the owned addresses O -/
namespace Vx
open PySem PySem.Spec PyProof.Rows L2
mutual
inductive Rp (H : Hp) : V → PyData → Prop
  | non : Rp H .non .none
  | bl (b : Bool) : Rp H (.bl b) (.bool b)
  | int (i : Int) : Rp H (.int i) (.int i)
  | str (x : Str) : Rp H (.str x) (.str x)
  | lst {a : Addr} {xs : List V} {ds : List PyData} : H a = some (.lst xs) → RpAll H xs ds → Rp H (.ref a) (.list ds)
  | tup {a : Addr} {xs : List V} {ds : List PyData} : H a = some (.tup xs) → RpAll H xs ds → Rp H (.ref a) (.tuple ds)
inductive RpAll (H : Hp) : List V → List PyData → Prop
  | nil : RpAll H [] []
  | cons {v : V} {vs : List V} {d : PyData} {ds : List PyData} : Rp H v d → RpAll H vs ds → RpAll H (v :: vs) (d :: ds)
end
mutual
theorem Rp.mono {H H' : Hp} (e : Same H H') : ∀ {v : V} {d : PyData}, Rp H v d → Rp H' v d
  | _, _, .non => .non
  | _, _, .bl b => .bl b
  | _, _, .int i => .int i
  | _, _, .str x => .str x
  | _, _, .lst h r => .lst (e _ _ h) (RpAll.mono e r)
  | _, _, .tup h r => .tup (e _ _ h) (RpAll.mono e r)
theorem RpAll.mono {H H' : Hp} (e : Same H H') : ∀ {vs : List V} {ds : List PyData}, RpAll H vs ds → RpAll H' vs ds
  | _, _, .nil => .nil
  | _, _, .cons a b => .cons (Rp.mono e a) (RpAll.mono e b)
end
mutual
theorem Rp.dp {K : PySem.W.Frag} {H : Hp} : ∀ {v : V} {d : PyData}, Rp H v d → Dp K H v d
  | _, _, .non => .non
  | _, _, .bl b => .bl b
  | _, _, .int i => .int i
  | _, _, .str x => .str x
  | _, _, .lst h r => .lst (SqL.of h) (RpAll.dp r)
  | _, _, .tup h r => .tup (SqT.of h) (RpAll.dp r)
theorem RpAll.dp {K : PySem.W.Frag} {H : Hp} : ∀ {vs : List V} {ds : List PyData}, RpAll H vs ds → DpAll K H vs ds
  | _, _, .nil => .nil
  | _, _, .cons a b => .cons (Rp.dp a) (RpAll.dp b)
end
theorem RpAll.append {H : Hp} : ∀ {xs ys : List V} {ds es : List PyData}, RpAll H xs ds → RpAll H ys es → RpAll H (xs ++ ys) (ds ++ es)
  | _, _, _, _, .nil, s => s
  | _, _, _, _, .cons r t, s => .cons r (RpAll.append t s)
theorem RpAll.ints {H : Hp} : ∀ xs : List Int, RpAll H (xs.map V.int) (xs.map PyData.int)
  | [] => .nil
  | x :: xs => .cons (.int x) (RpAll.ints xs)
theorem RpAll.bls {H : Hp} : ∀ xs : List Bool, RpAll H (xs.map V.bl) (xs.map PyData.bool)
  | [] => .nil
  | x :: xs => .cons (.bl x) (RpAll.bls xs)
theorem RpAll.one {H : Hp} {v : V} {d : PyData} (h : Rp H v d) : RpAll H [v] [d] := .cons h .nil
theorem RpAll.len {H : Hp} : ∀ {vs : List V} {ds : List PyData}, RpAll H vs ds → vs.length = ds.length
  | _, _, .nil => rfl
  | _, _, .cons _ t => by rw [List.length_cons, List.length_cons, RpAll.len t]
theorem RpAll.at {H : Hp} : ∀ {vs : List V} {ds : List PyData} {i : Nat} {v : V}, RpAll H vs ds → vs[i]? = some v → ∃ d, ds[i]? = some d ∧ Rp H v d
  | _, _, _, _, .nil, h => by simp at h
  | _, _, 0, _, .cons r _, h => by
    simp at h
    subst h
    exact ⟨_, rfl, r⟩
  | _, _, i + 1, _, .cons _ t, h => by
    obtain ⟨d, h1, h2⟩ := RpAll.at (i := i) t (by simpa using h)
    exact ⟨d, by simpa using h1, h2⟩
theorem RpAll.at' {H : Hp} : ∀ {vs : List V} {ds : List PyData} {i : Nat} {d : PyData}, RpAll H vs ds → ds[i]? = some d → ∃ v, vs[i]? = some v ∧ Rp H v d
  | _, _, _, _, .nil, h => by simp at h
  | _, _, 0, _, .cons r _, h => by
    simp at h
    subst h
    exact ⟨_, rfl, r⟩
  | _, _, i + 1, _, .cons _ t, h => by
    obtain ⟨v, h1, h2⟩ := RpAll.at' (i := i) t (by simpa using h)
    exact ⟨v, by simpa using h1, h2⟩
theorem RpAll.take {H : Hp} : ∀ (n : Nat) {vs : List V} {ds : List PyData}, RpAll H vs ds → RpAll H (vs.take n) (ds.take n)
  | 0, _, _, _ => by simpa using RpAll.nil
  | n + 1, _, _, .nil => by simpa using RpAll.nil
  | n + 1, _, _, .cons r t => .cons r (RpAll.take n t)
theorem RpAll.drop {H : Hp} : ∀ (n : Nat) {vs : List V} {ds : List PyData}, RpAll H vs ds → RpAll H (vs.drop n) (ds.drop n)
  | 0, _, _, r => r
  | n + 1, _, _, .nil => by simpa using RpAll.nil
  | n + 1, _, _, .cons r t => RpAll.drop n t
theorem RpAll.set {H : Hp} {v : V} {d : PyData} (h : Rp H v d) : ∀ (n : Nat) {vs : List V} {ds : List PyData}, RpAll H vs ds → RpAll H (vs.set n v) (ds.set n d)
  | _, _, _, .nil => .nil
  | 0, _, _, .cons _ t => .cons h t
  | n + 1, _, _, .cons r t => .cons r (RpAll.set h n t)
theorem RpAll.rep {H : Hp} {vs : List V} {ds : List PyData} (h : RpAll H vs ds) : ∀ n : Nat, RpAll H (List.replicate n vs).flatten (List.replicate n ds).flatten
  | 0 => by simpa using RpAll.nil
  | n + 1 => by
    rw [List.replicate_succ, List.flatten_cons, List.replicate_succ, List.flatten_cons]
    exact RpAll.append h (RpAll.rep h n)
theorem RpAll.get {α : Type} {f : α → PyData} {H : Hp} {vs : List V} {xs : List α} {i : Nat} {v : V} (r : RpAll H vs (xs.map f)) (h : vs[i]? = some v) : ∃ x, xs[i]? = some x ∧ Rp H v (f x) := by
  obtain ⟨d, h1, h2⟩ := RpAll.at r h
  rw [List.getElem?_map] at h1
  cases e : xs[i]? with
  | none => rw [e] at h1; cases h1
  | some x =>
    rw [e] at h1
    have : f x = d := Option.some.inj h1
    exact ⟨x, rfl, this ▸ h2⟩
/-- the item at an index, data -/
theorem RpAll.ix {α : Type} {f : α → PyData} {H : Hp} {vs : List V} {xs : List α} {k : Int} (r : RpAll H vs (xs.map f)) (h : -(xs.length : Int) ≤ k ∧ k < xs.length) : ∃ v x, atI vs k = some v ∧ atI xs k = some x ∧ Rp H v (f x) := by
  have hl : vs.length = xs.length := by rw [r.len, List.length_map]
  have hk : ∃ j, ixN xs.length k = some j ∧ j < xs.length := by
    unfold ixN
    by_cases h0 : 0 ≤ k
    · refine ⟨k.toNat, ?_, by omega⟩
      rw [if_pos h0, if_pos h.2]
    · refine ⟨(k + xs.length).toNat, ?_, by omega⟩
      rw [if_neg h0, if_pos h.1]
  obtain ⟨j, e, hj⟩ := hk
  have hx := List.getElem?_eq_getElem hj
  obtain ⟨v, h1, h2⟩ := RpAll.at' (i := j) (d := f xs[j]) r (by rw [List.getElem?_map, hx] <;> rfl)
  refine ⟨v, xs[j], ?_, ?_, h2⟩
  · unfold atI
    rw [hl, e]
    exact h1
  · unfold atI
    rw [e]
    exact hx

/-! ### types -/
def encL {α : Type} (f : α → PyData) (xs : List α) : PyData := .list (xs.map f)
def encT2 {α β : Type} (f : α → PyData) (g : β → PyData) (p : α × β) : PyData := .tuple [f p.1, g p.2]
def encT3 {α β γ : Type} (f : α → PyData) (g : β → PyData) (h : γ → PyData) (p : α × β × γ) : PyData := .tuple [f p.1, g p.2.1, h p.2.2]
def encT4 {α β γ δ : Type} (f : α → PyData) (g : β → PyData) (h : γ → PyData) (i : δ → PyData) (p : α × β × γ × δ) : PyData := .tuple [f p.1, g p.2.1, h p.2.2.1, i p.2.2.2]
structure EncOk {α : Type} [DecidableEq α] (n : Nat) (f : α → PyData) : Prop where
  lay : ∀ x, PyData.canLay0 (f x) = true
  dep : ∀ x, PyData.depth (f x) ≤ n
  eqv : ∀ x y, PyData.eqv (f x) (f y) = decide (x = y)
theorem encOk_int : EncOk 0 PyData.int := ⟨fun _ => by simp [PyData.canLay0], fun _ => by simp [PyData.depth], fun x y => by simp [PyData.eqv]; by_cases h : x = y <;> simp [h]⟩
theorem encOk_bool : EncOk 0 PyData.bool := ⟨fun _ => by simp [PyData.canLay0], fun _ => by simp [PyData.depth], fun x y => by cases x <;> cases y <;> simp [PyData.eqv]⟩
section
variable {α β γ δ : Type} [DecidableEq α] [DecidableEq β] [DecidableEq γ] [DecidableEq δ] {n m l o : Nat} {f : α → PyData} {g : β → PyData} {h : γ → PyData} {i : δ → PyData}
theorem lay_map (ok : EncOk n f) : ∀ xs : List α, PyData.canLayAll0 (xs.map f) = true
  | [] => by simp [PyData.canLayAll0]
  | x :: xs => by simp [PyData.canLayAll0, ok.lay x, lay_map ok xs]
theorem dep_map (ok : EncOk n f) : ∀ xs : List α, PyData.depthAll (xs.map f) ≤ n
  | [] => by simp [PyData.depthAll]
  | x :: xs => by
    have h1 := ok.dep x
    have h2 := dep_map ok xs
    simp only [List.map_cons, PyData.depthAll]
    omega
theorem eqv_map (ok : EncOk n f) : ∀ xs ys : List α, PyData.eqvAll (xs.map f) (ys.map f) = decide (xs = ys)
  | [], [] => by simp [PyData.eqvAll]
  | [], y :: ys => by simp [PyData.eqvAll]
  | x :: xs, [] => by simp [PyData.eqvAll]
  | x :: xs, y :: ys => by
    have ih := eqv_map ok xs ys
    simp only [List.map_cons, PyData.eqvAll, ok.eqv, ih]
    by_cases h : x = y <;> by_cases h2 : xs = ys <;> simp [h, h2]
theorem encOk_L (ok : EncOk n f) : EncOk (n + 1) (encL f) := ⟨fun xs => by simp [encL, PyData.canLay0, lay_map ok], fun xs => by
  have := dep_map ok xs
  simp only [encL, PyData.depth]
  omega, fun xs ys => by simp only [encL, PyData.eqv]; exact eqv_map ok xs ys⟩
theorem encOk_T2 (ok : EncOk n f) (ok2 : EncOk m g) : EncOk (max n m + 1) (encT2 f g) := ⟨fun x => by simp [encT2, PyData.canLay0, PyData.canLayAll0, ok.lay, ok2.lay], fun x => by
  have h1 := ok.dep x.1
  have h2 := ok2.dep x.2
  simp only [encT2, PyData.depth, PyData.depthAll]
  omega, fun x y => by
  obtain ⟨a, b⟩ := x
  obtain ⟨c, d⟩ := y
  simp only [encT2, PyData.eqv, PyData.eqvAll, ok.eqv, ok2.eqv, Prod.mk.injEq]
  by_cases h1 : a = c <;> by_cases h2 : b = d <;> simp [h1, h2]⟩
theorem encOk_T3 (ok : EncOk n f) (ok2 : EncOk m g) (ok3 : EncOk l h) : EncOk (max n (max m l) + 1) (encT3 f g h) := ⟨fun x => by simp [encT3, PyData.canLay0, PyData.canLayAll0, ok.lay, ok2.lay, ok3.lay], fun x => by
  have h1 := ok.dep x.1
  have h2 := ok2.dep x.2.1
  have h3 := ok3.dep x.2.2
  simp only [encT3, PyData.depth, PyData.depthAll]
  omega, fun x y => by
  obtain ⟨a, b, e⟩ := x
  obtain ⟨c, d, e'⟩ := y
  simp only [encT3, PyData.eqv, PyData.eqvAll, ok.eqv, ok2.eqv, ok3.eqv, Prod.mk.injEq]
  by_cases h1 : a = c <;> by_cases h2 : b = d <;> by_cases h3 : e = e' <;> simp [h1, h2, h3]⟩
theorem encOk_T4 (ok : EncOk n f) (ok2 : EncOk m g) (ok3 : EncOk l h) (ok4 : EncOk o i) : EncOk (max n (max m (max l o)) + 1) (encT4 f g h i) := ⟨fun x => by simp [encT4, PyData.canLay0, PyData.canLayAll0, ok.lay, ok2.lay, ok3.lay, ok4.lay], fun x => by
  have h1 := ok.dep x.1
  have h2 := ok2.dep x.2.1
  have h3 := ok3.dep x.2.2.1
  have h4 := ok4.dep x.2.2.2
  simp only [encT4, PyData.depth, PyData.depthAll]
  omega, fun x y => by
  obtain ⟨a, b, e, u⟩ := x
  obtain ⟨c, d, e', u'⟩ := y
  simp only [encT4, PyData.eqv, PyData.eqvAll, ok.eqv, ok2.eqv, ok3.eqv, ok4.eqv, Prod.mk.injEq]
  by_cases h1 : a = c <;> by_cases h2 : b = d <;> by_cases h3 : e = e' <;> by_cases h4 : u = u' <;> simp [h1, h2, h3, h4]⟩
end
section
variable {X : Cx} {α : Type} [DecidableEq α] {n : Nat} {f : α → PyData}
def rEqT (f : α → PyData) : R2 := fun x y H Q => ∃ (a b : α), Rp H x (f a) ∧ Rp H y (f b) ∧ Q (.bl (decide (a = b))) H
def rNeT (f : α → PyData) : R2 := fun x y H Q => ∃ (a b : α), Rp H x (f a) ∧ Rp H y (f b) ∧ Q (.bl (!decide (a = b))) H
theorem shaped_of (ok : EncOk n f) (hn : n ≤ 64) (a : α) : SeqAt.shaped (f a) = true := by
  unfold SeqAt.shaped
  have h := ok.dep a
  rw [ok.lay]
  simp
  omega
theorem op_eqT (ok : EncOk n f) (hu : X.A.units + 64 < cLine) (hn : n ≤ 64 := by decide) : OpR X (compareOp .Eq) (rEqT f) := by
  intro pins s σ H x y v u Q I rx ry h
  obtain ⟨a, b, h1, h2, q⟩ := h
  exact op_eqD hu pins s σ H _ _ v u Q I rx ry ⟨_, _, h1.dp, h2.dp, shaped_of ok hn a, shaped_of ok hn b, by rw [ok.eqv]; exact q⟩
theorem op_neT (ok : EncOk n f) (hu : X.A.units + 64 < cLine) (hn : n ≤ 64 := by decide) : OpR X (compareOp .NotEq) (rNeT f) := by
  intro pins s σ H x y v u Q I rx ry h
  obtain ⟨a, b, h1, h2, q⟩ := h
  exact op_neD hu pins s σ H _ _ v u Q I rx ry ⟨_, _, h1.dp, h2.dp, shaped_of ok hn a, shaped_of ok hn b, by rw [ok.eqv]; exact q⟩
end
section
variable {H : Hp} {v : V} {α β γ δ : Type} {f : α → PyData} {g : β → PyData} {h : γ → PyData} {i : δ → PyData}
theorem rp_int {x : Int} (r : Rp H v (.int x)) : v = .int x := by cases r; rfl
theorem rp_bool {x : Bool} (r : Rp H v (.bool x)) : v = .bl x := by cases r; rfl
theorem rp_str {x : Str} (r : Rp H v (.str x)) : v = .str x := by cases r; rfl
theorem rp_list {xs : List α} (r : Rp H v (encL f xs)) : ∃ a vs, v = .ref a ∧ H a = some (.lst vs) ∧ RpAll H vs (xs.map f) := by
  unfold encL at r
  cases r with
  | lst h1 h2 => exact ⟨_, _, rfl, h1, h2⟩
theorem rpAll_ints : ∀ {vs : List V} {xs : List Int}, RpAll H vs (xs.map PyData.int) → vs = xs.map V.int
  | _, [], .nil => rfl
  | _, x :: xs, .cons r t => by rw [rp_int r, rpAll_ints t] <;> rfl
theorem rp_ints {xs : List Int} (r : Rp H v (encL PyData.int xs)) : ∃ a, v = .ref a ∧ H a = some (.lst (xs.map V.int)) := by
  obtain ⟨a, vs, e, h1, h2⟩ := rp_list r
  rw [rpAll_ints h2] at h1
  exact ⟨a, e, h1⟩
theorem rp_tup2 {x : α × β} (r : Rp H v (encT2 f g x)) : ∃ a v1 v2, v = .ref a ∧ H a = some (.tup [v1, v2]) ∧ Rp H v1 (f x.1) ∧ Rp H v2 (g x.2) := by
  unfold encT2 at r
  cases r with
  | tup h1 h2 =>
    cases h2 with
    | cons a b =>
      cases b with
      | cons b c =>
        cases c
        exact ⟨_, _, _, rfl, h1, a, b⟩
theorem rp_tup3 {x : α × β × γ} (r : Rp H v (encT3 f g h x)) : ∃ a v1 v2 v3, v = .ref a ∧ H a = some (.tup [v1, v2, v3]) ∧ Rp H v1 (f x.1) ∧ Rp H v2 (g x.2.1) ∧ Rp H v3 (h x.2.2) := by
  unfold encT3 at r
  cases r with
  | tup h1 h2 =>
    cases h2 with
    | cons a b =>
      cases b with
      | cons b c =>
        cases c with
        | cons c d =>
          cases d
          exact ⟨_, _, _, _, rfl, h1, a, b, c⟩
theorem rp_mk_list {a : Addr} {vs : List V} {xs : List α} (h1 : H a = some (.lst vs)) (h2 : RpAll H vs (xs.map f)) : Rp H (.ref a) (encL f xs) := .lst h1 h2
theorem rp_mk_ints {a : Addr} {xs : List Int} (h1 : H a = some (.lst (xs.map V.int))) : Rp H (.ref a) (encL PyData.int xs) := .lst h1 (RpAll.ints xs)
theorem rp_mk2 {a : Addr} {v1 v2 : V} {x : α} {y : β} (h1 : H a = some (.tup [v1, v2])) (r1 : Rp H v1 (f x)) (r2 : Rp H v2 (g y)) : Rp H (.ref a) (encT2 f g (x, y)) := .tup h1 (.cons r1 (.cons r2 .nil))
theorem rp_mk3 {a : Addr} {v1 v2 v3 : V} {x : α} {y : β} {z : γ} (h1 : H a = some (.tup [v1, v2, v3])) (r1 : Rp H v1 (f x)) (r2 : Rp H v2 (g y)) (r3 : Rp H v3 (h z)) : Rp H (.ref a) (encT3 f g h (x, y, z)) := .tup h1 (.cons r1 (.cons r2 (.cons r3 .nil)))
end

/-! ### the two heaps -/
def SameXs (L : List Addr) (H H' : Hp) : Prop := ∀ b o, H b = some o → b ∉ L → H' b = some o
theorem SameXs.of {H H' : Hp} {m : Addr} (x : SameX m H H') : SameXs [m] H H' := fun b o e n => x b o e (fun z => n (by rw [z]; exact List.mem_cons_self))
theorem ni1 {b m : Addr} (h : b ≠ m) : b ∉ [m] := by simpa using h
theorem ni2 {b m n : Addr} (h : b ≠ m) (h2 : b ≠ n) : b ∉ [m, n] := by simp [h, h2]
theorem ni3 {b m n o : Addr} (h : b ≠ m) (h2 : b ≠ n) (h3 : b ≠ o) : b ∉ [m, n, o] := by simp [h, h2, h3]
theorem ni4 {b m n o p : Addr} (h : b ≠ m) (h2 : b ≠ n) (h3 : b ≠ o) (h4 : b ≠ p) : b ∉ [m, n, o, p] := by simp [h, h2, h3, h4]
def hideL (L : List Addr) (H : Hp) : Hp := fun b => if b ∈ L then none else H b
theorem hideL_same (L : List Addr) (H : Hp) : Same (hideL L H) H := fun b o e => by
  unfold hideL at e
  split at e
  · cases e
  · exact e
theorem hideL_in {L : List Addr} {H : Hp} {b : Addr} (h : b ∈ L) : hideL L H b = none := if_pos h
theorem hideL_out {L : List Addr} {H : Hp} {b : Addr} (h : b ∉ L) : hideL L H b = H b := if_neg h
/-- M: owned from outside; H0, G0: at the entry; G: what stays as it is; O: what may change -/
structure Sep (M : List Addr) (H0 G0 G H : Hp) (O : List Addr) : Prop where
  base : SameXs M H0 H
  pm : ∀ a ∈ M, H a ≠ none
  sG : Same G H
  g0 : Same G0 G
  gn : ∀ b, H0 b ≠ none → G0 b = none → G b = none
  ow : ∀ a ∈ O, G a = none ∧ H a ≠ none ∧ (a ∈ M ∨ H0 a = none)
theorem all_nil {P : Addr → Prop} : ∀ x ∈ ([] : List Addr), P x := fun x h => by cases h
theorem all_cons {P : Addr → Prop} {a : Addr} {l : List Addr} (h : P a) (t : ∀ x ∈ l, P x) : ∀ x ∈ a :: l, P x := fun x hx => by
  cases hx with
  | head => exact h
  | tail _ hx => exact t x hx
theorem some_ne {H : Hp} {a : Addr} {o : HO} (h : H a = some o) : H a ≠ none := by
  rw [h]
  exact fun z => nomatch z
theorem same_ne {H H' : Hp} {a : Addr} (e : Same H H') (h : H a ≠ none) : H' a ≠ none := by
  cases q : H a with
  | none => exact absurd q h
  | some o => exact some_ne (e a o q)
section
variable {M : List Addr} {H0 G0 G H H' : Hp} {O : List Addr} {p m : Addr} {o : HO}
theorem Sep.start (M : List Addr) (H : Hp) (hM : ∀ a ∈ M, H a ≠ none) : Sep M H (hideL M H) (hideL M H) H M :=
  ⟨fun _ _ e _ => e, hM, hideL_same M H, Same.refl _, fun _ _ e => e, fun a ha => ⟨hideL_in ha, hM a ha, .inl ha⟩⟩
theorem Sep.startG {G H : Hp} (e : Same G H) : Sep [] H G G H [] := ⟨fun _ _ e _ => e, all_nil, e, Same.refl _, fun _ _ e => e, fun a ha => by cases ha⟩
theorem Sep.start0 (H : Hp) : Sep [] H H H H [] := Sep.startG (Same.refl H)
theorem Sep.b0 (S : Sep [] H0 G0 G H O) : Same H0 H := fun b o e => S.base b o e List.not_mem_nil
theorem Sep.free (S : Sep M H0 G0 G H O) {q : Addr} (n : H q = none) : H0 q = none := by
  cases e : H0 q with
  | none => rfl
  | some o =>
    by_cases h : q ∈ M
    · exact absurd n (S.pm q h)
    · rw [S.base q o e h] at n
      cases n
theorem Sep.same (S : Sep M H0 G0 G H O) (e : Same H H') : Sep M H0 G0 G H' O :=
  ⟨fun b o h n => e b o (S.base b o h n), fun a ha => same_ne e (S.pm a ha), S.sG.trans e, S.g0, S.gn, fun a ha => ⟨(S.ow a ha).1, same_ne e (S.ow a ha).2.1, (S.ow a ha).2.2⟩⟩
theorem Sep.gfree (S : Sep M H0 G0 G H O) {q : Addr} (n : H q = none) : G q = none := by
  cases e : G q with
  | none => rfl
  | some o => rw [S.sG q o e] at n; cases n
theorem Sep.new (S : Sep M H0 G0 G H O) (n : H p = none) (e : Same H H') (h : H' p = some o) (hm : H0 p = none) : Sep M H0 G0 G H' (p :: O) := by
  have S1 := S.same e
  refine ⟨S1.base, S1.pm, S1.sG, S1.g0, S1.gn, fun a ha => ?_⟩
  cases ha with
  | head => exact ⟨S.gfree n, some_ne h, .inr hm⟩
  | tail _ ha => exact S1.ow a ha
theorem Sep.grow (S : Sep M H0 G0 G H O) (n : H p = none) (e : Same H H') (h : H' p = some o) (hm : H0 p = none) : ∃ G', Same G G' ∧ G' p = some o ∧ Sep M H0 G0 G' H' O := by
  have S1 := S.same e
  have ng := S.gfree n
  refine ⟨upd G p o, fun b u q => by rw [upd_ne (ne_of_none q ng)]; exact q, upd_same, S1.base, S1.pm, fun b u q => ?_, fun b u q => ?_, fun b hb gb => ?_, fun a ha => ?_⟩
  · by_cases z : b = p
    · subst z
      rw [upd_same] at q
      exact q ▸ h
    · rw [upd_ne z] at q
      exact S1.sG b u q
  · have := S.g0 b u q
    rw [upd_ne (ne_of_none this ng)]
    exact this
  · by_cases z : b = p
    · subst z
      exact absurd hm hb
    · rw [upd_ne z]
      exact S.gn b hb gb
  · have hne : a ≠ p := fun z => (S.ow a ha).2.1 (by rw [z]; exact n)
    rw [upd_ne hne]
    exact S1.ow a ha
theorem Sep.mut (S : Sep M H0 G0 G H O) {L : List Addr} (x : SameXs L H H') (hL : ∀ a ∈ L, a ∈ O) (hs : ∀ a ∈ L, H' a ≠ none) : Sep M H0 G0 G H' O := by
  have keep : ∀ a, H a ≠ none → H' a ≠ none := fun a h => by
    by_cases hb : a ∈ L
    · exact hs a hb
    · cases q : H a with
      | none => exact absurd q h
      | some o => exact some_ne (x a o q hb)
  refine ⟨fun b o e n => ?_, fun a ha => keep a (S.pm a ha), fun b o e => ?_, S.g0, S.gn, fun a ha => ⟨(S.ow a ha).1, keep a (S.ow a ha).2.1, (S.ow a ha).2.2⟩⟩
  · refine x b o (S.base b o e n) fun hb => ?_
    rcases (S.ow b (hL b hb)).2.2 with z | z
    · exact n z
    · rw [e] at z; cases z
  · refine x b o (S.sG b o e) fun hb => ?_
    have := (S.ow b (hL b hb)).1
    rw [e] at this
    cases this
theorem Sep.mut1 (S : Sep M H0 G0 G H O) (x : SameX m H H') (hm : m ∈ O) (h : H' m = some o) : Sep M H0 G0 G H' O :=
  S.mut (SameXs.of x) (all_cons hm all_nil) (all_cons (some_ne h) all_nil)
theorem Sep.sub (S : Sep M H0 G0 G H O) {O' : List Addr} (h : ∀ a ∈ O', a ∈ O) : Sep M H0 G0 G H O' := ⟨S.base, S.pm, S.sG, S.g0, S.gn, fun a ha => S.ow a (h a ha)⟩
/-- what was owned and is to stay as it is from now on -/
theorem Sep.freeze (S : Sep M H0 G0 G H O) {O' : List Addr} (hp : p ∈ O) (h : H p = some o) (hm : H0 p = none) (hO : ∀ a ∈ O', a ∈ O ∧ a ≠ p) : ∃ G', Same G G' ∧ G' p = some o ∧ Sep M H0 G0 G' H O' := by
  have ng := (S.ow p hp).1
  refine ⟨upd G p o, fun b u q => by rw [upd_ne (ne_of_none q ng)]; exact q, upd_same, S.base, S.pm, fun b u q => ?_, fun b u q => ?_, fun b hb gb => ?_, fun a ha => ?_⟩
  · by_cases z : b = p
    · subst z
      rw [upd_same] at q
      exact q ▸ h
    · rw [upd_ne z] at q
      exact S.sG b u q
  · have := S.g0 b u q
    rw [upd_ne (ne_of_none this ng)]
    exact this
  · by_cases z : b = p
    · subst z
      exact absurd hm hb
    · rw [upd_ne z]
      exact S.gn b hb gb
  · rw [upd_ne (hO a ha).2]
    exact S.ow a (hO a ha).1
/-- a callee that hands on data in a stable heap of its own -/
theorem Sep.step (S : Sep M H0 G0 G H O) {G' : Hp} (e : Same H H') (eG : Same G G') (sG : Same G' H') (hn : ∀ b, H b ≠ none → G b = none → G' b = none) : Sep M H0 G0 G' H' O := by
  have S1 := S.same e
  refine ⟨S1.base, S1.pm, sG, S.g0.trans eG, fun b hb gb => ?_, fun a ha => ⟨hn a (S.ow a ha).2.1 (S.ow a ha).1, (S1.ow a ha).2⟩⟩
  refine hn b (fun z => ?_) (S.gn b hb gb)
  exact hb (S.free z)
theorem Sep.hid (S : Sep M H0 G0 G H O) {L : List Addr} (h : ∀ a ∈ L, a ∈ O) : Same G (hideL L H) := fun b o e => by
  rw [hideL_out fun z => by
    have := (S.ow b (h b z)).1
    rw [e] at this
    cases this]
  exact S.sG b o e
end
end Vx

namespace Vx
open PySem PySem.Spec PyProof.Rows L2
/-! ### lists of plain things (f : V.int, V.bl, V.str) -/
section
variable {α : Type} {f : α → V} {H : Hp} {p : Addr}
theorem cat_map {xs ys : List α} (h : H p = some (.lst (xs.map f ++ ys.map f))) : H p = some (.lst ((xs ++ ys).map f)) := by
  rw [List.map_append]; exact h
theorem snoc_map {xs : List α} {y : α} (h : H p = some (.lst (xs.map f ++ [f y]))) : H p = some (.lst ((xs ++ [y]).map f)) := by
  rw [List.map_append]; exact h
def repL (xs : List α) (k : Int) : List α := (List.replicate k.toNat xs).flatten
theorem rep_map {xs : List α} {k : Int} (h : H p = some (.lst (List.replicate k.toNat (xs.map f)).flatten)) : H p = some (.lst ((repL xs k).map f)) := by
  rw [h]
  unfold repL
  rw [List.map_flatten, List.map_replicate]
def cutL (xs : List α) (lo hi : Option Int) : List α := (xs.drop (HT.sIx xs.length 0 lo)).take (HT.sIx xs.length xs.length hi - HT.sIx xs.length 0 lo)
theorem cut_map {xs : List α} {lo hi : Option Int} (h : H p = some (.lst (cutV (xs.map f) lo hi))) : H p = some (.lst ((cutL xs lo hi).map f)) := by
  rw [h]
  unfold cutV cutL
  rw [List.length_map, List.map_take, List.map_drop]
theorem cast_map {xs ys : List α} (h : H p = some (.lst (xs.map f))) (e : xs = ys) : H p = some (.lst (ys.map f)) := e ▸ h
theorem drop_map {xs : List α} (h : H p = some (.lst (xs.map f).dropLast)) : H p = some (.lst (xs.dropLast.map f)) := by
  rw [h, List.map_dropLast]
theorem ixN_some {n : Nat} {k : Int} (h : -(n : Int) ≤ k ∧ k < n) : ∃ j, ixN n k = some j ∧ j < n := by
  unfold ixN
  by_cases h0 : 0 ≤ k
  · exact ⟨k.toNat, by rw [if_pos h0, if_pos h.2], by omega⟩
  · exact ⟨(k + n).toNat, by rw [if_neg h0, if_pos h.1], by omega⟩
def itD [Inhabited α] (xs : List α) (k : Int) : α := (atI xs k).getD default
theorem atI_map [Inhabited α] {xs : List α} {k : Int} (h : -(xs.length : Int) ≤ k ∧ k < xs.length) : atI (xs.map f) k = some (f (itD xs k)) := by
  obtain ⟨j, e, hj⟩ := ixN_some h
  unfold itD atI
  rw [List.length_map, e]
  show (xs.map f)[j]? = some (f ((xs[j]?).getD default))
  rw [List.getElem?_map, List.getElem?_eq_getElem hj] <;> rfl
def setL (xs : List α) (k : Int) (y : α) : List α := xs.set ((ixN xs.length k).getD 0) y
theorem ixN_map {xs : List α} {k : Int} (h : -(xs.length : Int) ≤ k ∧ k < xs.length) : ixN (xs.map f).length k = some ((ixN xs.length k).getD 0) := by
  obtain ⟨j, e, hj⟩ := ixN_some h
  rw [List.length_map, e] <;> rfl
theorem set_map {xs : List α} {k : Int} {y : α} (h : H p = some (.lst ((xs.map f).set ((ixN xs.length k).getD 0) (f y)))) : H p = some (.lst ((setL xs k y).map f)) := by
  rw [h]
  unfold setL
  rw [List.map_set]
def lastD [Inhabited α] (xs : List α) : α := xs.getLastD default
theorem pop_map [Inhabited α] {xs : List α} (h : xs ≠ []) : (xs.map f)[(xs.map f).length - 1]? = some (f (lastD xs)) := by
  rw [← List.getLast?_eq_getElem?, List.getLast?_map]
  unfold lastD
  cases e : xs.getLast? with
  | none => exact absurd (List.getLast?_eq_none_iff.mp e) h
  | some y =>
    rw [List.getLastD_eq_getLast?, e] <;> rfl
end
/-! ### lists of data -/
section
variable {α β : Type} {f : α → PyData} {g : β → PyData} {G : Hp} {vs ws : List V} {xs ys : List α}
theorem app_map (a : RpAll G vs (xs.map f)) (b : RpAll G ws (ys.map f)) : RpAll G (vs ++ ws) ((xs ++ ys).map f) := by
  rw [List.map_append]; exact a.append b
theorem one_map {v : V} {y : α} (a : RpAll G vs (xs.map f)) (b : Rp G v (f y)) : RpAll G (vs ++ [v]) ((xs ++ [y]).map f) := by
  rw [List.map_append]; exact a.append (.one b)
theorem rep_all (k : Int) (a : RpAll G vs (xs.map f)) : RpAll G (List.replicate k.toNat vs).flatten ((repL xs k).map f) := by
  unfold repL
  rw [List.map_flatten, List.map_replicate]
  exact a.rep _
theorem cut_all (lo hi : Option Int) (a : RpAll G vs (xs.map f)) : RpAll G (cutV vs lo hi) ((cutL xs lo hi).map f) := by
  unfold cutV cutL
  rw [a.len, List.length_map, List.map_take, List.map_drop]
  exact (a.drop _).take _
theorem rp_cast {v : V} {d e : PyData} (r : Rp G v d) (h : d = e) : Rp G v e := h ▸ r
theorem comp_listD {i : Nat} {x : α} {y : β} {v : V} {h : α → β} (hi : xs[i]? = some x) (a : RpAll G vs (((xs.take i).map h).map g)) (r : Rp G v (g y)) (e : h x = y) : RpAll G (vs ++ [v]) (((xs.take (i + 1)).map h).map g) := by
  rw [take_succ_get hi, List.map_append, List.map_append]
  exact a.append (.one (e ▸ r))
theorem comp_rangeD {i : Nat} {y : β} {v : V} {h : Nat → β} (a : RpAll G vs (((List.range i).map h).map g)) (r : Rp G v (g y)) (e : h i = y) : RpAll G (vs ++ [v]) (((List.range (i + 1)).map h).map g) := by
  rw [List.range_succ, List.map_append, List.map_append]
  exact a.append (.one (e ▸ r))
theorem comp_doneD {n : Nat} {h : List α → List β} (hl : n = xs.length) (a : RpAll G vs ((h (xs.take n)).map g)) : RpAll G vs ((h xs).map g) := by
  rw [hl, List.take_length] at a
  exact a
theorem comp_listFD {i : Nat} {x : α} {y : β} {v : V} {h : α → β} {q : α → Bool} (hi : xs[i]? = some x) (hq : q x = true) (a : RpAll G vs ((((xs.take i).filter q).map h).map g)) (r : Rp G v (g y)) (e : h x = y) : RpAll G (vs ++ [v]) ((((xs.take (i + 1)).filter q).map h).map g) := by
  rw [take_succ_get hi, List.filter_append, List.filter_cons, if_pos hq, List.map_append, List.map_append]
  exact a.append (.one (e ▸ r))
theorem skip_listD {i : Nat} {x : α} {h : α → β} {q : α → Bool} (hi : xs[i]? = some x) (hq : q x = false) (a : RpAll G vs ((((xs.take i).filter q).map h).map g)) : RpAll G vs ((((xs.take (i + 1)).filter q).map h).map g) := by
  rw [take_succ_get hi, List.filter_append, List.filter_cons, if_neg (by rw [hq]; decide), List.filter_nil, List.append_nil]
  exact a
end
section
variable {α β : Type} {f : β → V} {H : Hp} {D : Addr} {xs : List α}
theorem compM_list {i : Nat} {x : α} {y : β} {h : α → β} (hi : xs[i]? = some x) (a : H D = some (.lst (((xs.take i).map h).map f ++ [f y]))) (e : h x = y) : H D = some (.lst (((xs.take (i + 1)).map h).map f)) := by
  rw [a, ← e, take_succ_get hi, List.map_append, List.map_append] <;> rfl
theorem compM_range {i : Nat} {y : β} {h : Nat → β} (a : H D = some (.lst (((List.range i).map h).map f ++ [f y]))) (e : h i = y) : H D = some (.lst (((List.range (i + 1)).map h).map f)) := by
  rw [a, ← e, List.range_succ, List.map_append, List.map_append] <;> rfl
theorem compM_done {n : Nat} {h : List α → List β} (hl : n = xs.length) (a : H D = some (.lst ((h (xs.take n)).map f))) : H D = some (.lst ((h xs).map f)) := by
  rw [hl, List.take_length] at a
  exact a
theorem compM_listF {i : Nat} {x : α} {y : β} {h : α → β} {q : α → Bool} (hi : xs[i]? = some x) (hq : q x = true) (a : H D = some (.lst ((((xs.take i).filter q).map h).map f ++ [f y]))) (e : h x = y) : H D = some (.lst ((((xs.take (i + 1)).filter q).map h).map f)) := by
  rw [a, ← e, take_succ_get hi, List.filter_append, List.filter_cons, if_pos hq, List.map_append, List.map_append] <;> rfl
theorem skipM_list {i : Nat} {x : α} {h : α → β} {q : α → Bool} (hi : xs[i]? = some x) (hq : q x = false) (a : H D = some (.lst ((((xs.take i).filter q).map h).map f))) : H D = some (.lst ((((xs.take (i + 1)).filter q).map h).map f)) := by
  rw [a, take_succ_get hi, List.filter_append, List.filter_cons, if_neg (by rw [hq]; decide), List.filter_nil, List.append_nil]
theorem compM_rangeF {i : Nat} {y : β} {h : Nat → β} {q : Nat → Bool} (hq : q i = true) (a : H D = some (.lst ((((List.range i).filter q).map h).map f ++ [f y]))) (e : h i = y) : H D = some (.lst ((((List.range (i + 1)).filter q).map h).map f)) := by
  rw [a, ← e, List.range_succ, List.filter_append, List.filter_cons, if_pos hq, List.map_append, List.map_append] <;> rfl
theorem skipM_range {i : Nat} {h : Nat → β} {q : Nat → Bool} (hq : q i = false) (a : H D = some (.lst ((((List.range i).filter q).map h).map f))) : H D = some (.lst ((((List.range (i + 1)).filter q).map h).map f)) := by
  rw [a, List.range_succ, List.filter_append, List.filter_cons, if_neg (by rw [hq]; decide), List.filter_nil, List.append_nil]
end
/-! ### more rules -/
section
variable {X : Cx} {K : PySem.W.Frag}
theorem ix_tupK (hK : X.K = K := by rfl) : IxR X (rIxT K) := hK ▸ ix_tup
def rLenLK (K : PySem.W.Frag) : List V → Hp → VK → Prop := fun xs H Q => ∃ (p : Addr) (vs : List V) (n : Nat), xs = [.ref p] ∧ SqL K H p vs ∧ vs.length = n ∧ Q (.int (n : Int)) H
theorem call_lenLK (hK : X.K = K := by rfl) : CallR X (.builtin "len") (rLenLK K) := by
  subst hK
  intro pins s σ H xs us Q I r h
  obtain ⟨p, vs, n, rfl, hs, hn, q⟩ := h
  exact call_len_seq pins s σ H _ us Q I r ⟨p, _, rfl, Or.inl hs, by rw [hn]; exact q⟩
def rListLK (K : PySem.W.Frag) : List V → Hp → VK → Prop := fun xs H Q => ∃ (p : Addr) (vs : List V), xs = [.ref p] ∧ SqL K H p vs ∧ ∀ l, H l = none → Q (.ref l) (upd H l (.lst vs))
theorem call_listLK (hK : X.K = K := by rfl) : CallR X (.type "list") (rListLK K) := by
  subst hK
  intro pins s σ H xs us Q I r h
  obtain ⟨p, vs, rfl, hs, q⟩ := h
  exact call_list_of pins s σ H _ us Q I r ⟨p, _, rfl, Or.inl hs, q⟩
theorem cr_anyK (hc : X.calm = true) (hK : X.K = K := by rfl) : CallR X (.builtin "any") (rAny K) := hK ▸ cr_any hc
theorem cr_allK (hc : X.calm = true) (hK : X.K = K := by rfl) : CallR X (.builtin "all") (rAll K) := hK ▸ cr_all hc
theorem pi_tupK {tg l : Expr} {tl : TE} (hl : PE X l tl) (hK : X.K = K := by rfl) : PI X tg l (iTup K tl) := hK ▸ pi_tup hl
theorem pip {op : Operator} {r : R2} (h : OpR X (inplaceOp op) r) : PIp X op r := fun pins s σ H x y v u Q I rx ry q => h pins s σ H x y v u Q I rx ry q
/-- an item at a place from 0 on, by itself (ahead of o[i] op= e) -/
def rIxP (K : PySem.W.Frag) : R2 := fun x y H Q => ∃ (p : Addr) (xs : List V) (k : Int) (v : V), x = .ref p ∧ y = .int k ∧ SqL K H p xs ∧ 0 ≤ k ∧ k < 2 ^ 62 ∧ atI xs k = some v ∧ Q v H
theorem pget_list (hK : X.K = K := by rfl) : PGet X (rIxP K) := by
  subst hK
  intro pins s σ H o i ov iv Q I ro ri h
  obtain ⟨p, xs, k, v, rfl, rfl, hq, h0, h62, ha, q⟩ := h
  cases ro
  obtain ⟨t, rfl⟩ := ri
  obtain ⟨its, r, pl, hz⟩ := I.list hq
  obtain ⟨j, h1, h2, h3, h4, h5⟩ := atI_get ha
  obtain ⟨w, ew, rw'⟩ := r.get h2
  have hj : k.toNat = j := by
    rw [seqIndex_of h0 h5] at h1
    exact Option.some.inj h1
  exact getItem_listL pl.isList h0 (by omega) (by rw [hj]; simpa using ew) ⟨v, H, I, rw', q⟩
theorem tru_map {α : Type} [DecidableEq α] {f : α → V} {xs : List α} : (!decide (xs = [])) = !(xs.map f).isEmpty := by
  cases xs <;> simp
end
end Vx

namespace Vx
open PySem PySem.Spec PyProof.Rows L2
/-! ### objects -/
section
variable {M : List Addr} {H0 G0 G H H' : Hp} {O : List Addr} {p m : Addr} {o : HO}
theorem gen_obj {x dx : Addr} {o1 o2 : HO} (nx : H x = none) (nd : H dx = none) (ne : dx ≠ x) (h : upd (upd H dx o1) x o2 = H') : Same H H' ∧ H' x = some o2 := by
  subst h
  exact ⟨fun b u e => by rw [upd_ne (ne_of_none e nx), upd_ne (ne_of_none e nd)]; exact e, upd_same⟩
theorem sameX_of {m : Addr} (x : SameXs [m] H H') : SameX m H H' := fun b o e n => x b o e (by simpa using n)
theorem g_ne {a b : Addr} (h : G a = some o) (S : Sep M H0 G0 G H O) (hb : b ∈ O) : a ≠ b := fun z => by
  have := (S.ow b hb).1
  rw [← z, h] at this
  cases this
/-- an object whose making has laid some lists -/
theorem Sep.mutnew (S : Sep M H0 G0 G H O) {L : List Addr} (x : SameXs L H H') (hL : ∀ a ∈ L, a ∈ O) (hs : ∀ a ∈ L, H' a ≠ none) (hn : H p = none) (hp : H' p ≠ none) (h0 : H0 p = none) : Sep M H0 G0 G H' (p :: O) := by
  have S1 := S.mut x hL hs
  refine ⟨S1.base, S1.pm, S1.sG, S1.g0, S1.gn, all_cons ⟨S.gfree hn, hp, .inr h0⟩ S1.ow⟩
theorem Sep.init (S : Sep M H0 G0 G H O) (x : SameX m H H') (hm : m ∈ O) (h : H' m = some o) (L : List Addr) (hL : ∀ a ∈ L, H a = none ∧ H' a ≠ none ∧ H0 a = none) : Sep M H0 G0 G H' (L ++ O) := by
  have S1 := S.mut1 x hm h
  refine ⟨S1.base, S1.pm, S1.sG, S1.g0, S1.gn, fun a ha => ?_⟩
  rcases List.mem_append.mp ha with z | z
  · obtain ⟨h1, h2, h3⟩ := hL a z
    exact ⟨S.gfree h1, h2, .inr h3⟩
  · exact S1.ow a z
end
section
variable {P : Program} {w : World} {K : PySem.W.Frag} {mg : Str → Option Value} {base : Heap}
structure MethIn (K : PySem.W.Frag) (C : Addr) (q m : Str) (st : Stmt) (ps : List Str) : Prop where
  ex : ∃ (f : Addr) (fd : FuncData), Fun K m q st f fd ∧ Meth K C m f ∧ Binds K fd ps []
structure PropIn (K : PySem.W.Frag) (C : Addr) (q m : Str) (st : Stmt) (ps : List Str) : Prop where
  ex : ∃ (r f : Addr) (fd : FuncData), Fun K m q st f fd ∧ PropOf K C m r f ∧ Binds K fd ps []
structure InitIn (K : PySem.W.Frag) (mg : Str → Option Value) (C : Addr) (cn q : Str) (st : Stmt) (ps : List Str) : Prop where
  ex : ∃ (f : Addr) (fd : FuncData), Fun K "__init__" q st f fd ∧ Mk K C f ∧ mg cn = some (.ref C) ∧ Binds K fd ps []
structure MetC (P : Program) (w : World) (K : PySem.W.Frag) (mg : Str → Option Value) (base : Heap) (k : Nat) (C : Addr) (m : Str) (sp : Sp) : Prop where
  ex : ∃ (f : Addr) (fd : FuncData) (ps : List Str), Cls K C ∧ Meth K C m f ∧ FnOk P w K mg base CX0 k f fd ps sp ∧ Binds K fd ps []
structure PropC (P : Program) (w : World) (K : PySem.W.Frag) (mg : Str → Option Value) (base : Heap) (k : Nat) (C : Addr) (m : Str) (sp : Sp) : Prop where
  ex : ∃ (q f : Addr) (fd : FuncData) (ps : List Str), Cls K C ∧ PropOf K C m q f ∧ FnOk P w K mg base CX0 k f fd ps sp ∧ Binds K fd ps []
structure MakC (P : Program) (w : World) (K : PySem.W.Frag) (mg : Str → Option Value) (base : Heap) (k : Nat) (cn : Str) (C : Addr) (sp : Sp) : Prop where
  ex : ∃ (f : Addr) (fd : FuncData) (ps : List Str), Mk K C f ∧ FnOk P w K mg base CX0 k f fd ps sp ∧ mg cn = some (.ref C) ∧ Binds K fd ps []
abbrev Body (P : Program) (w : World) (K : PySem.W.Frag) (mg : Str → Option Value) (base : Heap) (x : Str) (st : Stmt) (N : List Str) (k : Nat) (sp : Sp) : Prop :=
  ∀ (f : Addr) (cdv : Value) (A : Around) (outer : List Env) (s : Shared) (H : Hp) (vs : List V) (Q : VK) (E : XK), Room k (A.deeper (envOfC x (defScope st) s.heap.objs.size f cdv)) → sp vs H Q E →
    ∃ t, PSs (cxOf CX0 P w K mg base N x (defScope st) f cdv A outer s H E).nox (defBody st) t ∧ t { nx := fun _ H' => Q .non H', rt := Q } (start N vs) H
theorem MethIn.ok {C : Addr} {q m : Str} {st : Stmt} {N ps : List Str} {k : Nat} {sp : Sp} (D : MethIn K C q m st ps) (c : Cls K C) (S : FnScope N ps (defScope st)) (len : ∀ vs H Q E, sp vs H Q E → vs.length = ps.length)
    (hbody : Body P w K mg base q st N k sp) : MetC P w K mg base (k + 1) C m sp := by
  obtain ⟨f, fd, F, me, b⟩ := D.ex
  exact ⟨f, fd, ps, c, me, F.ok S len (fun cdv A outer s H vs Q E hr h => hbody f cdv A outer s H vs Q E hr h), b⟩
theorem PropIn.ok {C : Addr} {q m : Str} {st : Stmt} {N ps : List Str} {k : Nat} {sp : Sp} (D : PropIn K C q m st ps) (c : Cls K C) (S : FnScope N ps (defScope st)) (len : ∀ vs H Q E, sp vs H Q E → vs.length = ps.length)
    (hbody : Body P w K mg base q st N k sp) : PropC P w K mg base (k + 1) C m sp := by
  obtain ⟨r, f, fd, F, me, b⟩ := D.ex
  exact ⟨r, f, fd, ps, c, me, F.ok S len (fun cdv A outer s H vs Q E hr h => hbody f cdv A outer s H vs Q E hr h), b⟩
theorem InitIn.ok {C : Addr} {cn q : Str} {st : Stmt} {N ps : List Str} {k : Nat} {sp : Sp} (D : InitIn K mg C cn q st ps) (S : FnScope N ps (defScope st)) (len : ∀ vs H Q E, sp vs H Q E → vs.length = ps.length)
    (hbody : Body P w K mg base q st N k sp) : MakC P w K mg base (k + 1) cn C sp := by
  obtain ⟨f, fd, F, me, hm, b⟩ := D.ex
  exact ⟨f, fd, ps, me, F.ok S len (fun cdv A outer s H vs Q E hr h => hbody f cdv A outer s H vs Q E hr h), hm, b⟩
end
section
variable {X : Cx} {k j : Nat} {C : Addr} {x m : Str} {sp : Sp} {p pos apos : Pos} {e o : Expr} {es : List Expr} {ta : TE} {t : TA}
theorem vx_call0 (c : Cal X.prog X.w X.K X.mg X.base k x sp) (hr : Room j X.A) (hk : k ≤ j) (hg : Gl X x) (hdb : (x == ("__debug__" : Str)) = false := by decide) : PE X (.Call (.Name x p) [] [] pos) (tCall sp [] E0 tNil) := by
  obtain ⟨f, fd, ps, F, hm, kp, b⟩ := c.ex
  exact pe_call0 F (hr.mono hk) hg hm kp b .nil pass0 hdb
theorem vx_make (c : MakC X.prog X.w X.K X.mg X.base k x C sp) (hr : Room j X.A) (hk : k + 1 ≤ j) (hg : Gl X x) (ha : PA X (e :: es) t)
    (hdb : (x == ("__debug__" : Str)) = false := by decide) (he : starEach (e :: es) X.env = (false, eval e X.env) :: starEach es X.env := by rfl) (hpl : (backTo pos (starEach es X.env)).any (·.1) = false := by rfl) :
    PE X (.Call (.Name x p) (e :: es) [] pos) (tMake C sp [] E0 t) := by
  obtain ⟨f, fd, ps, M, F, hm, b⟩ := c.ex
  exact pe_make M F (hr.mono hk) hg hm b .nil pass0 ha hdb he hpl
theorem vx_make0 (c : MakC X.prog X.w X.K X.mg X.base k x C sp) (hr : Room j X.A) (hk : k + 1 ≤ j) (hg : Gl X x) (hdb : (x == ("__debug__" : Str)) = false := by decide) :
    PE X (.Call (.Name x p) [] [] pos) (tMake C sp [] E0 tNil) := by
  obtain ⟨f, fd, ps, M, F, hm, b⟩ := c.ex
  exact pe_make0 M F (hr.mono hk) hg hm b .nil pass0 hdb
theorem vx_meth {pl : Sem Bool} (c : MetC X.prog X.w X.K X.mg X.base k C m sp) (hr : Room j X.A) (hk : k ≤ j) (he : PE X o ta) (ha : PA X (e :: es) t)
    (hst : starEach (e :: es) X.env = (false, eval e X.env) :: starEach es X.env := by rfl) (hpl : (backTo pos (starEach es X.env)).any (·.1) = false := by rfl)
    (ht : eval (.Call (.Attribute o m apos) (e :: es) [] pos) X.env = (do
      let ov ← eval o X.env
      standAt apos.atName
      let (f, first) ← holding [ov] (getMethod ov m pl)
      callWith pos f first (backTo pos (starEach (e :: es) X.env)) (backToKw pos (keywordEach [] X.env))) := by rfl) :
    PE X (.Call (.Attribute o m apos) (e :: es) [] pos) (tMeth C m sp [] E0 ta t) := by
  obtain ⟨f, fd, ps, hc, hm, F, b⟩ := c.ex
  exact pe_meth he hc hm F (hr.mono hk) b .nil pass0 ha hst hpl ht
theorem vx_meth0 {pl : Sem Bool} (c : MetC X.prog X.w X.K X.mg X.base k C m sp) (hr : Room j X.A) (hk : k ≤ j) (he : PE X o ta)
    (ht : eval (.Call (.Attribute o m apos) [] [] pos) X.env = (do
      let ov ← eval o X.env
      standAt apos.atName
      let (f, first) ← holding [ov] (getMethod ov m pl)
      callWith pos f first (backTo pos (starEach [] X.env)) (backToKw pos (keywordEach [] X.env))) := by rfl) :
    PE X (.Call (.Attribute o m apos) [] [] pos) (tMeth C m sp [] E0 ta tNil) := by
  obtain ⟨f, fd, ps, hc, hm, F, b⟩ := c.ex
  exact pe_meth0 he hc hm F (hr.mono hk) b .nil pass0 ht
theorem vx_prop (c : PropC X.prog X.w X.K X.mg X.base k C m sp) (hr : Room j X.A) (hk : k + 1 ≤ j) (he : PE X o ta) (hab : attributeBase o m X.env (eval o X.env) = eval o X.env) : PE X (.Attribute o m pos) (tProp C sp [] E0 ta) := by
  obtain ⟨q, f, fd, ps, hc, hp, F, b⟩ := c.ex
  exact pe_prop he hc hp F (hr.mono hk) b .nil pass0 hab
end
theorem iteBNT {b : Bool} {A B : Prop} (h : b = false) (k : A) : if (!b) = true then A else B := by rw [h]; exact iteT k
theorem iteNN {b : Bool} {A B : Prop} (h : if b = true then A else B) : if (!!b) = true then A else B := by rw [Bool.not_not]; exact h
theorem iteBNF {b : Bool} {A B : Prop} (h : b = true) (k : B) : if (!b) = true then A else B := by rw [h]; exact iteF k
theorem shl_side {i j : Int} (h0 : 0 ≤ j) (h1 : j ≤ 4096) (h2 : -(2 ^ 4096) < i) (h3 : i < 2 ^ 4096) : CShl i j := by
  obtain ⟨k, rfl⟩ := Int.eq_ofNat_of_zero_le h0
  exact shl_ok (n := 4096) (by omega) (by omega)
end Vx

namespace Vx
open PySem PySem.Spec PyProof.Rows L2
section
variable {X : Cx} {K : PySem.W.Frag}
theorem fldK {e : Expr} {f : Str} {pos : Pos} {ta : TE} (he : PE X e ta) (hb : attributeBase e f X.env (eval e X.env) = eval e X.env := by rfl) (hK : X.K = K := by rfl) : PE X (.Attribute e f pos) (tFld K ta f) := hK ▸ pe_fld he hb
theorem pg_tupK {es : List Expr} {k : Nat} {t : TGs} {n : Nat} {pos : Pos} (h : PGs X es t) (hc : X.calm = true := by rfl)
    (hn : (assignEach es X.env).length = n := by rfl) (hst : (assignEach es X.env).findIdx? (·.1) = none := by rfl) (hK : X.K = K := by rfl) : PG X (.Tuple es k pos) (gTup K n t) := hK ▸ pg_tup hc h hn hst
end
end Vx

namespace Vx
open PySem PySem.Spec PyProof.Rows L2
section
variable {α β : Type} {f : α → PyData} {g : β → PyData} {fv : α → V} {gv : β → V} {G : Hp} {vs ws : List V} {xs : List α} {ys : List β}
theorem big1 {n : Nat} (h : n ≤ 1000000) : n ≤ sizeLine := smallE h
theorem cat_len (a : RpAll G vs (xs.map f)) (b : RpAll G ws (ys.map g)) (h : xs.length + ys.length ≤ 1000000) : vs.length + ws.length ≤ sizeLine := by
  rw [a.len, b.len, List.length_map, List.length_map]; exact smallE h
theorem cat_lenM (h : xs.length + ys.length ≤ 1000000) : (xs.map fv).length + (ys.map gv).length ≤ sizeLine := by
  rw [List.length_map, List.length_map]; exact smallE h
theorem rep_len {k : Nat} (a : RpAll G vs (xs.map f)) (h : xs.length * k ≤ 1000000) : vs.length * k ≤ sizeLine := by
  rw [a.len, List.length_map]; exact smallE h
theorem rep_lenM {k : Nat} (h : xs.length * k ≤ 1000000) : (xs.map fv).length * k ≤ sizeLine := by
  rw [List.length_map]; exact smallE h
theorem app_len (a : RpAll G vs (xs.map f)) (h : xs.length ≤ 1000000) : vs.length < sizeLine := by
  rw [a.len, List.length_map]; exact small h
theorem app_lenM (h : xs.length ≤ 1000000) : (xs.map fv).length < sizeLine := by
  rw [List.length_map]; exact small h
theorem cutL_len {α : Type} (xs : List α) (lo hi : Option Int) : (cutL xs lo hi).length ≤ xs.length := by
  unfold cutL
  rw [List.length_take, List.length_drop]
  omega
theorem repL_len {α : Type} (xs : List α) (k : Int) : (repL xs k).length = k.toNat * xs.length := by
  unfold repL
  simp
end
end Vx
/-! # promises of defs that know that nothing is being shown (so that repr may be called) -/
namespace Vx
open PySem PySem.Spec PyProof.Rows L2
structure RoomG (k : Nat) (A : Around) : Prop extends Room k A where
  gd : A.guards = some []
theorem RoomG.low {j k : Nat} {A : Around} (r : RoomG k A) (h : j ≤ k) : RoomG j A := ⟨r.toRoom.mono h, r.gd⟩
theorem RoomG.one {k : Nat} {A : Around} (r : RoomG (k + 1) A) : RoomG k A.in1 := ⟨r.toRoom.in1, r.gd⟩
theorem make_gd {A : Around} (C : Addr) (us : List Value) (kw : List (Str × Value)) (h : A.guards = some []) : (A.under (.builtin "type.__call__" ⟨.ref C :: us, kw⟩)).guards = some [] := by
  obtain ⟨hd, d, fr, gs, u⟩ := A
  subst h
  simp [Around.under, Code.guards, Code.isGuard, guardIds, pushGuards]
theorem RoomG.made {k : Nat} {A : Around} (r : RoomG (k + 1) A) (C : Addr) (us : List Value) (kw : List (Str × Value)) : RoomG k (A.under (.builtin "type.__call__" ⟨.ref C :: us, kw⟩)) := ⟨r.toRoom.make C us kw, make_gd C us kw r.gd⟩
structure FnG (P : Program) (w : World) (K : PySem.W.Frag) (mg : Str → Option Value) (base : Heap) (cx : CXT) (k : Nat) (f : Addr) (fd : FuncData) (ps : List Str) (sp : Sp) : Prop where
  len : ∀ vs H Q E, sp vs H Q E → vs.length = ps.length
  run : ∀ (A : Around) (outer : List Env) (s : Shared) (H : Hp) (args : Args) (us : List Value) (vs : List V) (Q : VK) (E : XK), RoomG k A → Env0 P w K mg base A outer s H → BindsTo s fd args (ps.zip us) → Vals vs us → sp vs H Q E → codeAny (model P w) A (.call (.ref f) args) (CR cx outer P w H s Q E) s
section
variable {P : Program} {w : World} {K : PySem.W.Frag} {mg : Str → Option Value} {base : Heap} {cx : CXT} {j k : Nat} {f : Addr} {fd : FuncData} {ps : List Str} {sp sp' : Sp}
theorem FnG.imp (F : FnG P w K mg base cx k f fd ps sp) (h : ∀ vs H Q E, sp' vs H Q E → sp vs H Q E) : FnG P w K mg base cx k f fd ps sp' := ⟨fun vs H Q E q => F.len vs H Q E (h vs H Q E q), fun A o s H a us vs Q E r e b v q => F.run A o s H a us vs Q E r e b v (h vs H Q E q)⟩
/-- the body's promise is the def's -/
theorem FnG.body {x qual : Str} {params : Arguments} {body : List Stmt} {scope : Scope} {dvs : List V} {kws : List (Str × V)} {N : List Str} (F : FunD K x qual params body scope dvs kws f fd) (S : FnScope N ps scope) (len : ∀ vs H Q E, sp vs H Q E → vs.length = ps.length)
    (hb : ∀ (cdv : Value) (A : Around) (outer : List Env) (s : Shared) (H : Hp) (vs : List V) (Q : VK) (E : XK), RoomG k (A.deeper (envOfC qual scope s.heap.objs.size f cdv)) → sp vs H Q E →
      ∃ t, PSs (cxOf cx P w K mg base N qual scope f cdv A outer s H E) body t ∧ t { nx := fun _ H' => Q .non H', rt := Q } (start N vs) H) : FnG P w K mg base cx (k + 1) f fd ps sp := by
  obtain ⟨oc, od, dV, kV, doc, pm, an, cdv, ct, osl, rfl, lk, code, _, _⟩ := F.ex
  constructor
  · exact len
  · intro A outer s H args us vs Q E room env binds vals prom
    have nvs := len vs H Q E prom
    have kin : K.In s.heap := env.mod.kin.keeps fun b o q => (env.bs b o q).1
    have nolim : s.heap.NoLimit := env.mod.nolimit.keeps fun b o q => (env.bs b o q).1
    have kinds : ∀ q ∈ ps.zip us, scope.names.lookup q.1 = some .local ∨ (scope.names.lookup q.1 = some .cell ∧ ((cellsFrom (s.heap.objs.size + 1) scope.names []).lookup q.1).isSome = true) := by
      rintro ⟨n, v⟩ hq
      cases S.par n (List.of_mem_zip hq).1 with
      | inl z => exact .inl z
      | inr z => exact .inr ⟨z, PySem.W.cellsFrom_some _ _ _ (.inl z)⟩
    refine codeAny_call_function room.toRoom.depth (kin _ _ lk) rfl S.co S.gen rfl (PySem.W.codeRec_of kin code) (binds _ _ _ _ ?_)
    refine wpAny_newFunctionEnv_cells S.kind kinds ?_
    rintro _ rfl s1 made
    refine ⟨nolim.keeps made.toInCall.keep, codeAny_func ?_⟩
    obtain ⟨t, pss, start_⟩ := hb cdv A outer s H vs Q E ⟨room.toRoom.deeper _, room.gd⟩ prom
    have inv := inv_start (CX := cx) (E := E) S room.hd env nvs vals made
    have close : ∀ {τ : L2.St} {H2 : Hp} {v : V} {u : Value} {s2 : Shared}, Inv (cxOf cx P w K mg base N qual scope f cdv A outer s H E) [] τ H2 s2 → RelV v u → Q v H2 → CE outer P w H s Q u s2 := fun inv2 rel q => ⟨_, _, inv2.os, inv2.bare, inv2.base, inv2.hok, rel, q⟩
    refine wpAny_mono (pss.run [] s1 (start N vs) H _ inv start_) ?_ fun _ _ z => z
    intro flow s2 out
    cases flow with
    | next =>
      obtain ⟨τ, H2, inv2, q⟩ := out
      exact close (v := .non) (u := .none) inv2 rfl q
    | ret u =>
      obtain ⟨v, τ, H2, inv2, rel, q⟩ := out
      exact close inv2 rel q
    | brk =>
      obtain ⟨_, _, _, q⟩ := out
      exact q.elim
    | cont =>
      obtain ⟨_, _, _, q⟩ := out
      exact q.elim
/-- the same of a body that nothing leaves -/
theorem FnG.bodyN {x qual : Str} {params : Arguments} {body : List Stmt} {scope : Scope} {dvs : List V} {kws : List (Str × V)} {N : List Str} (F : FunD K x qual params body scope dvs kws f fd) (S : FnScope N ps scope) (len : ∀ vs H Q E, sp vs H Q E → vs.length = ps.length)
    (hb : ∀ (cdv : Value) (A : Around) (outer : List Env) (s : Shared) (H : Hp) (vs : List V) (Q : VK) (E : XK), RoomG k (A.deeper (envOfC qual scope s.heap.objs.size f cdv)) → sp vs H Q E →
      ∃ t, PSs (cxOf CX0 P w K mg base N qual scope f cdv A outer s H E).nox body t ∧ t { nx := fun _ H' => Q .non H', rt := Q } (start N vs) H) : FnG P w K mg base CX0 (k + 1) f fd ps sp :=
  FnG.body F S len fun cdv A outer s H vs Q E r p => by
    obtain ⟨t, h, q⟩ := hb cdv A outer s H vs Q E r p
    exact ⟨t, h.nox, q⟩
end
/-- where a law's call begins: an abstract heap that tells the script at most -/
theorem law_start {P : Program} {w : World} {K : PySem.W.Frag} {mg mb : Str → Option Value} {a : Addr} {s : Shared} {vs : List Value} {ns : List Int} (kin : K.In s.heap) (top : s.heap.Ns mainGlobals mg) (blt : s.heap.Ns builtinsNs mb) (boot : ∀ y : Str, y ≠ "__name__" → mb y = bootBuiltins y)
    (lim : s.heap.NoLimit) (gens : s.gens = #[]) (script : s.heap.get? a = some { cls := .type "list", data := .seq vs.toArray }) (whole : IntsAre vs ns) (short : ns.length ≤ sizeLine) :
    ∃ (H : Hp) (base : Heap), SqL K H a (ns.map V.int) ∧ K.In base ∧ base.Ns mainGlobals mg ∧ Env0 P w K mg base callerA [] s H ∧
      ∀ (Z : V → Prop) (u : Value) (s2 : Shared), CE [] P w H s (fun v _ => Z v) u s2 → (∃ v, RelV v u ∧ Z v) ∧ OldK s.heap s2.heap ∧ s2.os = s.os ∧ AllBare s2.gens := by
  have rel := vals_ints whole
  have lenV := whole.length
  -- any H that tells no more than the script, and that only where the written part does not hold it, will do
  have fits : ∀ H : Hp, (∀ b, H b = none ∨ ∃ o xs, H b = some (.frz o (.lst xs))) → SqL K H a (ns.map V.int) → HOk P w H s.heap → (∀ b, b ≠ a → H b = none) → (∀ o, K.lookup a = some o → H a = none) →
      ∃ (H : Hp) (base : Heap), SqL K H a (ns.map V.int) ∧ K.In base ∧ base.Ns mainGlobals mg ∧ Env0 P w K mg base callerA [] s H ∧
        ∀ (Z : V → Prop) (u : Value) (s2 : Shared), CE [] P w H s (fun v _ => Z v) u s2 → (∃ v, RelV v u ∧ Z v) ∧ OldK s.heap s2.heap ∧ s2.os = s.os ∧ AllBare s2.gens := by
    intro H only seq ok else_ apart
    have dictFree : ∀ (b : Addr) (o : Obj) (es : Array DictEntry) (n : Nat), s.heap.get? b = some o → o.data = .dict es n → H b = none := by
      intro b o es n e d
      by_cases z : b = a
      · subst z
        rw [script] at e
        injection e with e
        subst e
        cases d
      · exact else_ b z
    have nsOf : ∀ {b : Addr} {m : Str → Option Value}, s.heap.Ns b m → (hidT s.heap H).Ns b m := by
      rintro b m ⟨o, es, n, e, d, r⟩
      exact ⟨o, es, n, hidT_get e (dictFree b o es n e d), d, r⟩
    have kinB : K.In (hidT s.heap H) := by
      intro b o e
      refine hidT_get (kin b o e) ?_
      by_cases z : b = a
      · subst z
        exact apart o e
      · exact else_ b z
    obtain ⟨mc, lim1, lim2⟩ := lim
    refine ⟨H, hidT s.heap H, seq, kinB, nsOf top, ⟨rfl, ⟨kinB, nsOf top, ⟨mb, nsOf blt, boot⟩, mc, nsOf lim1, lim2⟩, fun b o e => of_hidT e, Nat.le_of_eq (hidT_size _ _), trivial, fun b hb => (nomatch (show b ∈ ([] : List Addr) from hb)), ok, .of_eq gens⟩, ?_⟩
    rintro Z u s2 ⟨v, H2, os, bare, un, ok2, r, z⟩
    refine ⟨⟨v, r, z⟩, OldK.of_keep fun b o e => ?_, os, bare⟩
    rcases only b with n | ⟨o1, xs, n⟩
    · exact un.keep b o e n (fun y => nomatch (show b ∈ ([] : List Addr) from y)) (fun y => nomatch y)
    · obtain ⟨e1, _⟩ := ok b _ n
      obtain ⟨e2, _⟩ := ok2 b _ (un.frzs b o1 _ n)
      rw [e] at e1
      injection e1 with e1
      subst e1
      exact e2
  cases kl : K.lookup a with
  | some o =>
    have e := kin a o kl
    rw [script] at e
    injection e with e
    subst e
    exact fits (fun _ => none) (fun _ => .inl rfl) (.inr ⟨_, vs.toArray, _, kl, rfl, rfl, rfl, by rw [List.size_toArray, lenV]; exact short, by simpa using rel⟩) (fun _ _ z => nomatch z) (fun _ _ => rfl) fun _ _ => rfl
  | none =>
    refine fits (fun b => if b = a then some (.frz { cls := .type "list", data := .seq vs.toArray } (.lst (ns.map V.int))) else none) ?_ (.inl (.inr ⟨_, if_pos rfl⟩)) ?_ (fun b n => if_neg n) fun o z => ?_
    · intro b
      by_cases z : b = a
      · exact .inr ⟨_, _, if_pos z⟩
      · exact .inl (if_neg z)
    · intro b u q
      by_cases z : b = a
      · subst z
        have q := (if_pos rfl).symm.trans q
        injection q with q
        subst q
        exact ⟨script, by rw [List.length_map]; exact short, vs, _, rel, script⟩
      · have q := (if_neg z).symm.trans q
        cases q
    · rw [kl] at z
      cases z
/-- the goal that the head leaves, from the law's promise; the script's numbers have at most 2 ^ 20 bits -/
theorem walkG {l : PySem.W.OpenLaw} {n k : Nat} {q : Program} {loose : List Str} {XP : (Str → Option Value) → Heap → Prop} {YP : World → Heap → Prop} {d : DefRec} {K : Params → PySem.W.Frag} {x : Str} (hn : l.most = some n) (hn2 : n ≤ sizeLine) (hdf : d.params.defaults = []) (room : Room k callerA)
    (hY : ∀ (w : World) (h : Heap), YP w h → (K w.params).In h)
    (F : ∀ (w : World) (mg : Str → Option Value) (fa : Addr) (h : Heap), (K w.params).In h → h.Ns mainGlobals mg → mg d.name = some (.ref fa) →
      ∃ fd : FuncData, (∀ (s : Shared) (u : Value), BindsTo s fd ⟨[u], []⟩ [(x, u)]) ∧ ∀ base : Heap, (K w.params).In base → base.Ns mainGlobals mg → FnG l.prog w (K w.params) mg base CX0 k fa fd [x] (fun vs H Q _ => ∃ (a : Addr) (ns : List Int), vs = [.ref a] ∧ SqL (K w.params) H a (ns.map V.int) ∧ ns.length ≤ n ∧ ∀ H', Q (.bl true) H')) :
    PySem.W.WalkO q loose XP YP l.row.toRowW d [] (fun f vs => PySem.call f vs) := by
  refine Att.attach_call hn hdf ?_
  intro w s₀ s₁ mg mb fa o pm cd doc a vs ns G Y _ _ _ hmg script whole short gens
  have kin := hY w _ Y
  obtain ⟨fd, bind, prom⟩ := F w mg fa _ kin G.T.g hmg
  obtain ⟨H, base, seq, kinB, nsB, env, fin⟩ := law_start (P := l.prog) (w := w) kin G.T.g G.T.b G.T.builtins G.T.nolimit gens script whole (Nat.le_trans short hn2)
  refine codeAny_mono ((prom base kinB nsB).run callerA [] s₁ H ⟨[.ref a], []⟩ [.ref a] [.ref a] (fun v _ => v = .bl true) (fun _ _ _ => False) ⟨room, rfl⟩ env (bind s₁ (.ref a)) (.cons rfl .nil) ⟨a, ns, rfl, seq, short, fun _ => rfl⟩) ?_
  intro r s2 out
  cases r with
  | error e => exact out.elim
  | ok flow =>
    cases flow with
    | ret u =>
      obtain ⟨⟨v, rv, z⟩, h1, h2, h3⟩ := fin (fun v => v = .bl true) u s2 out
      subst z
      obtain rfl : u = Value.bool true := rv
      exact ⟨rfl, h1, h2, h3⟩
    | next => exact out.elim
    | brk => exact out.elim
    | cont => exact out.elim
end Vx
/-! # third part: what a def computes, as a plain function with refusals -/
namespace Vx
open PySem PySem.Spec PyProof.Rows L2
inductive Rx (α : Type) where
  | ok (a : α)
  | er (e : Nat)
  | bad
def Rx.bind {α β : Type} (m : Rx α) (f : α → Rx β) : Rx β :=
  match m with
  | .ok a => f a
  | .er e => .er e
  | .bad => .bad
/-- what is wanted of an outcome -/
@[irreducible] def cW {α : Type} (m : Rx α) (K : α → Prop) (E : Nat → Prop) : Prop :=
  match m with
  | .ok a => K a
  | .er e => E e
  | .bad => False
def grd {α : Type} (p : Prop) [Decidable p] (m : Rx α) : Rx α := if p then m else .bad
/-- within a comprehension nothing may be raised -/
def noEr {α : Type} (m : Rx α) : Rx α :=
  match m with
  | .ok a => .ok a
  | _ => .bad
/-- what the clause does not name may not come -/
def tryR {α β : Type} (m : Rx α) (cs : List Nat) (f : α → Rx β) (h : Nat → Rx β) : Rx β :=
  match m with
  | .ok a => f a
  | .er e => if e ∈ cs then h e else .bad
  | .bad => .bad
def bnd {α β : Type} (a : α) (f : α → Rx β) : Rx β := f a
inductive Lp (σ ρ : Type) where
  | go (s : σ)
  | bk (s : σ)
  | rt (r : ρ)
def Lp.aft {σ ρ τ : Type} (l : Lp σ ρ) (kr : ρ → Rx τ) (k : σ → Rx τ) : Rx τ :=
  match l with
  | .go s => k s
  | .bk s => k s
  | .rt r => kr r
def forS {σ α : Type} : List α → σ → (σ → α → Rx σ) → Rx σ
  | [], s, _ => .ok s
  | x :: r, s, f => (f s x).bind fun s' => forS r s' f
def forR {σ α ρ : Type} : List α → σ → (σ → α → Rx (Lp σ ρ)) → Rx (Lp σ ρ)
  | [], s, _ => .ok (.go s)
  | x :: r, s, f => (f s x).bind fun l =>
    match l with
    | .go s' => forR r s' f
    | .bk s' => .ok (.go s')
    | .rt v => .ok (.rt v)
def whileR {σ ρ : Type} : Nat → σ → (σ → Rx (Lp σ ρ)) → Rx (Lp σ ρ)
  | 0, _, _ => .bad
  | n + 1, s, f => (f s).bind fun l =>
    match l with
    | .go s' => whileR n s' f
    | .bk s' => .ok (.go s')
    | .rt v => .ok (.rt v)
def mapA {α β : Type} : List α → List β → (α → Rx β) → Rx (List β)
  | [], acc, _ => .ok acc
  | x :: r, acc, f => grd (acc.length ≤ 1000000) ((f x).bind fun y => mapA r (acc ++ [y]) f)
def mapF {α β : Type} : List α → List β → (α → Rx (Option β)) → Rx (List β)
  | [], acc, _ => .ok acc
  | x :: r, acc, f => grd (acc.length ≤ 1000000) ((f x).bind fun y =>
    match y with
    | some z => mapF r (acc ++ [z]) f
    | none => mapF r acc f)
section
variable {α β γ σ ρ τ : Type} {K : α → Prop} {E : Nat → Prop}
theorem cW_ok {a : α} (h : cW (.ok a) K E) : K a := by
  unfold cW at h
  exact h
theorem cW_er {e : Nat} (h : cW (.er e : Rx α) K E) : E e := by
  unfold cW at h
  exact h
theorem cW_bad {C : Prop} (h : cW (.bad : Rx α) K E) : C := by
  unfold cW at h
  exact h.elim
theorem cW_mk {a : α} (h : K a) : cW (.ok a) K E := by
  unfold cW
  exact h
theorem cW_mkE {e : Nat} (h : E e) : cW (.er e : Rx α) K E := by
  unfold cW
  exact h
theorem cW_gen {m : Rx α} (h : cW m K E) : ∃ (K' : α → Prop) (E' : Nat → Prop), (∀ v, K' v → K v) ∧ (∀ e, E' e → E e) ∧ cW m K' E' := ⟨K, E, fun _ x => x, fun _ x => x, h⟩
theorem cW_grd {p : Prop} {dp : Decidable p} {m : Rx α} (h : cW (grd p m) K E) : p ∧ cW m K E := by
  unfold grd at h
  split at h
  · exact ⟨‹p›, h⟩
  · exact cW_bad h
theorem cW_pos {p : Prop} {dp : Decidable p} {a b : Rx α} (c : p) (h : cW (if p then a else b) K E) : cW a K E := by rwa [if_pos c] at h
theorem cW_neg {p : Prop} {dp : Decidable p} {a b : Rx α} (c : ¬ p) (h : cW (if p then a else b) K E) : cW b K E := by rwa [if_neg c] at h
theorem cW_call {m : Rx β} {f : β → Rx α} {K2 : β → Prop} {E2 : Nat → Prop} (h : cW (m.bind f) K E) (ho : ∀ v, cW (f v) K E → K2 v) (he : ∀ e, E e → E2 e) : cW m K2 E2 := by
  cases m with
  | ok a => exact cW_mk (ho a h)
  | er e => exact cW_mkE (he e (cW_er (α := α) h))
  | bad => exact cW_bad (α := α) h
theorem cW_push {m : Rx β} {f : β → Rx α} (h : cW (m.bind f) K E) : ∃ K2 : β → Prop, (∀ v, K2 v → cW (f v) K E) ∧ cW m K2 E := ⟨fun v => cW (f v) K E, fun _ x => x, cW_call h (fun _ x => x) fun _ x => x⟩
theorem cW_name {m : Rx α} (h : cW m K E) : ∃ K' : α → Prop, (∀ v, K' v → K v) ∧ cW m K' E := ⟨K, fun _ x => x, h⟩
theorem cW_noEr {m : Rx α} (h : cW (noEr m) K E) : cW m K (fun _ => False) := by
  cases m with
  | ok a => exact cW_mk (cW_ok (α := α) h)
  | er e => exact cW_bad (α := α) h
  | bad => exact cW_bad (α := α) h
theorem cW_try {m : Rx β} {cs : List Nat} {f : β → Rx α} {g : Nat → Rx α} {K2 : β → Prop} {E2 : Nat → Prop} (h : cW (tryR m cs f g) K E) (ho : ∀ v, cW (f v) K E → K2 v) (hc : ∀ e, e ∈ cs → cW (g e) K E → E2 e) : cW m K2 E2 := by
  cases m with
  | ok a => exact cW_mk (ho a h)
  | er e =>
    have h2 : cW (if e ∈ cs then g e else .bad) K E := h
    by_cases q : e ∈ cs
    · exact cW_mkE (hc e q (cW_pos q h2))
    · exact cW_bad (cW_neg q h2)
  | bad => exact cW_bad (α := α) h
theorem cW_bnd {a : β} {f : β → Rx α} (h : cW (bnd a f) K E) : cW (f a) K E := h
theorem cW_negB {b : Bool} {x y : Rx α} (c : b = false) (h : cW (if b = true then x else y) K E) : cW y K E := cW_neg (by rw [c]; decide) h
theorem cW_forS {xs : List β} {i : Nat} {x : β} {s : α} {f : α → β → Rx α} (hx : xs[i]? = some x) (h : cW (forS (xs.drop i) s f) K E) : cW (f s x) (fun s' => cW (forS (xs.drop (i + 1)) s' f) K E) E := by
  rw [List.drop_eq_getElem?_toList_append, hx] at h
  exact cW_call h (fun _ z => z) fun _ z => z
theorem cW_forS0 {xs : List β} {n : Nat} {s : α} {f : α → β → Rx α} (hn : n = xs.length) (h : cW (forS (xs.drop n) s f) K E) : K s := by
  subst hn
  rw [List.drop_length] at h
  exact cW_ok h
theorem cW_forR {K : Lp σ ρ → Prop} {xs : List β} {i : Nat} {x : β} {s : σ} {f : σ → β → Rx (Lp σ ρ)} (hx : xs[i]? = some x) (h : cW (forR (xs.drop i) s f) K E) :
    cW (f s x) (fun l => match l with | .go s' => cW (forR (xs.drop (i + 1)) s' f) K E | .bk s' => K (.go s') | .rt v => K (.rt v)) E := by
  rw [List.drop_eq_getElem?_toList_append, hx] at h
  refine cW_call h (fun l z => ?_) fun _ z => z
  cases l with
  | go s' => exact z
  | bk s' => exact cW_ok (K := K) (a := .go s') z
  | rt v => exact cW_ok (K := K) (a := .rt v) z
theorem cW_forR0 {K : Lp σ ρ → Prop} {xs : List β} {n : Nat} {s : σ} {f : σ → β → Rx (Lp σ ρ)} (hn : n = xs.length) (h : cW (forR (xs.drop n) s f) K E) : K (.go s) := by
  subst hn
  rw [List.drop_length] at h
  exact cW_ok h
theorem cW_whileR {K : Lp σ ρ → Prop} {m : Nat} {s : σ} {f : σ → Rx (Lp σ ρ)} (h : cW (whileR m s f) K E) :
    ∃ n, m = n + 1 ∧ cW (f s) (fun l => match l with | .go s' => cW (whileR n s' f) K E | .bk s' => K (.go s') | .rt v => K (.rt v)) E := by
  cases m with
  | zero => exact cW_bad h
  | succ n =>
    refine ⟨n, rfl, cW_call h (fun l z => ?_) fun _ z => z⟩
    cases l with
    | go s' => exact z
    | bk s' => exact cW_ok (K := K) (a := .go s') z
    | rt v => exact cW_ok (K := K) (a := .rt v) z
theorem cW_mapA {K : List α → Prop} {xs : List β} {acc : List α} {i : Nat} {x : β} {f : β → Rx α} (hx : xs[i]? = some x) (h : cW (mapA (xs.drop i) acc f) K E) :
    acc.length ≤ 1000000 ∧ cW (f x) (fun y => cW (mapA (xs.drop (i + 1)) (acc ++ [y]) f) K E) E := by
  rw [List.drop_eq_getElem?_toList_append, hx] at h
  obtain ⟨z, h⟩ := cW_grd h
  exact ⟨z, cW_call h (fun _ z => z) fun _ z => z⟩
theorem cW_mapA0 {K : List α → Prop} {xs : List β} {acc : List α} {n : Nat} {f : β → Rx α} (hn : n = xs.length) (h : cW (mapA (xs.drop n) acc f) K E) : K acc := by
  subst hn
  rw [List.drop_length] at h
  exact cW_ok h
theorem cW_mapF {K : List α → Prop} {xs : List β} {acc : List α} {i : Nat} {x : β} {f : β → Rx (Option α)} (hx : xs[i]? = some x) (h : cW (mapF (xs.drop i) acc f) K E) :
    acc.length ≤ 1000000 ∧ cW (f x) (fun y => match y with | some z => cW (mapF (xs.drop (i + 1)) (acc ++ [z]) f) K E | none => cW (mapF (xs.drop (i + 1)) acc f) K E) E := by
  rw [List.drop_eq_getElem?_toList_append, hx] at h
  obtain ⟨z, h⟩ := cW_grd h
  refine ⟨z, cW_call h (fun y z => ?_) fun _ z => z⟩
  cases y with
  | none => exact z
  | some w => exact z
theorem cW_mapF0 {K : List α → Prop} {xs : List β} {acc : List α} {n : Nat} {f : β → Rx (Option α)} (hn : n = xs.length) (h : cW (mapF (xs.drop n) acc f) K E) : K acc := by
  subst hn
  rw [List.drop_length] at h
  exact cW_ok h
end
/-- the numbers of a range -/
def rng (lo : Int) (n : Nat) : List Int := (List.range n).map fun (j : Nat) => lo + (j : Int)
theorem rng_get {lo : Int} {n i : Nat} (h : i < n) : (rng lo n)[i]? = some (lo + (i : Int)) := by
  unfold rng
  rw [List.getElem?_map, List.getElem?_range h] <;> rfl
theorem rng_len (lo : Int) (n : Nat) : (rng lo n).length = n := by
  unfold rng
  rw [List.length_map, List.length_range]

def rngD (lo : Int) (n : Nat) : List Int := (List.range n).map fun (j : Nat) => lo + (j : Int) * (-1)
theorem rngD_get {lo : Int} {n i : Nat} (h : i < n) : (rngD lo n)[i]? = some (lo + (i : Int) * (-1)) := by
  unfold rngD
  rw [List.getElem?_map, List.getElem?_range h] <;> rfl
theorem rngD_len (lo : Int) (n : Nat) : (rngD lo n).length = n := by
  unfold rngD
  rw [List.length_map, List.length_range]

/-! ### calls that may raise -/
/-- what a call with n values and keywords ks gives the parameters -/
structure Bnd (K : PySem.W.Frag) (fd : FuncData) (ps : List Str) (n : Nat) (ks : List Str) (g : List V → List V → List V) : Prop where
  to : ∀ (s : Shared) (us ws : List Value) (vs zs : List V), K.In s.heap → vs.length = n → zs.length = ks.length → Vals vs us → Vals zs ws → ∃ vv : List Value, BindsTo s fd ⟨us, ks.zip ws⟩ (ps.zip vv) ∧ Vals (g vs zs) vv
theorem Bnd.of_kbn {K : PySem.W.Frag} {fd : FuncData} {ps ks : List Str} {n : Nat} {g : List Value → List Value → List Value} {gV : List V → List V → List V} (b : KBn K fd ps n ks g gV) : Bnd K fd ps n ks gV :=
  ⟨fun s us ws vs zs X l1 l2 r rz => ⟨g us ws, b.to s us ws X (r.length.symm.trans l1) (rz.length.symm.trans l2), b.rel r rz⟩⟩
theorem Bnd.all {K : PySem.W.Frag} {fd : FuncData} {ps ks : List Str} {n : Nat} {g : List V → List V → List V} (h : ∀ (us ws : List Value) (vs zs : List V), vs.length = n → zs.length = ks.length → Vals vs us → Vals zs ws →
    ∃ vv : List Value, bindArgs fd ⟨us, ks.zip ws⟩ = pure (ps.zip vv) ∧ Vals (g vs zs) vv) : Bnd K fd ps n ks g :=
  ⟨fun s us ws vs zs _ l1 l2 r rz => by
    obtain ⟨vv, e, q⟩ := h us ws vs zs l1 l2 r rz
    exact ⟨vv, BindsTo.of_eq e, q⟩⟩
abbrev Pat := Nat × List Str × (List V → List V → List V)
def Bnd1 (K : PySem.W.Frag) (fd : FuncData) (ps : List Str) (p : Pat) : Prop := Bnd K fd ps p.1 p.2.1 p.2.2
section
variable {P : Program} {w : World} {K : PySem.W.Frag} {mg : Str → Option Value} {base : Heap}
/-- a def of the top, with the ways it is called -/
structure DefX (K : PySem.W.Frag) (mg : Str → Option Value) (x : Str) (st : Stmt) (ps : List Str) (pats : List Pat) : Prop where
  ex : ∃ (f : Addr) (fd : FuncData) (dvs : List V) (kws : List (Str × V)), FunD K x x (defArgs st) (defBody st) (defScope st) dvs kws f fd ∧ mg x = some (.ref f) ∧ ∀ p ∈ pats, Bnd1 K fd ps p
structure CalX (P : Program) (w : World) (K : PySem.W.Frag) (mg : Str → Option Value) (base : Heap) (k : Nat) (x : Str) (sp : Sp) (pats : List Pat) : Prop where
  ex : ∃ (f : Addr) (fd : FuncData) (ps : List Str), FnG P w K mg base (L2.CX P w) k f fd ps sp ∧ mg x = some (.ref f) ∧ PySem.W.keepIn K (.ref f) = true ∧ ∀ p ∈ pats, Bnd1 K fd ps p
abbrev BodyX (P : Program) (w : World) (K : PySem.W.Frag) (mg : Str → Option Value) (base : Heap) (x : Str) (st : Stmt) (N : List Str) (k : Nat) (sp : Sp) : Prop :=
  ∀ (f : Addr) (cdv : Value) (A : Around) (outer : List Env) (s : Shared) (H : Hp) (vs : List V) (Q : VK) (E : XK), RoomG k (A.deeper (envOfC x (defScope st) s.heap.objs.size f cdv)) → sp vs H Q E →
    ∃ t, PSs (cxOf (L2.CX P w) P w K mg base N x (defScope st) f cdv A outer s H E) (defBody st) t ∧ t { nx := fun _ H' => Q .non H', rt := Q } (start N vs) H
theorem DefX.ok {x : Str} {st : Stmt} {N ps : List Str} {pats : List Pat} {k : Nat} {sp : Sp} (D : DefX K mg x st ps pats) (S : FnScope N ps (defScope st)) (len : ∀ vs H Q E, sp vs H Q E → vs.length = ps.length)
    (hbody : BodyX P w K mg base x st N k sp) : CalX P w K mg base (k + 1) x sp pats := by
  obtain ⟨f, fd, dvs, kws, F, hm, b⟩ := D.ex
  exact ⟨f, fd, ps, FnG.body F S len (fun cdv A outer s H vs Q E hr h => hbody f cdv A outer s H vs Q E hr h), hm, F.kp, b⟩
end
section
variable {X : Cx} {k j n : Nat} {f : Addr} {fd : FuncData} {ps ks : List Str} {g : List V → List V → List V} {sp : Sp} {x : Str} {pos p : Pos} {e : Expr} {es : List Expr} {kws : List Keyword} {t tk : TA} {W : WX}
theorem run_X {pins : List (Addr × Obj)} {σ : L2.St} {H : Hp} {s : Shared} {Q : VK} {us ws : List Value} {vs zs : List V} (F : FnG X.prog X.w X.K X.mg X.base (L2.CX X.prog X.w) k f fd ps sp) (hr : RoomG k X.A) (hb : Bnd X.K fd ps n ks g) (tkW : Takes X W)
    (I : Inv X pins σ H s) (r : Vals vs us) (rz : Vals zs ws) (l1 : vs.length = n) (l2 : zs.length = ks.length) (h : sp (g vs zs) H Q (WE W σ)) :
    wpAny (model X.prog X.w) X.A (call (.ref f) us (ks.zip ws)) (EP X pins σ Q) X.xe s := by
  obtain ⟨vv, b, r2⟩ := hb.to s us ws vs zs I.kIn l1 l2 r rz
  refine wpAny_call (codeAny_mono (F.run X.A X.stack s H ⟨us, ks.zip ws⟩ vv (g vs zs) Q (WE W σ) hr I.env0 b r2 h) fun rr s' hq => ?_)
  cases rr with
  | error er => exact passAt tkW σ pins H s er s' I hq
  | ok fl =>
    cases fl with
    | ret u => exact I.after hq
    | next => exact hq.elim
    | brk => exact hq.elim
    | cont => exact hq.elim
/-- f(e, .., k = v, ..) -/
def tCallX (n m : Nat) (sp : Sp) (g : List V → List V → List V) (W : WX) (t tk : TA) : TE := fun σ H Q => t σ H fun vs H1 => tk σ H1 fun zs H2 => vs.length = n ∧ zs.length = m ∧ sp (g vs zs) H2 Q (WE W σ)
theorem vx_callX {pats : List Pat} (c : CalX X.prog X.w X.K X.mg X.base k x sp pats) (pt : Pat) (hpt : pt ∈ pats) (hr : RoomG j X.A) (hk : k ≤ j) (tkW : Takes X W) (hg : Gl X x) (ha : PA X (e :: es) t) (hkw : PK X kws tk)
    (hall : (backToKw pos (keywordEach kws X.env)).all (·.1.isSome) = true := by rfl) (hks : (backToKw pos (keywordEach kws X.env)).filterMap (·.1) = pt.2.1 := by rfl)
    (hdb : (x == ("__debug__" : Str)) = false := by decide) (he : starEach (e :: es) X.env = (false, eval e X.env) :: starEach es X.env := by rfl)
    (hpl : ((backTo pos (starEach (e :: es) X.env)).any (·.1) || (backToKw pos (keywordEach kws X.env)).any (·.1.isNone)) = false := by rfl) :
    PE X (.Call (.Name x p) (e :: es) kws pos) (tCallX pt.1 pt.2.1.length sp pt.2.2 W t tk) := by
  obtain ⟨f, fd, ps, F, hm, kp, b⟩ := c.ex
  refine ⟨fun pins s σ H Q I h => ?_⟩
  refine wpAny_Call_Name_kw (ld_glob I hg hm ?_ hdb)
  refine PySem.W.callWith_KW (h₀ := X.base) I.ok.mod.kin kp hall (thn (ha.run pos pins s σ H _ I h) fun us s1 ⟨vs, H1, I1, r, q⟩ => ?_) hpl he
  refine thn (hkw.run pos pins s1 σ H1 _ I1 q) fun ws s2 ⟨zs, H2, I2, rz, l1, l2, q2⟩ => ⟨I2.kIn, ?_⟩
  rw [hks]
  exact run_X F (hr.low hk) (b pt hpt) tkW I2 r rz l1 l2 q2
theorem vx_callX0 {pats : List Pat} (c : CalX X.prog X.w X.K X.mg X.base k x sp pats) (pt : Pat) (hpt : pt ∈ pats) (hr : RoomG j X.A) (hk : k ≤ j) (tkW : Takes X W) (hg : Gl X x) (hks : pt.2.1 = [] := by rfl)
    (hdb : (x == ("__debug__" : Str)) = false := by decide) : PE X (.Call (.Name x p) [] [] pos) (tCallX pt.1 pt.2.1.length sp pt.2.2 W tNil tNil) := by
  obtain ⟨f, fd, ps, F, hm, kp, b⟩ := c.ex
  refine ⟨fun pins s σ H Q I h => ?_⟩
  refine wpAny_Call_Name_kw (ld_glob I hg hm ?_ hdb)
  obtain ⟨l1, l2, q2⟩ := h
  have hz := run_X (us := []) (ws := []) F (hr.low hk) (b pt hpt) tkW I .nil .nil l1 l2 q2
  rw [hks] at hz
  exact PySem.W.callWith_K0 I.kIn kp hz
end
/-! ### borrowed things -/
theorem Sep.bM {M : List Addr} {H0 G0 G H : Hp} {O : List (Addr)} (S : Sep M H0 G0 G H O) : Same (hideL M H0) H := fun b o e => by
  by_cases h : b ∈ M
  · rw [hideL_in h] at e
    cases e
  · rw [hideL_out h] at e
    exact S.base b o e h
theorem b_ne {M : List Addr} {H0 G0 G H : Hp} {O : List Addr} {a b : Addr} {o : HO} (h : (hideL M H0) a = some o) (S : Sep M H0 G0 G H O) (hb : b ∈ O) : a ≠ b := fun z => by
  subst z
  rcases (S.ow a hb).2.2 with q | q
  · rw [hideL_in q] at h
    cases h
  · by_cases hM : a ∈ M
    · rw [hideL_in hM] at h
      cases h
    · rw [hideL_out hM, q] at h
      cases h
theorem hide0 {H : Hp} : hideL [] H = H := by
  funext b
  unfold hideL
  rw [if_neg List.not_mem_nil]
theorem hide_nil {H : Hp} {a : Addr} {o : HO} (h : H a = some o) : (hideL [] H) a = some o := by
  rw [hide0]
  exact h
theorem Rp.hide_nil {H : Hp} {v : V} {d : PyData} (h : Rp H v d) : Rp (hideL [] H) v d := by
  rw [hide0]
  exact h
theorem Sep.startM {M : List Addr} {G H : Hp} (e : Same G H) (hM : ∀ a ∈ M, H a ≠ none) (hG : ∀ a ∈ M, G a = none) : Sep M H G G H M :=
  ⟨fun _ _ e _ => e, hM, e, Same.refl _, fun _ _ e => e, fun a ha => ⟨hG a ha, hM a ha, .inl ha⟩⟩
theorem Sep.gno {M : List Addr} {H0 G0 G H : Hp} {O L : List Addr} (S : Sep M H0 G0 G H O) (h : ∀ a ∈ L, a ∈ O) : ∀ a ∈ L, G a = none := fun a ha => (S.ow a (h a ha)).1
theorem RpAll.ixD {α : Type} [Inhabited α] {f : α → PyData} {H : Hp} {vs : List V} {xs : List α} {k : Int} (r : RpAll H vs (xs.map f)) (h : -(xs.length : Int) ≤ k ∧ k < xs.length) : ∃ v, atI vs k = some v ∧ Rp H v (f (itD xs k)) := by
  obtain ⟨v, x, h1, h2, h3⟩ := RpAll.ix r h
  refine ⟨v, h1, ?_⟩
  unfold itD
  rw [h2]
  exact h3
theorem tru_all {α : Type} [DecidableEq α] {f : α → PyData} {H : Hp} {vs : List V} {xs : List α} (r : RpAll H vs (xs.map f)) : (!decide (xs = [])) = !vs.isEmpty := by
  have h := r.len
  rw [List.length_map] at h
  cases xs <;> cases vs <;> simp_all
theorem ix_nn {α : Type} {xs : List α} {k : Int} (h0 : 0 ≤ k) (h1 : k < xs.length) : -(xs.length : Int) ≤ k ∧ k < xs.length := ⟨by omega, h1⟩
theorem all_nilQ {α : Type} {P : α → Prop} : ∀ x ∈ ([] : List α), P x := fun x h => by cases h
theorem all_consQ {α : Type} {P : α → Prop} {a : α} {l : List α} (h : P a) (t : ∀ x ∈ l, P x) : ∀ x ∈ a :: l, P x := fun x hx => by
  rcases List.mem_cons.mp hx with rfl | hx
  · exact h
  · exact t x hx
theorem mem_one {a b : Nat} (h : a ∈ [b]) : a = b := by simpa using h
theorem mem_cons2 {a b : Nat} {l : List Nat} (h : a ∈ b :: l) : a = b ∨ a ∈ l := List.mem_cons.mp h
theorem len0 {α : Type} {l : List α} (h : l.length = 0) : l = [] := List.length_eq_zero_iff.mp h
theorem len1 {α : Type} {l : List α} (h : l.length = 1) : ∃ a, l = [a] := List.length_eq_one_iff.mp h
theorem len_s {α : Type} {l : List α} {n : Nat} (h : l.length = n + 1) : ∃ a r, l = a :: r ∧ r.length = n := by
  cases l with
  | nil => cases h
  | cons a r => exact ⟨a, r, rfl, Nat.succ.inj h⟩
theorem len2 {α : Type} {l : List α} (h : l.length = 2) : ∃ a b, l = [a, b] := by
  obtain ⟨a, r, rfl, h2⟩ := len_s h
  obtain ⟨b, rfl⟩ := len1 h2
  exact ⟨a, b, rfl⟩
theorem len3 {α : Type} {l : List α} (h : l.length = 3) : ∃ a b c, l = [a, b, c] := by
  obtain ⟨a, r, rfl, h2⟩ := len_s h
  obtain ⟨b, c, rfl⟩ := len2 h2
  exact ⟨a, b, c, rfl⟩
theorem len4 {α : Type} {l : List α} (h : l.length = 4) : ∃ a b c d, l = [a, b, c, d] := by
  obtain ⟨a, r, rfl, h2⟩ := len_s h
  obtain ⟨b, c, d, rfl⟩ := len3 h2
  exact ⟨a, b, c, d, rfl⟩
theorem len5 {α : Type} {l : List α} (h : l.length = 5) : ∃ a b c d e, l = [a, b, c, d, e] := by
  obtain ⟨a, r, rfl, h2⟩ := len_s h
  obtain ⟨b, c, d, e, rfl⟩ := len4 h2
  exact ⟨a, b, c, d, e, rfl⟩
theorem len6 {α : Type} {l : List α} (h : l.length = 6) : ∃ a b c d e f, l = [a, b, c, d, e, f] := by
  obtain ⟨a, r, rfl, h2⟩ := len_s h
  obtain ⟨b, c, d, e, f, rfl⟩ := len5 h2
  exact ⟨a, b, c, d, e, f, rfl⟩
theorem len7 {α : Type} {l : List α} (h : l.length = 7) : ∃ a b c d e f g, l = [a, b, c, d, e, f, g] := by
  obtain ⟨a, r, rfl, h2⟩ := len_s h
  obtain ⟨b, c, d, e, f, g, rfl⟩ := len6 h2
  exact ⟨a, b, c, d, e, f, g, rfl⟩
def rLenTK (K : PySem.W.Frag) : List V → Hp → VK → Prop := fun xs H Q => ∃ (p : Addr) (vs : List V) (n : Nat), xs = [.ref p] ∧ SqT K H p vs ∧ vs.length = n ∧ Q (.int (n : Int)) H
theorem call_lenTK {X : Cx} {K : PySem.W.Frag} (hK : X.K = K := by rfl) : CallR X (.builtin "len") (rLenTK K) := by
  subst hK
  intro pins s σ H xs us Q I r h
  obtain ⟨p, vs, n, rfl, hs, hn, q⟩ := h
  exact call_len_seq pins s σ H _ us Q I r ⟨p, _, rfl, Or.inr hs, by rw [hn]; exact q⟩
theorem exm_mk {K : PySem.W.Frag} {S C : Addr} (h1 : PySem.W.subIn K (.ref C) (.type "BaseException") = some true) (h2 : PySem.W.isClsIn K C = true) (h3 : PySem.W.typeIn K (.ref C) = some (.type "type")) (h4 : PySem.W.subIn K (.ref S) (.ref C) = some true) :
    PySem.W.exmOne K (.ref S) (.ref C) = some true := by
  unfold PySem.W.isClsIn at h2
  unfold PySem.W.exmOne
  unfold PySem.W.kitCls
  simp only [h1, h2, h3, h4, beq_self_eq_true, Bool.and_self, if_true]
theorem kit_mk {K : PySem.W.Frag} {S C : Addr} (h2 : PySem.W.isClsIn K C = true) (h3 : PySem.W.typeIn K (.ref C) = some (.type "type")) (h4 : PySem.W.subIn K (.ref S) (.ref C) = some true) :
    PySem.W.kitOne K (.ref S) (.ref C) = some true := by
  unfold PySem.W.isClsIn at h2
  unfold PySem.W.kitOne
  split
  · rfl
  · unfold PySem.W.kitCls
    simp only [h2, h3, h4, beq_self_eq_true, Bool.and_self, if_true]
/-- isinstance(e, C) of the exception in hand -/
def rIsX (K : PySem.W.Frag) (a : Addr) (cls : Value) (d : Option Addr) : List V → Hp → VK → Prop := fun xs H Q => ∃ (D C : Addr) (b : Bool), cls = .ref D ∧ d = none ∧ ExcC K D ∧ xs = [.ref a, .ref C] ∧ PySem.W.kitOne K (.ref D) (.ref C) = some b ∧ Q (.bl b) H
theorem call_isX {X : Cx} {K : PySem.W.Frag} {a : Addr} {cls : Value} {d : Option Addr} {oe : Obj} {pn : List (Addr × Obj)} (hz : Zc cls d oe) (hf : ∃ vs, oe.data = .fields vs) (hK : X.K = K := by rfl) : CallR (X.suite a ((a, oe) :: pn)) (.builtin "isinstance") (rIsX K a cls d) := by
  subst hK
  intro pins s σ H xs us Q I r h
  obtain ⟨D, C, b, rfl, rfl, c, rfl, e, q⟩ := h
  exact call_isE c hz hf pins s σ H _ us Q I r ⟨_, _, b, rfl, fun u z => z, e, q⟩
/-! ### unpacking a list -/
section
variable {X : Cx} {K : PySem.W.Frag} {pos : Pos}
theorem pg_seqK {es : List Expr} {k : Nat} {t : TGs} {n : Nat} (h : PGs X es t) (hc : X.calm = true := by rfl) (hK : X.K = K := by rfl)
    (hn : (assignEach es X.env).length = n := by rfl) (hst : (assignEach es X.env).findIdx? (·.1) = none := by rfl) : PG X (.Tuple es k pos) (gLst K n t) := hK ▸ pg_lst hc h hn hst
end
theorem SqL.cast {K : PySem.W.Frag} {H : Hp} {a : Addr} {xs ys : List V} (h : SqL K H a xs) (e : xs = ys) : SqL K H a ys := e ▸ h
section
variable {α : Type} [Inhabited α] {f : α → V}
theorem unp2 {xs : List α} (h : xs.length = 2) : xs.map f = [f (itD xs 0), f (itD xs 1)] := by
  obtain ⟨a, b, rfl⟩ := len2 h
  rfl
theorem unp3 {xs : List α} (h : xs.length = 3) : xs.map f = [f (itD xs 0), f (itD xs 1), f (itD xs 2)] := by
  obtain ⟨a, b, c, rfl⟩ := len3 h
  rfl
theorem unp4 {xs : List α} (h : xs.length = 4) : xs.map f = [f (itD xs 0), f (itD xs 1), f (itD xs 2), f (itD xs 3)] := by
  obtain ⟨a, b, c, d, rfl⟩ := len4 h
  rfl
theorem unp6 {xs : List α} (h : xs.length = 6) : xs.map f = [f (itD xs 0), f (itD xs 1), f (itD xs 2), f (itD xs 3), f (itD xs 4), f (itD xs 5)] := by
  obtain ⟨a, b, c, d, e, g, rfl⟩ := len6 h
  rfl
theorem unp8 {xs : List α} (h : xs.length = 8) : xs.map f = [f (itD xs 0), f (itD xs 1), f (itD xs 2), f (itD xs 3), f (itD xs 4), f (itD xs 5), f (itD xs 6), f (itD xs 7)] := by
  obtain ⟨a, r, rfl, h2⟩ := len_s h
  obtain ⟨b, c, d, e, g, i, j, rfl⟩ := len7 h2
  rfl
end
/-! ### classes -/
section
variable {P : Program} {w : World} {K : PySem.W.Frag} {mg : Str → Option Value} {base : Heap}
structure MethX (K : PySem.W.Frag) (C : Addr) (q m : Str) (st : Stmt) (ps : List Str) (pats : List Pat) : Prop where
  ex : ∃ (f : Addr) (fd : FuncData) (dvs : List V) (kws : List (Str × V)), FunD K m q (defArgs st) (defBody st) (defScope st) dvs kws f fd ∧ Meth K C m f ∧ ∀ p ∈ pats, Bnd1 K fd ps p
structure InitX (K : PySem.W.Frag) (mg : Str → Option Value) (C : Addr) (cn q : Str) (st : Stmt) (ps : List Str) (pats : List Pat) : Prop where
  ex : ∃ (f : Addr) (fd : FuncData) (dvs : List V) (kws : List (Str × V)), FunD K "__init__" q (defArgs st) (defBody st) (defScope st) dvs kws f fd ∧ Mk K C f ∧ mg cn = some (.ref C) ∧ ∀ p ∈ pats, Bnd1 K fd ps p
structure PropX (K : PySem.W.Frag) (C : Addr) (q m : Str) (st : Stmt) (ps : List Str) (pats : List Pat) : Prop where
  ex : ∃ (r f : Addr) (fd : FuncData) (dvs : List V) (kws : List (Str × V)), FunD K m q (defArgs st) (defBody st) (defScope st) dvs kws f fd ∧ PropOf K C m r f ∧ Binds K fd ps []
structure MetX (P : Program) (w : World) (K : PySem.W.Frag) (mg : Str → Option Value) (base : Heap) (k : Nat) (C : Addr) (m : Str) (sp : Sp) (pats : List Pat) : Prop where
  ex : ∃ (f : Addr) (fd : FuncData) (ps : List Str), Cls K C ∧ Meth K C m f ∧ FnG P w K mg base (L2.CX P w) k f fd ps sp ∧ ∀ p ∈ pats, Bnd1 K fd ps p
structure PropY (P : Program) (w : World) (K : PySem.W.Frag) (mg : Str → Option Value) (base : Heap) (k : Nat) (C : Addr) (m : Str) (sp : Sp) (pats : List Pat) : Prop where
  ex : ∃ (q f : Addr) (fd : FuncData) (ps : List Str), Cls K C ∧ PropOf K C m q f ∧ FnG P w K mg base (L2.CX P w) k f fd ps sp ∧ Binds K fd ps []
structure MakX (P : Program) (w : World) (K : PySem.W.Frag) (mg : Str → Option Value) (base : Heap) (k : Nat) (cn : Str) (C : Addr) (sp : Sp) (pats : List Pat) : Prop where
  ex : ∃ (f : Addr) (fd : FuncData) (ps : List Str), Mk K C f ∧ FnG P w K mg base (L2.CX P w) k f fd ps sp ∧ mg cn = some (.ref C) ∧ ∀ p ∈ pats, Bnd1 K fd ps p
theorem MethX.ok {C : Addr} {q m : Str} {st : Stmt} {N ps : List Str} {pats : List Pat} {k : Nat} {sp : Sp} (D : MethX K C q m st ps pats) (c : Cls K C) (S : FnScope N ps (defScope st)) (len : ∀ vs H Q E, sp vs H Q E → vs.length = ps.length)
    (hbody : BodyX P w K mg base q st N k sp) : MetX P w K mg base (k + 1) C m sp pats := by
  obtain ⟨f, fd, dvs, kws, F, me, b⟩ := D.ex
  exact ⟨f, fd, ps, c, me, FnG.body F S len (fun cdv A outer s H vs Q E hr h => hbody f cdv A outer s H vs Q E hr h), b⟩
theorem PropX.ok {C : Addr} {q m : Str} {st : Stmt} {N ps : List Str} {pats : List Pat} {k : Nat} {sp : Sp} (D : PropX K C q m st ps pats) (c : Cls K C) (S : FnScope N ps (defScope st)) (len : ∀ vs H Q E, sp vs H Q E → vs.length = ps.length)
    (hbody : BodyX P w K mg base q st N k sp) : PropY P w K mg base (k + 1) C m sp pats := by
  obtain ⟨r, f, fd, dvs, kws, F, me, b⟩ := D.ex
  exact ⟨r, f, fd, ps, c, me, FnG.body F S len (fun cdv A outer s H vs Q E hr h => hbody f cdv A outer s H vs Q E hr h), b⟩
theorem InitX.ok {C : Addr} {cn q : Str} {st : Stmt} {N ps : List Str} {pats : List Pat} {k : Nat} {sp : Sp} (D : InitX K mg C cn q st ps pats) (S : FnScope N ps (defScope st)) (len : ∀ vs H Q E, sp vs H Q E → vs.length = ps.length)
    (hbody : BodyX P w K mg base q st N k sp) : MakX P w K mg base (k + 1) cn C sp pats := by
  obtain ⟨f, fd, dvs, kws, F, me, hm, b⟩ := D.ex
  exact ⟨f, fd, ps, me, FnG.body F S len (fun cdv A outer s H vs Q E hr h => hbody f cdv A outer s H vs Q E hr h), hm, b⟩
end
theorem cW_callN {α β : Type} {m : Rx β} {f : β → Rx α} {K : α → Prop} {E : Nat → Prop} {K2 : β → Prop} {E2 : Nat → Prop} (h : cW ((noEr m).bind f) K E) (ho : ∀ v, cW (f v) K E → K2 v) (_ : True) : cW m K2 E2 := by
  cases m with
  | ok a => exact cW_mk (ho a h)
  | er e => exact cW_bad (α := α) h
  | bad => exact cW_bad (α := α) h
section
variable {X : Cx} {k j n : Nat} {f C : Addr} {fd : FuncData} {ps ks : List Str} {g : List V → List V → List V} {sp : Sp} {x m : Str} {pos p apos : Pos} {e o : Expr} {es : List Expr} {kws : List Keyword} {ta : TE} {t tk : TA} {W : WX}
theorem run_mkX {pins : List (Addr × Obj)} {σ : L2.St} {H : Hp} {s : Shared} {Q : VK} {us ws : List Value} {vs zs : List V} (M : Mk X.K C f) (F : FnG X.prog X.w X.K X.mg X.base (L2.CX X.prog X.w) k f fd ps sp) (hr : RoomG (k + 1) X.A) (hb : Bnd X.K fd ps n ks g) (tkW : Takes X W)
    (I : Inv X pins σ H s) (r : Vals vs us) (rz : Vals zs ws) (l1 : vs.length + 1 = n) (l2 : zs.length = ks.length)
    (h : ∀ x dx, H x = none → H dx = none → dx ≠ x → sp (g (.ref x :: vs) zs) (upd (upd H dx (.own x)) x (.ins C dx [])) (fun v H2 => v = .non ∧ Q (.ref x) H2) (WE W σ)) :
    wpAny (model X.prog X.w) X.A (call (.ref C) us (ks.zip ws)) (EP X pins σ Q) X.xe s := by
  have hq := h (s.heap.objs.size + 1) s.heap.objs.size (I.hok.fresh (Nat.le_succ _)) (I.hok.fresh (Nat.le_refl _)) (Nat.ne_of_lt (Nat.lt_succ_self _))
  have I2 := Inv.made (C := C) I
  have r1 : Vals (V.ref (s.heap.objs.size + 1) :: vs) (Value.ref (s.heap.objs.size + 1) :: us) := .cons rfl r
  obtain ⟨vv, b, r2⟩ := hb.to _ (Value.ref (s.heap.objs.size + 1) :: us) ws (V.ref (s.heap.objs.size + 1) :: vs) zs I2.kIn (by rw [List.length_cons, l1]) l2 r1 rz
  refine wpAny_call (make_map (f := f) I.kIn M.makes M.init (beq_iff_eq.mp M.fn) (codeAny_mono (F.run _ X.stack _ _ ⟨Value.ref (s.heap.objs.size + 1) :: us, ks.zip ws⟩ vv _ _ (WE W σ) (hr.made C us (ks.zip ws))
    (I2.env0.make C us (ks.zip ws)) b r2 hq) fun r s' hq' => ?_))
  cases r with
  | error e => exact passAt tkW σ pins _ _ e s' I2 hq'
  | ok fl =>
    cases fl with
    | ret u =>
      obtain ⟨v, H', I3, rv, ev, q3⟩ := I2.after hq'
      subst ev
      exact ⟨rv, ⟨V.ref (s.heap.objs.size + 1), H', I3, rfl, q3⟩⟩
    | next => exact False.elim hq'
    | brk => exact False.elim hq'
    | cont => exact False.elim hq'
/-- C(e, .., k = v, ..) -/
def tMakeX (C : Addr) (n m : Nat) (sp : Sp) (g : List V → List V → List V) (W : WX) (t tk : TA) : TE := fun σ H Q => t σ H fun vs H1 => tk σ H1 fun zs H2 => vs.length + 1 = n ∧ zs.length = m ∧ ∀ x dx, H2 x = none → H2 dx = none → dx ≠ x →
  sp (g (.ref x :: vs) zs) (upd (upd H2 dx (.own x)) x (.ins C dx [])) (fun v H3 => v = .non ∧ Q (.ref x) H3) (WE W σ)
theorem vx_makeX {pats : List Pat} (c : MakX X.prog X.w X.K X.mg X.base k x C sp pats) (pt : Pat) (hpt : pt ∈ pats) (hr : RoomG j X.A) (hk : k + 1 ≤ j) (tkW : Takes X W) (hg : Gl X x) (ha : PA X (e :: es) t) (hkw : PK X kws tk)
    (hall : (backToKw pos (keywordEach kws X.env)).all (·.1.isSome) = true := by rfl) (hks : (backToKw pos (keywordEach kws X.env)).filterMap (·.1) = pt.2.1 := by rfl) (hdb : (x == ("__debug__" : Str)) = false := by decide)
    (he : starEach (e :: es) X.env = (false, eval e X.env) :: starEach es X.env := by rfl) (hpl : ((backTo pos (starEach (e :: es) X.env)).any (·.1) || (backToKw pos (keywordEach kws X.env)).any (·.1.isNone)) = false := by rfl) :
    PE X (.Call (.Name x p) (e :: es) kws pos) (tMakeX C pt.1 pt.2.1.length sp pt.2.2 W t tk) := by
  obtain ⟨f, fd, ps, M, F, hm, b⟩ := c.ex
  refine ⟨fun pins s σ H Q I h => ?_⟩
  refine wpAny_Call_Name_kw (ld_glob I hg hm ?_ hdb)
  refine PySem.W.callWith_KW (h₀ := X.base) I.ok.mod.kin M.kp hall (thn (ha.run pos pins s σ H _ I h) fun us s1 ⟨vs, H1, I1, r, q⟩ => ?_) hpl he
  refine thn (hkw.run pos pins s1 σ H1 _ I1 q) fun ws s2 ⟨zs, H2, I2, rz, l1, l2, q2⟩ => ⟨I2.kIn, ?_⟩
  rw [hks]
  exact run_mkX M F (hr.low hk) (b pt hpt) tkW I2 r rz l1 l2 q2
theorem vx_makeX0 {pats : List Pat} (c : MakX X.prog X.w X.K X.mg X.base k x C sp pats) (pt : Pat) (hpt : pt ∈ pats) (hr : RoomG j X.A) (hk : k + 1 ≤ j) (tkW : Takes X W) (hg : Gl X x) (hks : pt.2.1 = [] := by rfl)
    (hdb : (x == ("__debug__" : Str)) = false := by decide) : PE X (.Call (.Name x p) [] [] pos) (tMakeX C pt.1 pt.2.1.length sp pt.2.2 W tNil tNil) := by
  obtain ⟨f, fd, ps, M, F, hm, b⟩ := c.ex
  refine ⟨fun pins s σ H Q I h => ?_⟩
  refine wpAny_Call_Name_kw (ld_glob I hg hm ?_ hdb)
  obtain ⟨l1, l2, q2⟩ := h
  have hz := run_mkX (us := []) (ws := []) M F (hr.low hk) (b pt hpt) tkW I .nil .nil l1 l2 q2
  rw [hks] at hz
  exact PySem.W.callWith_K0 I.kIn M.kp hz
/-- o.m(e, .., k = v, ..) -/
def tMethX (C : Addr) (m : Str) (n mm : Nat) (sp : Sp) (g : List V → List V → List V) (W : WX) (ta : TE) (t tk : TA) : TE := fun σ H Q => ta σ H fun x H1 => ∃ a dx fs, x = .ref a ∧ H1 a = some (.ins C dx fs) ∧ fs.lookup m = none ∧
  t σ H1 fun vs H2 => tk σ H2 fun zs H3 => (x :: vs).length = n ∧ zs.length = mm ∧ sp (g (x :: vs) zs) H3 Q (WE W σ)
theorem vx_methX {pats : List Pat} {pl : Sem Bool} (c : MetX X.prog X.w X.K X.mg X.base k C m sp pats) (pt : Pat) (hpt : pt ∈ pats) (hr : RoomG j X.A) (hk : k ≤ j) (tkW : Takes X W) (he : PE X o ta) (ha : PA X (e :: es) t) (hkw : PK X kws tk)
    (hall : (backToKw pos (keywordEach kws X.env)).all (·.1.isSome) = true := by rfl) (hks : (backToKw pos (keywordEach kws X.env)).filterMap (·.1) = pt.2.1 := by rfl)
    (hst : starEach (e :: es) X.env = (false, eval e X.env) :: starEach es X.env := by rfl) (hpl : ((backTo pos (starEach (e :: es) X.env)).any (·.1) || (backToKw pos (keywordEach kws X.env)).any (·.1.isNone)) = false := by rfl)
    (ht : eval (.Call (.Attribute o m apos) (e :: es) kws pos) X.env = (do
      let ov ← eval o X.env
      standAt apos.atName
      let (f, first) ← holding [ov] (getMethod ov m pl)
      callWith pos f first (backTo pos (starEach (e :: es) X.env)) (backToKw pos (keywordEach kws X.env))) := by rfl) :
    PE X (.Call (.Attribute o m apos) (e :: es) kws pos) (tMethX C m pt.1 pt.2.1.length sp pt.2.2 W ta t tk) := by
  obtain ⟨f, fd, ps, hc, hm, F, b⟩ := c.ex
  refine ⟨fun pins s σ H Q I h => ?_⟩
  refine PySem.W.methodCall_KW (pl := pl) (thn (he.run pins s σ H _ I h) fun u s1 ⟨x, H1, I1, rx, a, dx, fs, ex, ea, l, q⟩ => ?_) ht
  subst ex
  obtain rfl : u = Value.ref a := rx
  refine getmeth_ok I1 ea hc hm l ?_
  refine PySem.W.callWith_KW (first := [.ref a]) (h₀ := X.base) I.ok.mod.kin hm.kp hall (thn (ha.run pos pins s1 σ H1 _ I1 q) fun us s2 ⟨vs, H2, I2, r, q2⟩ => ?_) hpl hst
  refine thn (hkw.run pos pins s2 σ H2 _ I2 q2) fun ws s3 ⟨zs, H3, I3, rz, l1, l2, q3⟩ => ⟨I3.kIn, ?_⟩
  rw [hks]
  exact run_X (us := .ref a :: us) (vs := .ref a :: vs) F (hr.low hk) (b pt hpt) tkW I3 (.cons rfl r) rz l1 l2 q3
theorem vx_methX0 {pats : List Pat} {pl : Sem Bool} (c : MetX X.prog X.w X.K X.mg X.base k C m sp pats) (pt : Pat) (hpt : pt ∈ pats) (hr : RoomG j X.A) (hk : k ≤ j) (tkW : Takes X W) (he : PE X o ta) (hks : pt.2.1 = [] := by rfl)
    (ht : eval (.Call (.Attribute o m apos) [] [] pos) X.env = (do
      let ov ← eval o X.env
      standAt apos.atName
      let (f, first) ← holding [ov] (getMethod ov m pl)
      callWith pos f first (backTo pos (starEach [] X.env)) (backToKw pos (keywordEach [] X.env))) := by rfl) :
    PE X (.Call (.Attribute o m apos) [] [] pos) (tMethX C m pt.1 pt.2.1.length sp pt.2.2 W ta tNil tNil) := by
  obtain ⟨f, fd, ps, hc, hm, F, b⟩ := c.ex
  refine ⟨fun pins s σ H Q I h => ?_⟩
  refine PySem.W.methodCall_KW (pl := pl) (thn (he.run pins s σ H _ I h) fun u s1 ⟨x, H1, I1, rx, a, dx, fs, ex, ea, l, q⟩ => ?_) ht
  subst ex
  obtain rfl : u = Value.ref a := rx
  refine getmeth_ok I1 ea hc hm l ?_
  obtain ⟨l1, l2, q3⟩ := q
  have hz := run_X (us := [.ref a]) (vs := [.ref a]) (ws := []) F (hr.low hk) (b pt hpt) tkW I1 (.cons rfl .nil) .nil l1 l2 q3
  rw [hks] at hz
  exact PySem.W.callWith_K0 (first := [.ref a]) I1.kIn hm.kp hz
theorem vx_propX {pats : List Pat} (c : PropY X.prog X.w X.K X.mg X.base k C m sp pats) (hr : RoomG j X.A) (hk : k + 1 ≤ j) (he : PE X o ta) (hab : attributeBase o m X.env (eval o X.env) = eval o X.env := by rfl) : PE X (.Attribute o m pos) (tProp C sp [] E0 ta) := by
  obtain ⟨q, f, fd, ps, cls, prop, F, bind⟩ := c.ex
  constructor
  intro pins s σ H Q I h
  refine attr_of hab (thn (he.run pins s σ H _ I h) ?_)
  rintro u s1 ⟨x, H1, I1, rx, a, dx, fs, rfl, ea, prom⟩
  cases rx
  obtain ⟨mA, O, _⟩ := ins_get I1.hok ea
  obtain ⟨od, J, _⟩ := O.look
  obtain ⟨rest, rec_⟩ := prop.rec_
  have short : [Value.ref a].length = ps.length := (F.len _ _ _ _ prom).symm ▸ rfl
  have isCls : (PySem.W.clsIn X.K C).isSome = true := by
    obtain ⟨cd, e, _⟩ := PySem.W.any_some cls.hd
    rw [e]
    rfl
  refine PySem.W.get_bind I1.kIn J (PySem.W.plainGet_of (cls.get m)).1 (PySem.W.findObj_data isCls prop.at_ prop.get prop.tak) (PySem.W.plainGet_of (cls.get m)).2 (wpAny_call (PySem.W.prop_get (s := { s1 with toks := s1.toks + 1 }) I1.kIn rec_ ?_))
  have I2 := I1.tok (s1.toks + 1)
  refine codeAny_mono (F.run X.A.in1 X.stack _ H1 ⟨[.ref a], []⟩ [.ref a] [.ref a] Q E0 (hr.low hk).one I2.env0.in1 (by simpa using bind _ [.ref a] I2.kIn (by simpa using short)) (.cons rfl .nil) prom) ?_
  intro r s2 out
  cases r with
  | error er => exact (passL (X := X.nox) pins σ H1 _ er s2 (I2.wish _) out).elim
  | ok flow =>
    cases flow with
    | ret v =>
      obtain ⟨y, H2, I3, ry, qy⟩ := I2.after out
      have given := PySem.W.handedOut_of (handed_of ry)
      show wpAny _ _ (handedOut v) _ _ s2
      rw [given]
      exact wpAny_pure ⟨y, H2, I3, ry, qy⟩
    | next => exact out.elim
    | brk => exact out.elim
    | cont => exact out.elim
end
theorem Sep.news {M : List Addr} {H0 G0 G H H' : Hp} {O : List Addr} (S : Sep M H0 G0 G H O) (e : Same H H') (L : List Addr) (hL : ∀ a ∈ L, H a = none ∧ H' a ≠ none ∧ H0 a = none) : Sep M H0 G0 G H' (L ++ O) := by
  have S2 := S.same e
  refine ⟨S2.base, S2.pm, S2.sG, S2.g0, S2.gn, fun a ha => ?_⟩
  rcases List.mem_append.mp ha with h | h
  · obtain ⟨h1, h2, h3⟩ := hL a h
    exact ⟨S.gfree h1, h2, .inr h3⟩
  · exact S2.ow a h
theorem vv_chain {r r' : R2} {ta tb tc : TE} {σ : L2.St} {H : Hp} {x y z : V} {a b : Bool} (ha : Val ta σ H x) (hb : Val tb σ H y) (hc : Val tc σ H z) (h1 : ∀ Q : VK, Q (.bl a) H → r x y H Q) (h2 : ∀ Q : VK, Q (.bl b) H → r' y z H Q) :
    Val (tChain r r' ta tb tc) σ H (.bl (a && b)) := fun Q q => ha _ (hb _ (h1 _ ⟨a, rfl, by
  cases a with
  | true =>
    rw [if_pos rfl]
    exact hc _ (h2 _ q)
  | false =>
    rw [if_neg Bool.false_ne_true]
    exact q⟩))
/-! ### constants that are tuples, lists backwards, zip -/
theorem inV_ints (x : Int) : ∀ xs : List Int, inV (V.int x) (xs.map V.int) = decide (x ∈ xs)
  | [] => by simp [inV]
  | y :: r => by
    have h := inV_ints x r
    unfold inV at h ⊢
    rw [List.map_cons, List.any_cons, h]
    by_cases c : x = y
    · subst c
      simp [eqV]
    · simp [eqV, c, Ne.symm c]
theorem flat_ints : ∀ xs : List Int, (xs.map V.int).all flatV = true
  | [] => rfl
  | _ :: r => flat_ints r
def rInI (K : PySem.W.Frag) : R2 := fun x y H Q => ∃ (i : Int) (p : Addr) (xs : List Int), x = .int i ∧ y = .ref p ∧ (SqL K H p (xs.map V.int) ∨ SqT K H p (xs.map V.int)) ∧ Q (.bl (decide (i ∈ xs))) H
def rNotInI (K : PySem.W.Frag) : R2 := fun x y H Q => ∃ (i : Int) (p : Addr) (xs : List Int), x = .int i ∧ y = .ref p ∧ (SqL K H p (xs.map V.int) ∨ SqT K H p (xs.map V.int)) ∧ Q (.bl (!decide (i ∈ xs))) H
theorem op_inI {X : Cx} {K : PySem.W.Frag} (hK : X.K = K := by rfl) : OpR X (compareOp .In) (rInI K) := by
  subst hK
  intro pins s σ H x y v u Q I rx ry h
  obtain ⟨i, p, xs, rfl, rfl, hs, q⟩ := h
  refine op_in_seq pins s σ H _ _ v u Q I rx ry ⟨p, _, rfl, hs, rfl, flat_ints xs, ?_⟩
  rw [if_neg Bool.false_ne_true, inV_ints]
  exact q
theorem op_notInI {X : Cx} {K : PySem.W.Frag} (hK : X.K = K := by rfl) : OpR X (compareOp .NotIn) (rNotInI K) := by
  subst hK
  intro pins s σ H x y v u Q I rx ry h
  obtain ⟨i, p, xs, rfl, rfl, hs, q⟩ := h
  refine op_notIn_seq pins s σ H _ _ v u Q I rx ry ⟨p, _, rfl, hs, rfl, flat_ints xs, ?_⟩
  rw [if_pos rfl, inV_ints]
  exact q
theorem pe_revLK {X : Cx} {K : PySem.W.Frag} {e : Expr} {te : TE} {k : Nat} {p1 p2 p3 pos : Pos} (he : PE X e te) (hK : X.K = K := by rfl) : PE X (.Subscript e (.Slice none none (some (.UnaryOp .USub (.Constant (.int 1) k p1) p2)) p3) pos) (tRevL K te) := hK ▸ pe_revL he
theorem rev_map {α : Type} {f : α → V} {xs : List α} {H : Hp} {p : Addr} (h : H p = some (.lst (xs.map f).reverse)) : H p = some (.lst (xs.reverse.map f)) := by
  rw [List.map_reverse]
  exact h
theorem RpAll.rev {G : Hp} : ∀ {vs : List V} {ds : List PyData}, RpAll G vs ds → RpAll G vs.reverse ds.reverse
  | _, _, .nil => .nil
  | _, _, .cons h t => by
    rw [List.reverse_cons, List.reverse_cons]
    exact (RpAll.rev t).append (.one h)
theorem rev_all {α : Type} {f : α → PyData} {xs : List α} {G : Hp} {vs : List V} (a : RpAll G vs (xs.map f)) : RpAll G vs.reverse (xs.reverse.map f) := by
  rw [List.map_reverse]
  exact a.rev
theorem pi_zipK {X : Cx} {K : PySem.W.Frag} {e e2 : Expr} {ta : TA} {p pos tpos : Pos} {elts : List Expr} {kk : Nat} (hg : Gl X "zip") (hm : X.mg "zip" = none) (ha : PA X [e, e2] ta) (hK : X.K = K := by rfl)
    (hs : starEach [e, e2] X.env = (false, eval e X.env) :: starEach [e2] X.env := by rfl) (hpl : (backTo pos (starEach [e2] X.env)).any (·.1) = false := by rfl) :
    PI X (.Tuple elts kk tpos) (.Call (.Name "zip" p) [e, e2] [] pos) (RZ.iZipA K ta) := hK ▸ RZ.pi_zipA hg hm ha hs hpl
/-- a comprehension over zip of two lists of one length -/
theorem lc_zipL {K : PySem.W.Frag} {a b : Addr} {xs ys : List V} {g : TG} {tt : TT} {te : TE} {vs : List Nat} {σ : L2.St} {H1 : Hp} {D : Addr} {Qd : Hp → Prop} (hl : xs.length = ys.length) (Pv : Nat → Hp → Prop) (h0 : Pv 0 (upd H1 D (.lst []))) (hq : ∀ i H, i ≤ xs.length → Pv i H → SqL K H a xs ∧ SqL K H b ys)
    (hs : ∀ (i : Nat) (x y : V) (T : Addr) (H : Hp), xs[i]? = some x → ys[i]? = some y → H T = none → Pv i H → g (.ref T) (wipe σ vs) (upd H T (.tup [x, y])) fun σ2 H2 => wipe σ2 vs = wipe σ vs ∧ tt σ2 H2 fun b H3 =>
      if b = true then te σ2 H3 fun y H4 => ∃ acc, H4 D = some (.lst acc) ∧ acc.length < sizeLine ∧ Pv (i + 1) (upd H4 D (.lst (acc ++ [y]))) else Pv (i + 1) H3) (hd : ∀ H, Pv xs.length H → Qd H) :
    ∃ W : Nat → Nat → Hp → Prop, (∃ m, W 0 m (upd H1 D (.lst []))) ∧ ∀ i m H, W i m H →
      ((Itz K a b).stop i H ∧ Qd H) ∨ ((Itz K a b).go i H ∧ ∃ Nx : Hp → Prop, (∀ H', Nx H' → ∃ m', m' < m ∧ W (i + 1) m' H') ∧ ∀ x H', (Itz K a b).yld i H x H' → g x (wipe σ vs) H' fun σ2 H2 => wipe σ2 vs = wipe σ vs ∧ tt σ2 H2 fun b H3 =>
        if b = true then te σ2 H3 fun y H4 => ∃ acc, H4 D = some (.lst acc) ∧ acc.length < sizeLine ∧ Nx (upd H4 D (.lst (acc ++ [y]))) else Nx H3) := by
  refine ⟨fun i m H => m = xs.length - i ∧ i ≤ xs.length ∧ Pv i H, ⟨xs.length, by simp, Nat.zero_le _, h0⟩, ?_⟩
  rintro i m H ⟨rfl, hi, p⟩
  obtain ⟨qx, qy⟩ := hq i H hi p
  by_cases hlt : i < xs.length
  · have hlt2 : i < ys.length := by omega
    refine .inr ⟨⟨xs, ys, xs[i], ys[i], qx, qy, List.getElem?_eq_getElem hlt, List.getElem?_eq_getElem hlt2⟩, Pv (i + 1), fun H' p' => ⟨xs.length - (i + 1), by omega, rfl, hlt, p'⟩, fun v H' y => ?_⟩
    obtain ⟨T, x', y', rfl, hT, rfl, f1, f2⟩ := y
    exact hs i x' y' T H (f1 xs qx) (f2 ys qy) hT p
  · have e : i = xs.length := by omega
    subst e
    exact .inl ⟨⟨xs, ys, qx, qy, Or.inl (Nat.le_refl _)⟩, hd H p⟩
theorem zip_get {α β : Type} {xs : List α} {ys : List β} {i : Nat} {x : α} {y : β} (h1 : xs[i]? = some x) (h2 : ys[i]? = some y) : (xs.zip ys)[i]? = some (x, y) := by
  rw [List.getElem?_zip_eq_some]
  exact ⟨h1, h2⟩
theorem zip_len {α β : Type} {xs : List α} {ys : List β} {n : Nat} (h : xs.length = ys.length) (e : n = xs.length) : n = (xs.zip ys).length := by
  rw [List.length_zip, ← h, Nat.min_self]
  exact e
theorem zlen {α β : Type} {vs ws : List V} {xs : List α} {ys : List β} (a : vs.length = xs.length) (b : ws.length = ys.length) (h : xs.length = ys.length) : vs.length = ws.length := by rw [a, b, h]
section
variable {t : TT} {ta tb : TE} {σ : L2.St} {H : Hp}
theorem vv_ifP {p : Prop} [Decidable p] {a b : Int} (ht : Ans t σ H (decide p)) (hx : p → Val ta σ H (.int a)) (hy : ¬ p → Val tb σ H (.int b)) : Val (tIf t ta tb) σ H (.int (if p then a else b)) := by
  by_cases h : p
  · have := vv_if (p := p) (a := a) (b := a) ht (hx h) (tb := ta) (hx h)
    intro Q q
    refine ht _ ?_
    rw [decide_eq_true h, if_pos rfl]
    rw [if_pos h] at q
    exact hx h _ q
  · intro Q q
    refine ht _ ?_
    rw [decide_eq_false h, if_neg Bool.false_ne_true]
    rw [if_neg h] at q
    exact hy h _ q
theorem vv_ifQ {c : Bool} {a b : Int} (ht : Ans t σ H c) (hx : c = true → Val ta σ H (.int a)) (hy : c = false → Val tb σ H (.int b)) : Val (tIf t ta tb) σ H (.int (if c = true then a else b)) := by
  intro Q q
  refine ht _ ?_
  cases c with
  | true =>
    rw [if_pos rfl]
    rw [if_pos rfl] at q
    exact hx rfl _ q
  | false =>
    rw [if_neg Bool.false_ne_true]
    rw [if_neg Bool.false_ne_true] at q
    exact hy rfl _ q
end
theorem kit_mk0 {K : PySem.W.Frag} {S C : Addr} (h1 : (Value.ref S == Value.ref C) = false) (h2 : PySem.W.isClsIn K C = true) (h3 : PySem.W.typeIn K (.ref C) = some (.type "type")) (h4 : PySem.W.subIn K (.ref S) (.ref C) = some false) :
    PySem.W.kitOne K (.ref S) (.ref C) = some false := by
  unfold PySem.W.isClsIn at h2
  unfold PySem.W.kitOne
  rw [if_neg (by rw [h1]; exact Bool.false_ne_true)]
  unfold PySem.W.kitCls
  simp only [h2, h3, h4, beq_self_eq_true, Bool.and_self, if_true]
theorem vv_call2 {ta tb : TE} {σ : L2.St} {H : Hp} {x y z : V} {r : List V → Hp → VK → Prop} (ha : Val ta σ H x) (hb : Val tb σ H y) (hr : ∀ Q : VK, Q z H → r [x, y] H Q) : Val (tCB r (tCons ta (tCons tb tNil))) σ H z := fun Q q => ha _ (hb _ (hr Q q))
/-! ### lists of data that the caller owns; values that are a truth value or a number -/
theorem Sep.stepnew {M : List Addr} {H0 G0 G H H' : Hp} {O : List Addr} {p : Addr} {o : HO} (S : Sep M H0 G0 G H O) {G' : Hp} (e : Same H H') (eG : Same G G') (sG : Same G' H') (hn : ∀ b, H b ≠ none → G b = none → G' b = none) (_n : H p = none) (h : H' p = some o) (g : G' p = none) (hm : H0 p = none) : Sep M H0 G0 G' H' (p :: O) := by
  have S2 := S.step e eG sG hn
  refine ⟨S2.base, S2.pm, S2.sG, S2.g0, S2.gn, fun a ha => ?_⟩
  rcases List.mem_cons.mp ha with rfl | ha
  · exact ⟨g, (fun z => by rw [z] at h; cases h), .inr hm⟩
  · exact S2.ow a ha
inductive Bi where
  | b (x : Bool)
  | n (i : Int)
deriving DecidableEq
def biV : Bi → V
  | .b x => .bl x
  | .n i => .int i
def Bi.el {α : Type} (v : Bi) (f : Bool → α) (g : Int → α) : α :=
  match v with
  | .b x => f x
  | .n i => g i
theorem cW_elb {α : Type} {x : Bool} {f : Bool → Rx α} {g : Int → Rx α} {K : α → Prop} {E : Nat → Prop} (h : cW (Bi.el (.b x) f g) K E) : cW (f x) K E := h
theorem cW_eln {α : Type} {x : Int} {f : Bool → Rx α} {g : Int → Rx α} {K : α → Prop} {E : Nat → Prop} (h : cW (Bi.el (.n x) f g) K E) : cW (g x) K E := h
theorem rp_tup4 {α β γ δ : Type} {f : α → PyData} {g : β → PyData} {h : γ → PyData} {i : δ → PyData} {H : Hp} {v : V} {x : α × β × γ × δ} (r : Rp H v (encT4 f g h i x)) : ∃ a v1 v2 v3 v4, v = .ref a ∧ H a = some (.tup [v1, v2, v3, v4]) ∧ Rp H v1 (f x.1) ∧ Rp H v2 (g x.2.1) ∧ Rp H v3 (h x.2.2.1) ∧ Rp H v4 (i x.2.2.2) := by
  unfold encT4 at r
  cases r with
  | tup h1 h2 =>
    cases h2 with
    | cons a b =>
      cases b with
      | cons b c =>
        cases c with
        | cons c d =>
          cases d with
          | cons d e =>
            cases e
            exact ⟨_, _, _, _, _, rfl, h1, a, b, c, d⟩
theorem rp_mk4 {α β γ δ : Type} {f : α → PyData} {g : β → PyData} {h : γ → PyData} {i : δ → PyData} {H : Hp} {a : Addr} {v1 v2 v3 v4 : V} {x : α} {y : β} {z : γ} {w : δ} (h1 : H a = some (.tup [v1, v2, v3, v4])) (r1 : Rp H v1 (f x)) (r2 : Rp H v2 (g y)) (r3 : Rp H v3 (h z)) (r4 : Rp H v4 (i w)) : Rp H (.ref a) (encT4 f g h i (x, y, z, w)) := .tup h1 (.cons r1 (.cons r2 (.cons r3 (.cons r4 .nil))))
theorem Sep.b0M {M : List Addr} {H0 G0 G H : Hp} {O : List Addr} (S : Sep M H0 G0 G H O) (h : ∀ a ∈ M, H a = H0 a) : Same H0 H := fun b o e => by
  by_cases z : b ∈ M
  · rw [h b z]
    exact e
  · exact S.base b o e z
section
variable {X : Cx} {k j n : Nat} {f C : Addr} {fd : FuncData} {ps ks : List Str} {g : List V → List V → List V} {sp : Sp} {x m : Str} {pos p apos : Pos} {e o : Expr} {es : List Expr} {kws : List Keyword} {ta : TE} {t tk : TA} {W : WX}
/-- keywords alone -/
theorem vx_makeXK {pats : List Pat} (c : MakX X.prog X.w X.K X.mg X.base k x C sp pats) (pt : Pat) (hpt : pt ∈ pats) (hr : RoomG j X.A) (hk : k + 1 ≤ j) (tkW : Takes X W) (hg : Gl X x) (hkw : PK X kws tk)
    (hall : (backToKw pos (keywordEach kws X.env)).all (·.1.isSome) = true := by rfl) (hks : (backToKw pos (keywordEach kws X.env)).filterMap (·.1) = pt.2.1 := by rfl) (hdb : (x == ("__debug__" : Str)) = false := by decide)
    (hpl : ((backTo pos (starEach [] X.env)).any (·.1) || (backToKw pos (keywordEach kws X.env)).any (·.1.isNone)) = false := by rfl) :
    PE X (.Call (.Name x p) [] kws pos) (tMakeX C pt.1 pt.2.1.length sp pt.2.2 W tNil tk) := by
  obtain ⟨f, fd, ps, M, F, hm, b⟩ := c.ex
  refine ⟨fun pins s σ H Q I h => ?_⟩
  refine wpAny_Call_Name_kw (ld_glob I hg hm ?_ hdb)
  refine PySem.W.callWith_KW0 (h₀ := X.base) I.ok.mod.kin M.kp hall ?_ hpl
  refine thn (hkw.run pos pins s σ H _ I h) fun ws s2 ⟨zs, H2, I2, rz, l1, l2, q2⟩ => ⟨I2.kIn, ?_⟩
  rw [hks]
  exact run_mkX (us := []) (vs := []) M F (hr.low hk) (b pt hpt) tkW I2 .nil rz l1 l2 q2
theorem vx_callXK {pats : List Pat} (c : CalX X.prog X.w X.K X.mg X.base k x sp pats) (pt : Pat) (hpt : pt ∈ pats) (hr : RoomG j X.A) (hk : k ≤ j) (tkW : Takes X W) (hg : Gl X x) (hkw : PK X kws tk)
    (hall : (backToKw pos (keywordEach kws X.env)).all (·.1.isSome) = true := by rfl) (hks : (backToKw pos (keywordEach kws X.env)).filterMap (·.1) = pt.2.1 := by rfl) (hdb : (x == ("__debug__" : Str)) = false := by decide)
    (hpl : ((backTo pos (starEach [] X.env)).any (·.1) || (backToKw pos (keywordEach kws X.env)).any (·.1.isNone)) = false := by rfl) :
    PE X (.Call (.Name x p) [] kws pos) (tCallX pt.1 pt.2.1.length sp pt.2.2 W tNil tk) := by
  obtain ⟨f, fd, ps, F, hm, kp, b⟩ := c.ex
  refine ⟨fun pins s σ H Q I h => ?_⟩
  refine wpAny_Call_Name_kw (ld_glob I hg hm ?_ hdb)
  refine PySem.W.callWith_KW0 (h₀ := X.base) I.ok.mod.kin kp hall ?_ hpl
  refine thn (hkw.run pos pins s σ H _ I h) fun ws s2 ⟨zs, H2, I2, rz, l1, l2, q2⟩ => ⟨I2.kIn, ?_⟩
  rw [hks]
  exact run_X (us := []) (vs := []) F (hr.low hk) (b pt hpt) tkW I2 .nil rz l1 l2 q2
theorem vx_methXK {pats : List Pat} {pl : Sem Bool} (c : MetX X.prog X.w X.K X.mg X.base k C m sp pats) (pt : Pat) (hpt : pt ∈ pats) (hr : RoomG j X.A) (hk : k ≤ j) (tkW : Takes X W) (he : PE X o ta) (hkw : PK X kws tk)
    (hall : (backToKw pos (keywordEach kws X.env)).all (·.1.isSome) = true := by rfl) (hks : (backToKw pos (keywordEach kws X.env)).filterMap (·.1) = pt.2.1 := by rfl)
    (hpl : ((backTo pos (starEach [] X.env)).any (·.1) || (backToKw pos (keywordEach kws X.env)).any (·.1.isNone)) = false := by rfl)
    (ht : eval (.Call (.Attribute o m apos) [] kws pos) X.env = (do
      let ov ← eval o X.env
      standAt apos.atName
      let (f, first) ← holding [ov] (getMethod ov m pl)
      callWith pos f first (backTo pos (starEach [] X.env)) (backToKw pos (keywordEach kws X.env))) := by rfl) :
    PE X (.Call (.Attribute o m apos) [] kws pos) (tMethX C m pt.1 pt.2.1.length sp pt.2.2 W ta tNil tk) := by
  obtain ⟨f, fd, ps, hc, hm, F, b⟩ := c.ex
  refine ⟨fun pins s σ H Q I h => ?_⟩
  refine PySem.W.methodCall_KW (pl := pl) (thn (he.run pins s σ H _ I h) fun u s1 ⟨x, H1, I1, rx, a, dx, fs, ex, ea, l, q⟩ => ?_) ht
  subst ex
  obtain rfl : u = Value.ref a := rx
  refine getmeth_ok I1 ea hc hm l ?_
  refine PySem.W.callWith_KW0 (first := [.ref a]) (h₀ := X.base) I.ok.mod.kin hm.kp hall ?_ hpl
  refine thn (hkw.run pos pins s1 σ H1 _ I1 q) fun ws s3 ⟨zs, H3, I3, rz, l1, l2, q3⟩ => ⟨I3.kIn, ?_⟩
  rw [hks]
  exact run_X (us := [.ref a]) (vs := [.ref a]) F (hr.low hk) (b pt hpt) tkW I3 (.cons rfl .nil) rz l1 l2 q3
end
end Vx
/-! # lists within lists that are owned as a whole -/
namespace Vx
open PySem PySem.Spec PyProof.Rows L2
inductive Kd where
  | lst
  | tup
  | ins (C dx : Addr) (ns : List Str)
def Kd.ho : Kd → List V → HO
  | .lst, vs => .lst vs
  | .tup, vs => .tup vs
  | .ins C dx ns, vs => .ins C dx (ns.zip vs)
/-- what stands in the heap as a tree: values as they are, data that stay, nodes of its own -/
inductive Dt where
  | val (v : V)
  | frz (d : PyData)
  | nod (k : Kd) (xs : List Dt)
mutual
inductive Ow (G H : Hp) : List Addr → V → Dt → Prop
  | val (v : V) : Ow G H [] v (.val v)
  | frz {v : V} {d : PyData} : Rp G v d → Ow G H [] v (.frz d)
  | nod {a : Addr} {k : Kd} {vs : List V} {ds : List Dt} {L : List Addr} : H a = some (k.ho vs) → OwAll G H L vs ds → a ∉ L → Ow G H (a :: L) (.ref a) (.nod k ds)
inductive OwAll (G H : Hp) : List Addr → List V → List Dt → Prop
  | nil : OwAll G H [] [] []
  | cons {L1 L2 : List Addr} {v : V} {vs : List V} {d : Dt} {ds : List Dt} : Ow G H L1 v d → OwAll G H L2 vs ds → (∀ b ∈ L1, b ∉ L2) → OwAll G H (L1 ++ L2) (v :: vs) (d :: ds)
end
def Keeps (L : List Addr) (H H' : Hp) : Prop := ∀ b ∈ L, ∀ o, H b = some o → H' b = some o
mutual
theorem Ow.mono {G G' H H' : Hp} (e : Same G G') : ∀ {L : List Addr} {v : V} {d : Dt}, Keeps L H H' → Ow G H L v d → Ow G' H' L v d
  | _, _, _, _, .val v => .val v
  | _, _, _, _, .frz r => .frz (r.mono e)
  | _, _, _, k, .nod h r n => .nod (k _ List.mem_cons_self _ h) (OwAll.mono e (fun b hb => k b (List.mem_cons_of_mem _ hb)) r) n
theorem OwAll.mono {G G' H H' : Hp} (e : Same G G') : ∀ {L : List Addr} {vs : List V} {ds : List Dt}, Keeps L H H' → OwAll G H L vs ds → OwAll G' H' L vs ds
  | _, _, _, _, .nil => .nil
  | _, _, _, k, .cons a r d => .cons (Ow.mono e (fun b hb => k b (List.mem_append_left _ hb)) a) (OwAll.mono e (fun b hb => k b (List.mem_append_right _ hb)) r) d
end
mutual
theorem Ow.there {G H : Hp} : ∀ {L : List Addr} {v : V} {d : Dt}, Ow G H L v d → ∀ b ∈ L, H b ≠ none
  | _, _, _, .val _, _, hb => nomatch hb
  | _, _, _, .frz _, _, hb => nomatch hb
  | _, _, _, .nod h r n, b, hb => by
    rcases List.mem_cons.mp hb with rfl | hb
    · exact some_ne h
    · exact OwAll.there r b hb
theorem OwAll.there {G H : Hp} : ∀ {L : List Addr} {vs : List V} {ds : List Dt}, OwAll G H L vs ds → ∀ b ∈ L, H b ≠ none
  | _, _, _, .nil, _, hb => nomatch hb
  | _, _, _, .cons a r d, b, hb => by
    rcases List.mem_append.mp hb with hb | hb
    · exact Ow.there a b hb
    · exact OwAll.there r b hb
end
theorem OwAll.len {G H : Hp} : ∀ {L : List Addr} {vs : List V} {ds : List Dt}, OwAll G H L vs ds → vs.length = ds.length
  | _, _, _, .nil => rfl
  | _, _, _, .cons _ r _ => congrArg Nat.succ r.len
theorem OwAll.snoc {G H : Hp} {L1 : List Addr} {v : V} {d : Dt} (h : Ow G H L1 v d) : ∀ {L : List Addr} {vs : List V} {ds : List Dt}, OwAll G H L vs ds → (∀ b ∈ L, b ∉ L1) → OwAll G H (L ++ L1) (vs ++ [v]) (ds ++ [d])
  | _, _, _, .nil, _ => by
    have z : OwAll G H (L1 ++ []) [v] [d] := .cons h .nil (fun _ _ z => nomatch z)
    rw [List.append_nil] at z
    exact z
  | _, _, _, .cons (L1 := La) (L2 := Lb) a r n, k => by
    have z := OwAll.cons a (OwAll.snoc h r fun b hb => k b (List.mem_append_right _ hb)) (fun b hb q => by
      rcases List.mem_append.mp q with q | q
      · exact n b hb q
      · exact k b (List.mem_append_left _ hb) q)
    rw [← List.append_assoc] at z
    exact z
theorem OwAll.app {G H : Hp} {L2 : List Addr} {ws : List V} {es : List Dt} (h : OwAll G H L2 ws es) : ∀ {L : List Addr} {vs : List V} {ds : List Dt}, OwAll G H L vs ds → (∀ b ∈ L, b ∉ L2) → OwAll G H (L ++ L2) (vs ++ ws) (ds ++ es)
  | _, _, _, .nil, _ => h
  | _, _, _, .cons (L1 := La) (L2 := Lb) a r n, k => by
    have z := OwAll.cons a (OwAll.app h r fun b hb => k b (List.mem_append_right _ hb)) (fun b hb q => by
      rcases List.mem_append.mp q with q | q
      · exact n b hb q
      · exact k b (List.mem_append_left _ hb) q)
    rw [← List.append_assoc] at z
    exact z
/-! ### trees that are data -/
mutual
inductive Dd : Dt → PyData → Prop
  | non : Dd (.val .non) .none
  | bl (b : Bool) : Dd (.val (.bl b)) (.bool b)
  | int (i : Int) : Dd (.val (.int i)) (.int i)
  | str (x : Str) : Dd (.val (.str x)) (.str x)
  | frz (d : PyData) : Dd (.frz d) d
  | lst {xs : List Dt} {ds : List PyData} : DdAll xs ds → Dd (.nod .lst xs) (.list ds)
  | tup {xs : List Dt} {ds : List PyData} : DdAll xs ds → Dd (.nod .tup xs) (.tuple ds)
inductive DdAll : List Dt → List PyData → Prop
  | nil : DdAll [] []
  | cons {x : Dt} {xs : List Dt} {d : PyData} {ds : List PyData} : Dd x d → DdAll xs ds → DdAll (x :: xs) (d :: ds)
end
mutual
/-- read in any heap that holds its nodes -/
theorem Ow.rp {G H I : Hp} (e : Same G I) : ∀ {L : List Addr} {v : V} {d : Dt} {p : PyData}, Keeps L H I → Ow G H L v d → Dd d p → Rp I v p
  | _, _, _, _, _, .val _, .non => .non
  | _, _, _, _, _, .val _, .bl b => .bl b
  | _, _, _, _, _, .val _, .int i => .int i
  | _, _, _, _, _, .val _, .str x => .str x
  | _, _, _, _, _, .frz r, .frz _ => r.mono e
  | _, _, _, _, k, .nod h r _, .lst q => .lst (k _ List.mem_cons_self _ h) (OwAll.rp e (fun b hb => k b (List.mem_cons_of_mem _ hb)) r q)
  | _, _, _, _, k, .nod h r _, .tup q => .tup (k _ List.mem_cons_self _ h) (OwAll.rp e (fun b hb => k b (List.mem_cons_of_mem _ hb)) r q)
theorem OwAll.rp {G H I : Hp} (e : Same G I) : ∀ {L : List Addr} {vs : List V} {ds : List Dt} {ps : List PyData}, Keeps L H I → OwAll G H L vs ds → DdAll ds ps → RpAll I vs ps
  | _, _, _, _, _, .nil, .nil => .nil
  | _, _, _, _, k, .cons a r _, .cons x xs => .cons (Ow.rp e (fun b hb => k b (List.mem_append_left _ hb)) a x) (OwAll.rp e (fun b hb => k b (List.mem_append_right _ hb)) r xs)
end
def oI (i : Int) : Dt := .val (.int i)
def oB (b : Bool) : Dt := .val (.bl b)
def oF {α : Type} (f : α → PyData) (x : α) : Dt := .frz (f x)
def oL {α : Type} (f : α → Dt) (xs : List α) : Dt := .nod .lst (xs.map f)
def EncO {α : Type} (f : α → Dt) (g : α → PyData) : Prop := ∀ x, Dd (f x) (g x)
theorem encO_I : EncO oI PyData.int := fun i => .int i
theorem encO_B : EncO oB PyData.bool := fun i => .bl i
theorem encO_F {α : Type} {f : α → PyData} : EncO (oF f) f := fun _ => .frz _
theorem EncO.all {α : Type} {f : α → Dt} {g : α → PyData} (h : EncO f g) : ∀ xs : List α, DdAll (xs.map f) (xs.map g)
  | [] => .nil
  | x :: xs => .cons (h x) (EncO.all h xs)
theorem encO_L {α : Type} {f : α → Dt} {g : α → PyData} (h : EncO f g) : EncO (oL f) (encL g) := fun xs => .lst (h.all xs)
theorem keeps_same {L : List Addr} {H H' : Hp} (e : Same H H') : Keeps L H H' := fun b _ o q => e b o q
theorem keeps_refl {L : List Addr} {H : Hp} : Keeps L H H := fun _ _ _ q => q
theorem keeps_mut {L : List Addr} {H H' : Hp} {m : Addr} (x : SameX m H H') (n : ∀ b ∈ L, b ≠ m) : Keeps L H H' := fun b hb o q => x b o q (n b hb)
theorem keeps_muts {L M : List Addr} {H H' : Hp} (x : SameXs M H H') (n : ∀ b ∈ L, b ∉ M) : Keeps L H H' := fun b hb o q => x b o q (n b hb)
theorem keeps_hide {L M : List Addr} {H : Hp} (n : ∀ b ∈ L, b ∉ M) : Keeps L H (hideL M H) := fun b hb o q => by
  rw [hideL_out (n b hb)]
  exact q
section
variable {α : Type} {f : α → Dt} {g : α → PyData} {G H I : Hp} {L : List Addr} {vs : List V} {xs : List α}
theorem OwAll.rpA (w : OwAll G H L vs (xs.map f)) (h : EncO f g) (e : Same G H) : RpAll H vs (xs.map g) := OwAll.rp e keeps_refl w (h.all xs)
theorem OwAll.rpH (w : OwAll G H L vs (xs.map f)) (h : EncO f g) (e : Same G I) (k : Keeps L H I) : RpAll I vs (xs.map g) := OwAll.rp e k w (h.all xs)
theorem OwAll.lenM (w : OwAll G H L vs (xs.map f)) : vs.length = xs.length := by rw [w.len, List.length_map]
theorem OwAll.snocM {L1 : List Addr} {v : V} {y : α} (w : OwAll G H L vs (xs.map f)) (h : Ow G H L1 v (f y)) (n : ∀ b ∈ L, b ∉ L1) : OwAll G H (L ++ L1) (vs ++ [v]) ((xs ++ [y]).map f) := by
  rw [List.map_append]
  exact OwAll.snoc h w n
theorem Ow.ints {a : Addr} {ys : List Int} (h : H a = some (.lst (ys.map V.int))) : Ow G H [a] (.ref a) (oL oI ys) := by
  have z : ∀ ys : List Int, OwAll G H [] (ys.map V.int) (ys.map oI) := fun ys => by
    induction ys with
    | nil => exact .nil
    | cons y r ih => exact .cons (L1 := []) (L2 := []) (.val _) ih (fun _ z => nomatch z)
  exact .nod (k := .lst) h (z ys) (fun z => nomatch z)
theorem Ow.list {a : Addr} {xs : List α} {L : List Addr} {vs : List V} (h : H a = some (.lst vs)) (w : OwAll G H L vs (xs.map f)) (n : ∀ b ∈ L, b ≠ a) : Ow G H (a :: L) (.ref a) (oL f xs) := .nod (k := .lst) h w (fun z => n a z rfl)
theorem Ow.toList {v : V} {L : List Addr} {xs : List α} (w : Ow G H L v (oL f xs)) : ∃ a vs L', v = .ref a ∧ L = a :: L' ∧ H a = some (.lst vs) ∧ OwAll G H L' vs (xs.map f) ∧ ∀ b ∈ L', b ≠ a := by
  unfold oL at w
  cases w with
  | nod h r n => exact ⟨_, _, _, rfl, rfl, h, r, fun b hb z => n (z ▸ hb)⟩
theorem OwAll.toInts : ∀ {L : List Addr} {vs : List V} {xs : List Int}, OwAll G H L vs (xs.map oI) → L = [] ∧ vs = xs.map V.int
  | _, _, [], .nil => ⟨rfl, rfl⟩
  | _, _, x :: xs, .cons a r _ => by
    obtain ⟨h1, h2⟩ := OwAll.toInts r
    cases a
    exact ⟨by rw [h1] <;> rfl, by rw [h2] <;> rfl⟩
theorem Ow.toInts {v : V} {L : List Addr} {xs : List Int} (w : Ow G H L v (oL oI xs)) : ∃ a, v = .ref a ∧ L = [a] ∧ H a = some (.lst (xs.map V.int)) := by
  obtain ⟨a, vs, L', rfl, rfl, h, r, _⟩ := w.toList
  obtain ⟨rfl, rfl⟩ := r.toInts
  exact ⟨a, rfl, rfl, h⟩
/-- the part at a place, and how a change of it alone changes the whole -/
theorem OwAll.part : ∀ {L : List Addr} {vs : List V} {ds : List Dt} {i : Nat} {d : Dt}, OwAll G H L vs ds → ds[i]? = some d → ∃ v L1, vs[i]? = some v ∧ Ow G H L1 v d ∧ (∀ b ∈ L1, b ∈ L) ∧
    ∀ H' d', (∀ b ∈ L, b ∉ L1 → ∀ o, H b = some o → H' b = some o) → Ow G H' L1 v d' → OwAll G H' L vs (ds.set i d')
  | _, _, _, _, _, .nil, h => by simp at h
  | _, _, _, 0, _, .cons (L1 := La) (L2 := Lb) a r n, h => by
    simp at h
    subst h
    refine ⟨_, La, rfl, a, fun b hb => List.mem_append_left _ hb, fun H' d' k w => ?_⟩
    exact .cons w (OwAll.mono (Same.refl G) (fun b hb => k b (List.mem_append_right _ hb) fun z => n b z hb) r) n
  | _, _, _, i + 1, _, .cons (L1 := La) (L2 := Lb) a r n, h => by
    obtain ⟨v, L1, h1, h2, h3, h4⟩ := OwAll.part (i := i) r (by simpa using h)
    refine ⟨v, L1, by simpa using h1, h2, fun b hb => List.mem_append_right _ (h3 b hb), fun H' d' k w => ?_⟩
    refine .cons (Ow.mono (Same.refl G) (fun b hb => k b (List.mem_append_left _ hb) fun z => n b hb (h3 b z)) a) (h4 H' d' (fun b hb nb => k b (List.mem_append_right _ hb) nb) w) n
/-- the same, where the part grows: its new footprint is the old one and what is new -/
theorem OwAll.part2 : ∀ {L : List Addr} {vs : List V} {ds : List Dt} {i : Nat} {d : Dt}, OwAll G H L vs ds → ds[i]? = some d → ∃ v L1, vs[i]? = some v ∧ Ow G H L1 v d ∧ (∀ b ∈ L1, b ∈ L) ∧
    (∀ H' d', (∀ b ∈ L, b ∉ L1 → ∀ o, H b = some o → H' b = some o) → Ow G H' L1 v d' → OwAll G H' L vs (ds.set i d')) ∧
    ∀ H' d' Fv L1', (∀ b ∈ L, b ∉ L1 → ∀ o, H b = some o → H' b = some o) → (∀ b ∈ L1', b ∈ L1 ++ Fv) → (∀ b ∈ Fv, b ∉ L) → Ow G H' L1' v d' → ∃ L', (∀ b ∈ L', b ∈ L ++ Fv) ∧ OwAll G H' L' vs (ds.set i d')
  | _, _, _, _, _, .nil, h => by simp at h
  | _, _, _, 0, _, .cons (L1 := La) (L2 := Lb) a r n, h => by
    simp at h
    subst h
    refine ⟨_, La, rfl, a, fun b hb => List.mem_append_left _ hb, fun H' d' k w => ?_, fun H' d' Fv L1' k s nf w => ⟨L1' ++ Lb, fun b hb => ?_, ?_⟩⟩
    · exact .cons w (OwAll.mono (Same.refl G) (fun b hb => k b (List.mem_append_right _ hb) fun z => n b z hb) r) n
    · rcases List.mem_append.mp hb with hb | hb
      · rcases List.mem_append.mp (s b hb) with q | q
        · exact List.mem_append_left _ (List.mem_append_left _ q)
        · exact List.mem_append_right _ q
      · exact List.mem_append_left _ (List.mem_append_right _ hb)
    · refine .cons w (OwAll.mono (Same.refl G) (fun b hb => k b (List.mem_append_right _ hb) fun z => n b z hb) r) fun b hb q => ?_
      rcases List.mem_append.mp (s b hb) with z | z
      · exact n b z q
      · exact nf b z (List.mem_append_right _ q)
  | _, _, _, i + 1, _, .cons (L1 := La) (L2 := Lb) a r n, h => by
    obtain ⟨v, L1, h1, h2, h3, h4, h5⟩ := OwAll.part2 (i := i) r (by simpa using h)
    refine ⟨v, L1, by simpa using h1, h2, fun b hb => List.mem_append_right _ (h3 b hb), fun H' d' k w => ?_, fun H' d' Fv L1' k s nf w => ?_⟩
    · refine .cons (Ow.mono (Same.refl G) (fun b hb => k b (List.mem_append_left _ hb) fun z => n b hb (h3 b z)) a) (h4 H' d' (fun b hb nb => k b (List.mem_append_right _ hb) nb) w) n
    · obtain ⟨L', s2, z⟩ := h5 H' d' Fv L1' (fun b hb nb => k b (List.mem_append_right _ hb) nb) s (fun b hb q => nf b hb (List.mem_append_right _ q)) w
      refine ⟨La ++ L', fun b hb => ?_, .cons (Ow.mono (Same.refl G) (fun b hb => k b (List.mem_append_left _ hb) fun z => n b hb (h3 b z)) a) z fun b hb q => ?_⟩
      · rcases List.mem_append.mp hb with hb | hb
        · exact List.mem_append_left _ (List.mem_append_left _ hb)
        · rcases List.mem_append.mp (s2 b hb) with q | q
          · exact List.mem_append_left _ (List.mem_append_right _ q)
          · exact List.mem_append_right _ q
      · rcases List.mem_append.mp (s2 b q) with y | y
        · exact n b hb y
        · exact nf b y (List.mem_append_left _ hb)
theorem OwAll.partM [Inhabited α] {k : Int} (w : OwAll G H L vs (xs.map f)) (h : -(xs.length : Int) ≤ k ∧ k < xs.length) : ∃ v L1, atI vs k = some v ∧ Ow G H L1 v (f (itD xs k)) ∧ (∀ b ∈ L1, b ∈ L) ∧
    (∀ H' y, (∀ b ∈ L, b ∉ L1 → ∀ o, H b = some o → H' b = some o) → Ow G H' L1 v (f y) → OwAll G H' L vs ((setL xs k y).map f)) ∧
    ∀ H' y Fv L1', (∀ b ∈ L, b ∉ L1 → ∀ o, H b = some o → H' b = some o) → (∀ b ∈ L1', b ∈ L1 ++ Fv) → (∀ b ∈ Fv, b ∉ L) → Ow G H' L1' v (f y) → ∃ L', (∀ b ∈ L', b ∈ L ++ Fv) ∧ OwAll G H' L' vs ((setL xs k y).map f) := by
  obtain ⟨j, e, hj⟩ := ixN_some h
  have hx := List.getElem?_eq_getElem hj
  obtain ⟨v, L1, h1, h2, h3, h4, h5⟩ := OwAll.part2 (i := j) (d := f xs[j]) w (by rw [List.getElem?_map, hx] <;> rfl)
  have ei : itD xs k = xs[j] := by
    unfold itD atI
    rw [e]
    show (xs[j]?).getD default = _
    rw [hx] <;> rfl
  refine ⟨v, L1, ?_, by rw [ei]; exact h2, h3, fun H' y q w2 => ?_, fun H' y Fv L1' q s nf w2 => ?_⟩
  · unfold atI
    rw [w.lenM, e]
    exact h1
  · have z := h4 H' (f y) q w2
    unfold setL
    rw [e, List.map_set]
    exact z
  · obtain ⟨L', s2, z⟩ := h5 H' (f y) Fv L1' q s nf w2
    refine ⟨L', s2, ?_⟩
    unfold setL
    rw [e, List.map_set]
    exact z
theorem grow_keeps {L L1 : List Addr} {m : Addr} {H H1 H2 : Hp} (e : Same H H1) (x : SameX m H1 H2) (hm : m ∈ L1) : ∀ b ∈ L, b ∉ L1 → ∀ o, H b = some o → H2 b = some o := fun b _ n o q => x b o (e b o q) (fun z => n (z ▸ hm))
theorem grow_sub {a : Addr} {L' Lr Fv : List Addr} (h : ∀ b ∈ L', b ∈ Lr ++ Fv) : ∀ b ∈ a :: L', b ∈ (a :: Lr) ++ Fv := fun b hb => by
  rcases List.mem_cons.mp hb with rfl | hb
  · exact List.mem_cons_self
  · exact List.mem_cons_of_mem _ (h b hb)
/-- the item of a turn -/
theorem OwAll.turn {i : Nat} {v : V} (w : OwAll G H L vs (xs.map f)) (h : vs[i]? = some v) : ∃ x L1, xs[i]? = some x ∧ Ow G H L1 v (f x) ∧ ∀ b ∈ L1, b ∈ L := by
  have hl := get_len h
  have e := w.lenM
  have hx := List.getElem?_eq_getElem (show i < xs.length by omega)
  obtain ⟨v2, L1, h1, h2, h3, _⟩ := OwAll.part (i := i) (d := f xs[i]) w (by rw [List.getElem?_map, hx] <;> rfl)
  rw [h] at h1
  cases h1
  exact ⟨_, L1, hx, h2, h3⟩
end
/-! ### what is owned, in pieces -/
theorem all_app {P : Addr → Prop} {L l : List Addr} (h : ∀ x ∈ L, P x) (t : ∀ x ∈ l, P x) : ∀ x ∈ L ++ l, P x := fun x hx => by
  rcases List.mem_append.mp hx with q | q
  · exact h x q
  · exact t x q
theorem nm_nil {a : Addr} : a ∉ ([] : List Addr) := fun z => nomatch z
theorem nm_cons {a m : Addr} {l : List Addr} (h : a ≠ m) (t : a ∉ l) : a ∉ m :: l := fun z => by
  rcases List.mem_cons.mp z with q | q
  · exact h q
  · exact t q
theorem nm_app {a : Addr} {L l : List Addr} (h : a ∉ L) (t : a ∉ l) : a ∉ L ++ l := fun z => by
  rcases List.mem_append.mp z with q | q
  · exact h q
  · exact t q
theorem there_ne {H : Hp} {L : List Addr} {x : Addr} (t : ∀ b ∈ L, H b ≠ none) (n : H x = none) : ∀ b ∈ L, b ≠ x := fun b hb z => t b hb (z ▸ n)
theorem new_ne {H : Hp} {L : List Addr} {x : Addr} {o : HO} (n : ∀ b ∈ L, H b = none) (h : H x = some o) : ∀ b ∈ L, b ≠ x := fun b hb z => by
  have := n b hb
  rw [z, h] at this
  cases this
theorem new_nl {H : Hp} {L L2 : List Addr} (n : ∀ b ∈ L, H b = none) (t : ∀ b ∈ L2, H b ≠ none) : ∀ b ∈ L, b ∉ L2 := fun b hb z => t b z (n b hb)
theorem nl_symm {L L2 : List Addr} (h : ∀ b ∈ L, b ∉ L2) : ∀ b ∈ L2, b ∉ L := fun b hb z => h b z hb
theorem none_of_same {H H' : Hp} {x : Addr} (e : Same H H') (n : H' x = none) : H x = none := by
  cases q : H x with
  | none => rfl
  | some o =>
    rw [e x o q] at n
    cases n
section
variable {M : List Addr} {H0 G0 G H H' : Hp} {O L : List Addr} {p m : Addr} {o : HO}
theorem Sep.h0 (S : Sep M H0 G0 G H O) {b : Addr} (hb : b ∈ O) (hM : b ∉ M) : H0 b = none := (S.ow b hb).2.2.elim (fun z => (hM z).elim) id
theorem g_nl {a : Addr} {o : HO} (h : G a = some o) (S : Sep M H0 G0 G H O) (hL : ∀ b ∈ L, b ∈ O) : ∀ b ∈ L, b ≠ a := fun b hb => (g_ne h S (hL b hb)).symm
theorem b_nl {a : Addr} {o : HO} (h : (hideL M H0) a = some o) (S : Sep M H0 G0 G H O) (hL : ∀ b ∈ L, b ∈ O) : ∀ b ∈ L, b ≠ a := fun b hb => (b_ne h S (hL b hb)).symm
/-- a whole tree that is to stay as it is -/
theorem Sep.freezeL (S : Sep M H0 G0 G H O) {O' : List Addr} (hL : ∀ b ∈ L, b ∈ O) (h0 : ∀ b ∈ L, H0 b = none) (hO : ∀ b ∈ O', b ∈ O ∧ b ∉ L) : ∃ G', Same G G' ∧ Keeps L H G' ∧ Sep M H0 G0 G' H O' := by
  have gn : ∀ b ∈ L, G b = none := fun b hb => (S.ow b (hL b hb)).1
  refine ⟨fun b => if b ∈ L then H b else G b, fun b u q => ?_, fun b hb u q => ?_, S.base, S.pm, fun b u q => ?_, fun b u q => ?_, fun b hb gb => ?_, fun a ha => ?_⟩
  · have n : b ∉ L := fun z => by
      rw [gn b z] at q
      cases q
    show (if b ∈ L then H b else G b) = _
    rw [if_neg n]
    exact q
  · show (if b ∈ L then H b else G b) = _
    rw [if_pos hb]
    exact q
  · by_cases z : b ∈ L
    · exact (if_pos z).symm.trans q
    · exact S.sG b u ((if_neg z).symm.trans q)
  · have z : b ∉ L := fun z => by
      have := S.g0 b u q
      rw [gn b z] at this
      cases this
    show (if b ∈ L then H b else G b) = _
    rw [if_neg z]
    exact S.g0 b u q
  · have z : b ∉ L := fun z => hb (h0 b z)
    show (if b ∈ L then H b else G b) = _
    rw [if_neg z]
    exact S.gn b hb gb
  · obtain ⟨h1, h2⟩ := hO a ha
    refine ⟨?_, (S.ow a h1).2⟩
    show (if a ∈ L then H a else G a) = _
    rw [if_neg h2]
    exact (S.ow a h1).1
/-- a callee hands over a list of lists of its own making -/
theorem Sep.steptree (S : Sep M H0 G0 G H O) {G' : Hp} (e : Same H H') (eG : Same G G') (sG : Same G' H') (hn : ∀ b, H b ≠ none → G b = none → G' b = none) (L : List Addr) (hL : ∀ b ∈ L, H b = none ∧ G' b = none ∧ H' b ≠ none) : Sep M H0 G0 G' H' (L ++ O) := by
  have S2 := S.step e eG sG hn
  refine ⟨S2.base, S2.pm, S2.sG, S2.g0, S2.gn, all_app (fun b hb => ⟨(hL b hb).2.1, (hL b hb).2.2, .inr (S.free (hL b hb).1)⟩) S2.ow⟩
end
theorem Rp.list_of {α : Type} {g : α → PyData} {H : Hp} {a : Addr} {vs : List V} {xs : List α} (h : H a = some (.lst vs)) (r : RpAll H vs (xs.map g)) : Rp H (.ref a) (encL g xs) := .lst h r
/-! ### repr of data -/
mutual
def nodes : PyData → Nat
  | .list xs => 1 + nodesAll xs
  | .tuple xs => 1 + nodesAll xs
  | _ => 1
def nodesAll : List PyData → Nat
  | [] => 0
  | x :: xs => nodes x + nodesAll xs
end
mutual
def smallD : PyData → Bool
  | .none => true
  | .bool _ => true
  | .int i => decide (i.natAbs < 10 ^ 19)
  | .str x => decide ((reprText x).length ≤ 20)
  | .list xs => smallAll xs
  | .tuple xs => smallAll xs
  | _ => false
def smallAll : List PyData → Bool
  | [] => true
  | x :: xs => smallD x && smallAll xs
end
theorem piled_list (ts : List Str) : (listText ts).length ≤ piled ts + 2 := by
  cases ts with
  | nil => exact Nat.le_refl 2
  | cons t r =>
    have e : (listText (t :: r)).length = (textFrom 1 ("[" ++ ("" : String) ++ t) r).length + 1 := by
      show (textFrom 0 "[" (t :: r) ++ "]").length = _
      rw [strLen_append]
      rfl
    rw [e, textFrom_length_pos r 1 _ (by decide), piled_cons, strLen_append, strLen_append]
    have h1 : (("[" : String) : Str).length = 1 := rfl
    have h2 : (("" : String) : Str).length = 0 := rfl
    omega
theorem piled_tup (ts : List Str) : (tupleText ts).length ≤ piled ts + 3 := by
  unfold tupleText
  rw [strLen_append, strLen_append]
  have h1 : (("(" : String) : Str).length = 1 := rfl
  have h2 : (((if ts.length == 1 then ",)" else ")" : String) : Str)).length ≤ 2 := by split <;> decide
  by_cases h : ts = []
  · subst h
    exact Nat.le_of_lt (by decide)
  · have := join_length_add ts h
    omega
mutual
theorem small_shown : ∀ d : PyData, smallD d = true → d.shown.length + 4 ≤ 26 * nodes d ∧ d.showable = true ∧ d.hasDict = false
  | .none, _ => ⟨by simp only [PyData.shown, nodes]; decide, by simp [PyData.showable], by simp [PyData.hasDict]⟩
  | .bool b, _ => ⟨by cases b <;> simp only [PyData.shown, nodes] <;> decide, by simp [PyData.showable], by simp [PyData.hasDict]⟩
  | .int i, h => by
    have h : i.natAbs < 10 ^ 19 := by simpa [smallD] using h
    refine ⟨?_, ?_, by simp [PyData.hasDict]⟩
    · have := int_text_length_le10 (k := 19) (by decide) h
      simp only [PyData.shown, nodes]
      rw [PySem.ofString_length]
      omega
    · simp only [PyData.showable, decide_eq_true_eq]
      have : i.natAbs < 2 ^ 64 := by omega
      rcases Nat.eq_zero_or_pos i.natAbs with z | z
      · rw [z]
        decide
      · have := (Nat.log2_lt (by omega)).mpr this
        omega
  | .str x, h => by
    have h : (reprText x).length ≤ 20 := by simpa [smallD] using h
    refine ⟨by simp only [PyData.shown, nodes]; omega, by simp [PyData.showable], by simp [PyData.hasDict]⟩
  | .list xs, h => by
    obtain ⟨h1, h2, h3⟩ := small_shownAll xs (by simpa [smallD] using h)
    refine ⟨?_, by simpa [PyData.showable] using h2, by simpa [PyData.hasDict] using h3⟩
    have := piled_list (PyData.shownAll xs)
    simp only [PyData.shown, nodes]
    omega
  | .tuple xs, h => by
    obtain ⟨h1, h2, h3⟩ := small_shownAll xs (by simpa [smallD] using h)
    refine ⟨?_, by simpa [PyData.showable] using h2, by simpa [PyData.hasDict] using h3⟩
    have := piled_tup (PyData.shownAll xs)
    simp only [PyData.shown, nodes]
    omega
  | .dict kvs, h => by simp [smallD] at h
theorem small_shownAll : ∀ ds : List PyData, smallAll ds = true → piled (PyData.shownAll ds) ≤ 26 * nodesAll ds ∧ PyData.showableAll ds = true ∧ PyData.hasDictAll ds = false
  | [], _ => ⟨by simp [PyData.shownAll, nodesAll, piled], by simp [PyData.showableAll], by simp [PyData.hasDictAll]⟩
  | d :: ds, h => by
    have h : smallD d = true ∧ smallAll ds = true := by simpa [smallAll] using h
    obtain ⟨a1, a2, a3⟩ := small_shown d h.1
    obtain ⟨b1, b2, b3⟩ := small_shownAll ds h.2
    refine ⟨?_, by simp [PyData.showableAll, a2, b2], by simp [PyData.hasDictAll, a3, b3]⟩
    simp only [PyData.shownAll, nodesAll, piled_cons]
    omega
end
/-- data that repr may show -/
def ShowOk (d : PyData) : Prop := smallD d = true ∧ nodes d ≤ 600000 ∧ d.depth ≤ 60
instance (d : PyData) : Decidable (ShowOk d) := by unfold ShowOk; infer_instance
def rRepr : List V → Hp → VK → Prop := fun xs H Q => ∃ (a : Addr) (d : PyData), xs = [.ref a] ∧ Rp H (.ref a) d ∧ ShowOk d ∧ Q (.str d.shown) H
theorem call_reprD {X : Cx} (hg : X.A.guards = some []) (hu : X.A.units + 64 < cLine) : CallR X (.builtin "repr") rRepr := by
  intro pins s σ H xs us Q I r h
  obtain ⟨a, d, rfl, rp, ⟨ok, nd, dp⟩, q⟩ := h
  obtain ⟨h1, h2, h3⟩ := small_shown d ok
  cases r with
  | cons ra rn =>
    cases rn
    cases ra
    obtain ⟨as, reads⟩ := Dp.reads I d _ _ rp.dp rfl
    refine repr_of_reads' reads h2 (PyData.noDict_hsm h3) hg (by omega) (fun _ _ e => e) (fun h' u tk k => ⟨.str d.shown, H, I.kept k, ⟨u, rfl⟩, q⟩) ?_
    show d.shown.length ≤ 2 ^ 24
    omega
/-- small data: nodes, depth -/
def Sm (n k : Nat) (d : PyData) : Prop := smallD d = true ∧ nodes d ≤ n ∧ d.depth ≤ k
theorem Sm.imp {n k n' k' : Nat} {d : PyData} (h : Sm n k d) (a : n ≤ n') (b : k ≤ k') : Sm n' k' d := ⟨h.1, Nat.le_trans h.2.1 a, Nat.le_trans h.2.2 b⟩
theorem Sm.show {n k : Nat} {d : PyData} (h : Sm n k d) (a : n ≤ 600000 := by decide) (b : k ≤ 60 := by decide) : ShowOk d := h.imp a b
theorem sm_non : Sm 1 0 .none := ⟨by simp [smallD], by simp [nodes], by simp [PyData.depth]⟩
theorem sm_bool (b : Bool) : Sm 1 0 (.bool b) := ⟨by simp [smallD], by simp [nodes], by simp [PyData.depth]⟩
theorem sm_int {i : Int} (h : -10000000000000000000 < i ∧ i < 10000000000000000000) : Sm 1 0 (.int i) := ⟨by simp only [smallD, decide_eq_true_eq]; omega, by simp [nodes], by simp [PyData.depth]⟩
theorem sm_all {α : Type} {f : α → PyData} {n k : Nat} : ∀ {xs : List α}, (∀ x ∈ xs, Sm n k (f x)) → smallAll (xs.map f) = true ∧ nodesAll (xs.map f) ≤ xs.length * n ∧ PyData.depthAll (xs.map f) ≤ k
  | [], _ => ⟨by simp [smallAll], by simp [nodesAll], by simp [PyData.depthAll]⟩
  | x :: xs, h => by
    obtain ⟨a1, a2, a3⟩ := h x List.mem_cons_self
    obtain ⟨b1, b2, b3⟩ := sm_all fun y hy => h y (List.mem_cons_of_mem _ hy)
    refine ⟨by simp [smallAll, a1, b1], ?_, ?_⟩
    · simp only [List.map_cons, nodesAll, List.length_cons, Nat.succ_mul]
      omega
    · simp only [List.map_cons, PyData.depthAll]
      omega
theorem sm_L {α : Type} {f : α → PyData} {n k m : Nat} {xs : List α} (h : ∀ x ∈ xs, Sm n k (f x)) (hm : xs.length ≤ m) : Sm (1 + m * n) (k + 1) (encL f xs) := by
  obtain ⟨a1, a2, a3⟩ := sm_all h
  refine ⟨by simp [encL, smallD, a1], ?_, ?_⟩
  · have := Nat.mul_le_mul_right n hm
    simp only [encL, nodes]
    omega
  · simp only [encL, PyData.depth]
    omega
theorem sm_ints {xs : List Int} {m : Nat} (h : ∀ x ∈ xs, -10000000000000000000 < x ∧ x < 10000000000000000000) (hm : xs.length ≤ m) : Sm (1 + m * 1) 1 (encL PyData.int xs) := sm_L (fun x hx => sm_int (h x hx)) hm
theorem sm_T2 {α β : Type} {f : α → PyData} {g : β → PyData} {n k m j : Nat} {p : α × β} (h1 : Sm n k (f p.1)) (h2 : Sm m j (g p.2)) : Sm (1 + n + m) (max k j + 1) (encT2 f g p) := by
  obtain ⟨a1, a2, a3⟩ := h1
  obtain ⟨b1, b2, b3⟩ := h2
  refine ⟨by simp [encT2, smallD, smallAll, a1, b1], ?_, ?_⟩
  · simp only [encT2, nodes, nodesAll]
    omega
  · simp only [encT2, PyData.depth, PyData.depthAll]
    omega
theorem sm_T3 {α β γ : Type} {f : α → PyData} {g : β → PyData} {h : γ → PyData} {n k m j l i : Nat} {p : α × β × γ} (h1 : Sm n k (f p.1)) (h2 : Sm m j (g p.2.1)) (h3 : Sm l i (h p.2.2)) : Sm (1 + n + m + l) (max k (max j i) + 1) (encT3 f g h p) := by
  obtain ⟨a1, a2, a3⟩ := h1
  obtain ⟨b1, b2, b3⟩ := h2
  obtain ⟨c1, c2, c3⟩ := h3
  refine ⟨by simp [encT3, smallD, smallAll, a1, b1, c1], ?_, ?_⟩
  · simp only [encT3, nodes, nodesAll]
    omega
  · simp only [encT3, PyData.depth, PyData.depthAll]
    omega
end Vx
namespace Vx
open PySem PySem.Spec PyProof.Rows L2
theorem new_ne2 {H : Hp} {L : List Addr} {x : Addr} (n : ∀ b ∈ L, H b = none) (h : H x ≠ none) : ∀ b ∈ L, b ≠ x := fun b hb z => h (z ▸ n b hb)
theorem upd_tree {α : Type} {f : α → Dt} {G H H' : Hp} {L L1 : List Addr} {vs : List V} {xs : List α} {k : Int} {v : V} {m : Addr} {y : α} (up : ∀ H' y, (∀ b ∈ L, b ∉ L1 → ∀ o, H b = some o → H' b = some o) → Ow G H' L1 v (f y) → OwAll G H' L vs ((setL xs k y).map f)) (x : SameX m H H') (hm : m ∈ L1) (w : Ow G H' L1 v (f y)) :
    OwAll G H' L vs ((setL xs k y).map f) := up H' y (fun c _ n o q => x c o q (fun z => n (z ▸ hm))) w
theorem Ow.toFrz {α : Type} {f : α → PyData} {G H : Hp} {L : List Addr} {v : V} {x : α} (w : Ow G H L v (oF f x)) : L = [] ∧ Rp G v (f x) := by
  unfold oF at w
  cases w with
  | frz r => exact ⟨rfl, r⟩
section
variable {α : Type} {f : α → Dt} {G H : Hp} {L : List Addr} {vs : List V} {xs : List α}
theorem OwAll.pin {i : Nat} {v : V} {x : α} (w : OwAll G H L vs (xs.map f)) (h : vs[i]? = some v) (hx : xs[i]? = some x) : ∃ L1, Ow G H L1 v (f x) ∧ ∀ b ∈ L1, b ∈ L := by
  obtain ⟨y, L1, h1, h2, h3⟩ := OwAll.turn w h
  rw [hx] at h1
  cases h1
  exact ⟨L1, h2, h3⟩
theorem OwAll.pinInts {i : Nat} {b : Addr} {xs : List (List Int)} {x : List Int} (w : OwAll G H L vs (xs.map (oL oI))) (h : vs[i]? = some (.ref b)) (hx : xs[i]? = some x) : H b = some (.lst (x.map V.int)) ∧ b ∈ L := by
  obtain ⟨L1, w1, h1⟩ := OwAll.pin w h hx
  obtain ⟨c, e, rfl, h2⟩ := Ow.toInts w1
  cases e
  exact ⟨h2, h1 _ List.mem_cons_self⟩
end
end Vx
namespace Vx
open PySem PySem.Spec PyProof.Rows L2
theorem lookup_relab {c : Str → Bool} {y : Str} : ∀ l : List (Str × NameKind), (l.lookup y = some .cell ∨ l.lookup y = some .free) →
    ((l.map fun (n, k) => if (k == .free && c n) then (n, NameKind.cell) else (n, k)).lookup y = some .cell ∨ (l.map fun (n, k) => if (k == .free && c n) then (n, NameKind.cell) else (n, k)).lookup y = some .free)
  | [], h => by simp at h
  | (n, k) :: r, h => by
    rw [List.map_cons]
    dsimp only
    by_cases e : y == n
    · have hk : k = .cell ∨ k = .free := by
        rw [List.lookup_cons, e] at h
        simpa using h
      by_cases q : (k == .free && c n) = true
      · left
        rw [if_pos q, List.lookup_cons, e]
      · rw [if_neg q, List.lookup_cons, e]
        simpa using hk
    · have e : (y == n) = false := by simpa using e
      rw [List.lookup_cons, e] at h
      have ih := lookup_relab (c := c) r h
      by_cases q : (k == .free && c n) = true
      · rw [if_pos q, List.lookup_cons, e]
        exact ih
      · rw [if_neg q, List.lookup_cons, e]
        exact ih
theorem blk_relabel {N : List Str} {sc scope : Scope} {env : Env} {own : List (Str × Nat)} (h : BlkOk N sc scope own) : BlkOk N (relabel sc env) scope own := by
  refine ⟨h.kind, h.uniq, h.ix, fun y hy e => ?_, h.own⟩
  have z := lookup_relab (c := fun n => env.scope.kind == .function && env.kindOf n == some .cell) (y := y.1) sc.names (h.free y hy e)
  unfold relabel
  simpa only [Bool.and_assoc] using z
end Vx
namespace Vx
open PySem PySem.Spec PyProof.Rows L2
theorem FnG.low {P : Program} {w : World} {K : PySem.W.Frag} {mg : Str → Option Value} {base : Heap} {cx : CXT} {j k : Nat} {f : Addr} {fd : FuncData} {ps : List Str} {sp : Sp} (F : FnG P w K mg base cx j f fd ps sp) (h : j ≤ k) : FnG P w K mg base cx k f fd ps sp := ⟨F.len, fun A o s H a us vs Q E r => F.run A o s H a us vs Q E (r.low h)⟩
/-! ### a local name that holds one of several defs -/
structure HeldX (P : Program) (w : World) (K : PySem.W.Frag) (mg : Str → Option Value) (base : Heap) (k n : Nat) (f : Addr) (sp : Sp) : Prop where
  ex : ∃ (fd : FuncData) (ps : List Str), FnG P w K mg base (L2.CX P w) k f fd ps sp ∧ PySem.W.keepIn K (.ref f) = true ∧ Bnd K fd ps n [] (fun vs _ => vs)
theorem HeldX.of {P : Program} {w : World} {K : PySem.W.Frag} {mg : Str → Option Value} {base : Heap} {j k n : Nat} {x : Str} {sp : Sp} {pats : List Pat} {a : Addr} (c : CalX P w K mg base j x sp pats) (hx : mg x = some (.ref a)) (hp : (n, [], fun vs _ => vs) ∈ pats) (hj : j ≤ k) : HeldX P w K mg base k n a sp := by
  obtain ⟨f, fd, ps, F, hm, kp, b⟩ := c.ex
  rw [hx] at hm
  injection hm with hm
  injection hm with hm
  subst hm
  exact ⟨fd, ps, F.low hj, kp, b _ hp⟩
def tCallF (i n : Nat) (L : List (Addr × Sp)) (W : WX) (t : TA) : TE := fun σ H Q => ∃ f sp, σ[i]? = some (some (.ref f)) ∧ (f, sp) ∈ L ∧ t σ H fun vs H1 => vs.length = n ∧ ([] : List V).length = 0 ∧ sp vs H1 Q (WE W σ)
theorem vx_callF {X : Cx} {k j i n : Nat} {x : Str} {p pos : Pos} {e : Expr} {es : List Expr} {t : TA} {W : WX} (L : List (Addr × Sp)) (A : ∀ q ∈ L, HeldX X.prog X.w X.K X.mg X.base k n q.1 q.2) (hr : RoomG j X.A) (hk : k ≤ j) (tkW : Takes X W) (hN : X.N[i]? = some x) (hv : Vis X.env.scope x) (ha : PA X (e :: es) t)
    (hdb : (x == ("__debug__" : Str)) = false := by decide) (hcd : (x == ("__classdict__" : Str)) = false := by decide) (he : starEach (e :: es) X.env = (false, eval e X.env) :: starEach es X.env := by rfl) (hpl : (backTo pos (starEach es X.env)).any (·.1) = false := by rfl) :
    PE X (.Call (.Name x p) (e :: es) [] pos) (tCallF i n L W t) := by
  constructor
  intro pins s σ H Q I h
  obtain ⟨f, sp, slot, mem, rest⟩ := h
  obtain ⟨fd, ps, F, kp, b⟩ := (A _ mem).ex
  refine wpAny_Call_Name_kw (thn ((pe_var (pos := p) hN hv hdb hcd).run pins s σ H (fun v H1 => v = .ref f ∧ H1 = H) I ⟨.ref f, slot, rfl, rfl⟩) ?_)
  rintro u s1 ⟨v, H1, I1, r1, rfl, rfl⟩
  cases r1
  refine PySem.W.callWith_K (h₀ := X.base) I.ok.mod.kin kp (thn (ha.run pos pins s1 σ _ _ I1 rest) ?_) he hpl
  rintro us s2 ⟨vs, H2, I2, r, l1, l2, q⟩
  exact ⟨I2.kIn, run_X (us := us) (ws := []) (zs := []) F (hr.low hk) b tkW I2 r .nil l1 l2 q⟩
/-! ### the least of a list, the place of an item -/
def minL : List Int → Int
  | [] => 0
  | [x] => x
  | x :: y :: r => if x ≤ minL (y :: r) then x else minL (y :: r)
theorem minL_spec : ∀ (xs : List Int), xs ≠ [] → minL xs ∈ xs ∧ ∀ y ∈ xs, minL xs ≤ y
  | [], h => absurd rfl h
  | [x], _ => ⟨List.mem_cons_self, fun y hy => by rw [List.mem_singleton.mp hy]; exact Int.le_refl x⟩
  | x :: y :: r, _ => by
    obtain ⟨h1, h2⟩ := minL_spec (y :: r) (fun z => nomatch z)
    unfold minL
    split
    · refine ⟨List.mem_cons_self, fun z hz => ?_⟩
      rcases List.mem_cons.mp hz with rfl | hz
      · exact Int.le_refl _
      · have := h2 z hz
        omega
    · refine ⟨List.mem_cons_of_mem _ h1, fun z hz => ?_⟩
      rcases List.mem_cons.mp hz with rfl | hz
      · omega
      · exact h2 z hz
def maxL (xs : List Int) : Int := -(minL (xs.map fun x => -x))
theorem maxL_spec (xs : List Int) (h : xs ≠ []) : maxL xs ∈ xs ∧ ∀ y ∈ xs, y ≤ maxL xs := by
  obtain ⟨h1, h2⟩ := minL_spec (xs.map fun x => -x) (by simpa using h)
  obtain ⟨z, hz, e⟩ := List.mem_map.mp h1
  unfold maxL
  refine ⟨by rw [← e, Int.neg_neg]; exact hz, fun y hy => ?_⟩
  have := h2 _ (List.mem_map_of_mem hy)
  omega
section
variable {X : Cx} {K : PySem.W.Frag}
def rMinL (K : PySem.W.Frag) : List V → Hp → VK → Prop := fun vs H Q => ∃ (a : Addr) (ns : List Int), vs = [V.ref a] ∧ SqL K H a (ns.map V.int) ∧ ns ≠ [] ∧ Q (.int (minL ns)) H
def rMaxL (K : PySem.W.Frag) : List V → Hp → VK → Prop := fun vs H Q => ∃ (a : Addr) (ns : List Int), vs = [V.ref a] ∧ SqL K H a (ns.map V.int) ∧ ns ≠ [] ∧ Q (.int (maxL ns)) H
theorem cr_minL (hc : X.calm = true) (hK : X.K = K := by rfl) : CallR X (.builtin "min") (rMinL K) := by
  subst hK
  intro pins s σ H vs us Q I r h
  obtain ⟨a, ns, rfl, hs, hn, q⟩ := h
  refine cr_min hc pins s σ H _ us Q I r ⟨a, ns, rfl, hs, List.length_pos_iff.mpr hn, fun m hm hle => ?_⟩
  obtain ⟨h1, h2⟩ := minL_spec ns hn
  have e : m = minL ns := Int.le_antisymm (by have := hle _ h1; omega) (h2 m hm)
  rw [e]
  exact q
theorem cr_maxL (hc : X.calm = true) (hK : X.K = K := by rfl) : CallR X (.builtin "max") (rMaxL K) := by
  subst hK
  intro pins s σ H vs us Q I r h
  obtain ⟨a, ns, rfl, hs, hn, q⟩ := h
  refine cr_max hc pins s σ H _ us Q I r ⟨a, ns, rfl, hs, List.length_pos_iff.mpr hn, fun m hm hle => ?_⟩
  obtain ⟨h1, h2⟩ := maxL_spec ns hn
  have e : m = maxL ns := Int.le_antisymm (h2 m hm) (by have := hle _ h1; omega)
  rw [e]
  exact q
end
end Vx
namespace Vx
open PySem PySem.Spec PyProof.Rows L2
def idxL (ns : List Int) (i : Int) : Int := (ns.idxOf i : Nat)
def rIndexI (K : PySem.W.Frag) : V → List V → Hp → VK → Prop := fun x xs H Q => ∃ (a : Addr) (ns : List Int) (i : Int), x = V.ref a ∧ xs = [.int i] ∧ SqL K H a (ns.map V.int) ∧ i ∈ ns ∧ Q (.int (idxL ns i)) H
theorem mt_indexI {X : Cx} {K : PySem.W.Frag} (hK : X.K = K := by rfl) : MtR X "list.index" (rIndexI K) := by
  subst hK
  intro pins s σ H x xs v us Q I rx rxs h
  obtain ⟨a, ns, i, rfl, rfl, hs, hi, q⟩ := h
  have hl := List.idxOf_lt_length_of_mem hi
  refine mt_index pins s σ H _ _ v us Q I rx rxs ⟨a, _, .int i, ns.idxOf i, .int i, rfl, rfl, hs, rfl, flat_ints ns, ?_, by simp [eqV], fun m z hm hz => ?_, q⟩
  · rw [List.getElem?_map, List.getElem?_eq_getElem hl, List.getElem_idxOf hl] <;> rfl
  · rw [List.getElem?_map] at hz
    cases e : ns[m]? with
    | none => rw [e] at hz; cases hz
    | some y =>
      rw [e] at hz
      cases hz
      have hml : m < ns.length := by omega
      have hy : ns[m] = y := by
        rw [List.getElem?_eq_getElem hml] at e
        exact Option.some.inj e
      have := List.not_of_lt_findIdx (p := (· == i)) (xs := ns) (i := m) hm
      simp only [beq_iff_eq, hy] at this
      simp [eqV, this]
theorem cW_aftgo {σ ρ τ : Type} {s : σ} {kr : ρ → Rx τ} {k : σ → Rx τ} {K : τ → Prop} {E : Nat → Prop} (h : cW ((Lp.go s : Lp σ ρ).aft kr k) K E) : cW (k s) K E := h
end Vx
namespace Vx
open PySem PySem.Spec PyProof.Rows L2
/-! ### a truth value or a number beside a number -/
def Bi.num : Bi → Int
  | .b x => if x then 1 else 0
  | .n i => i
def Bi.dat : Bi → PyData
  | .b x => .bool x
  | .n i => .int i
section
variable {X : Cx}
def rEqBI : R2 := fun x y H Q => ∃ (b : Bi) (i : Int), x = biV b ∧ y = .int i ∧ Q (.bl (decide (b.num = i))) H
def rNeBI : R2 := fun x y H Q => ∃ (b : Bi) (i : Int), x = biV b ∧ y = .int i ∧ Q (.bl (!decide (b.num = i))) H
theorem eqv_bi (b : Bi) (i : Int) : PyData.eqv b.dat (.int i) = decide (b.num = i) := by
  cases b with
  | b x => cases x <;> (rw [Bool.eq_iff_iff]; simp [Bi.dat, Bi.num, PyData.eqv])
  | n j =>
    rw [Bool.eq_iff_iff]
    simp only [Bi.dat, Bi.num, PyData.eqv, beq_iff_eq]
    exact decide_eq_true_iff.symm
theorem dp_bi {K : PySem.W.Frag} {H : Hp} : ∀ b : Bi, Dp K H (biV b) b.dat
  | .b x => .bl x
  | .n i => .int i
theorem shaped_bi : ∀ b : Bi, SeqAt.shaped b.dat = true
  | .b x => by unfold SeqAt.shaped; simp [Bi.dat, PyData.canLay0, PyData.depth]
  | .n i => by unfold SeqAt.shaped; simp [Bi.dat, PyData.canLay0, PyData.depth]
theorem op_eqBI (hu : X.A.units + 64 < cLine) : OpR X (compareOp .Eq) rEqBI := by
  intro pins s σ H x y v u Q I rx ry h
  obtain ⟨b, i, rfl, rfl, q⟩ := h
  exact op_eqD hu pins s σ H _ _ v u Q I rx ry ⟨b.dat, .int i, dp_bi b, .int i, shaped_bi b, shaped_bi (.n i), by rw [eqv_bi]; exact q⟩
theorem op_neBI (hu : X.A.units + 64 < cLine) : OpR X (compareOp .NotEq) rNeBI := by
  intro pins s σ H x y v u Q I rx ry h
  obtain ⟨b, i, rfl, rfl, q⟩ := h
  exact op_neD hu pins s σ H _ _ v u Q I rx ry ⟨b.dat, .int i, dp_bi b, .int i, shaped_bi b, shaped_bi (.n i), by rw [eqv_bi]; exact q⟩
end
end Vx
namespace Vx
open PySem PySem.Spec PyProof.Rows L2
/-! ### == of own objects by an own __eq__ that never raises -/
section
variable {X : Cx} {k j : Nat}
def rEqX (C : Addr) (n mm : Nat) (sp : Sp) (g : List V → List V → List V) : R2 := fun x y H Q => ∃ (a b dx dy : Addr) (fs gs : List (Str × V)), x = .ref a ∧ y = .ref b ∧ H a = some (.ins C dx fs) ∧ H b = some (.ins C dy gs) ∧ 2 = n ∧ 0 = mm ∧ sp (g [x, y] []) H (fun v H' => (∃ r, v = .bl r) ∧ Q v H') E0
theorem op_eqX {C : Addr} {sp : Sp} {pats : List Pat} (c : MetX X.prog X.w X.K X.mg X.base k C "__eq__" sp pats) (pt : Pat) (hpt : pt ∈ pats) (hr : RoomG j X.A) (hk : k ≤ j) (hks : pt.2.1 = [] := by rfl) : OpR X (compareOp .Eq) (rEqX C pt.1 pt.2.1.length sp pt.2.2) := by
  intro pins s σ H x y v u Q I rx ry hq
  obtain ⟨a, b, dx, dy, fs, gs, rfl, rfl, ha, hb', l1, l2, q⟩ := hq
  obtain ⟨f, fd, ps, hc, hm, F, bb⟩ := c.ex
  cases rx
  cases ry
  obtain ⟨mA, J, _⟩ := ins_get I.hok ha
  obtain ⟨mB, J', _⟩ := ins_get I.hok hb'
  obtain ⟨od, J, _⟩ := J.look
  obtain ⟨od', J', _⟩ := J'.look
  obtain ⟨m, hF⟩ := I.fr
  have hz := run_X (us := [.ref a, .ref b]) (vs := [.ref a, .ref b]) (ws := []) (zs := []) F (hr.low hk) (bb pt hpt) (takes0 (X := X)) I (.cons rfl (.cons rfl .nil)) .nil l1 l2 q
  rw [hks] at hz
  show wpAny (model X.prog X.w) X.A (richCompare .Eq (.ref a) (.ref b)) (EP X pins σ Q) X.xe s
  refine PySem.W.cmp_K (op := .Eq) (tb := .ref C) (hr.low hk).toRoom.units0 hF I.ok.mod.kin J J'.type (by simp [PySem.W.notFirst]) hm.at_ hm.fn ?_
  refine wpAny_mono hz (fun r s' z => ?_) fun _ _ e => e
  obtain ⟨w, H', I', rw', ⟨⟨q1, rfl⟩, q2⟩⟩ := z
  cases rw'
  exact ⟨V.bl q1, H', I', rfl, q2⟩
end
end Vx
namespace Vx
open PySem PySem.Spec PyProof.Rows L2
/-! ### isinstance of the exception in hand: a built-in class, a tuple of classes -/
theorem kit_blt {K : PySem.W.Frag} {D : Addr} {T : String} {b : Bool} (h : PySem.W.subIn K (.ref D) (.type T) = some b) (h0 : PySem.W.kitMeta T = true := by decide +kernel) : PySem.W.kitOne K (.ref D) (.type T) = some b := by
  unfold PySem.W.kitOne
  rw [if_neg (show ¬ (Value.ref D == Value.type T) = true from fun z => nomatch (show false = true from z))]
  show (if PySem.W.kitMeta T = true then PySem.W.subIn K (.ref D) (.type T) else none) = some b
  rw [if_pos h0, h]
def rIsXB (K : PySem.W.Frag) (a : Addr) (cls : Value) (d : Option Addr) : List V → Hp → VK → Prop := fun xs H Q => ∃ (D : Addr) (T : String) (b : Bool), cls = .ref D ∧ d = none ∧ ExcC K D ∧ xs = [.ref a, .ty T] ∧ PySem.W.kitOne K (.ref D) (.type T) = some b ∧ Q (.bl b) H
theorem call_isXB {X : Cx} {K : PySem.W.Frag} {a : Addr} {cls : Value} {d : Option Addr} {oe : Obj} {pn : List (Addr × Obj)} (hz : Zc cls d oe) (hf : ∃ vs, oe.data = .fields vs) (hK : X.K = K := by rfl) : CallR (X.suite a ((a, oe) :: pn)) (.builtin "isinstance") (rIsXB K a cls d) := by
  subst hK
  intro pins s σ H xs us Q I r h
  obtain ⟨D, T, b, rfl, rfl, c, rfl, e, q⟩ := h
  exact call_isE c hz hf pins s σ H _ us Q I r ⟨_, _, b, rfl, fun u z => z, e, q⟩
def rIsXT (K : PySem.W.Frag) (a : Addr) (cls : Value) (d : Option Addr) : List V → Hp → VK → Prop := fun xs H Q => ∃ (D tp : Addr) (cs : List V) (ws : List Value) (b : Bool), cls = .ref D ∧ d = none ∧ ExcC K D ∧ xs = [.ref a, .ref tp] ∧ H tp = some (.tup cs) ∧ Paired ClsV cs ws ∧ PySem.W.kitAny K (.ref D) ws = some b ∧ Q (.bl b) H
theorem call_isXT {X : Cx} {K : PySem.W.Frag} {a : Addr} {cls : Value} {d : Option Addr} {oe : Obj} {pn : List (Addr × Obj)} (hz : Zc cls d oe) (hf : ∃ vs, oe.data = .fields vs) (hK : X.K = K := by rfl) : CallR (X.suite a ((a, oe) :: pn)) (.builtin "isinstance") (rIsXT K a cls d) := by
  subst hK
  intro pins s σ H xs us Q I r h
  obtain ⟨D, tp, cs, ws, b, rfl, rfl, C, rfl, hT, k, e, q⟩ := h
  cases r with
  | cons rx rr =>
    cases rr with
    | cons rt rr =>
      cases rr
      cases rx
      cases rt
      obtain ⟨hget, _⟩ := I.pin (a, oe) (List.mem_append.mpr (.inl List.mem_cons_self))
      obtain ⟨vs, hv⟩ := hf
      have J : PySem.W.InstAt s.heap a oe D none := by
        obtain ⟨oc, od, oda, osl⟩ := oe
        obtain ⟨h1, h2⟩ := hz
        dsimp only at h1 h2 hv
        subst h1 h2 hv
        exact ⟨hget, rfl, rfl, trivial⟩
      obtain ⟨_, its, rv, o, h1, h2, n, h3⟩ := (show ObjOk X.prog X.w H s.heap tp (.tup cs) from I.hok tp _ hT)
      have e3 := ClsV.all k rv
      subst e3
      obtain ⟨oc, od, dt, sl⟩ := o
      simp only at h2 h3
      subst h2 h3
      exact PySem.W.kia_tup (PySem.W.handS_kitx_exc C.hg C.hk C.hs C.hd C.ha C.hn C.ht C.hm) I.kIn J h1 e (fun z => nomatch z) fun tk => ⟨.bl b, H, I.kept (t' := tk) fun _ _ z => z, rfl, q⟩
theorem kit_self {K : PySem.W.Frag} {t : Value} (h : (t == t) = true := by simp) : PySem.W.kitOne K t t = some true := by
  unfold PySem.W.kitOne
  rw [if_pos h]
/-- what a class must say, so that isinstance asks its objects rightly -/
structure IsiC (K : PySem.W.Frag) (C : Addr) : Prop where
  ha : PySem.W.findIn K (.ref C) "__class__" = some (some (.builtin "object.__class__"))
  hn : PySem.W.specialIn K (.builtin "object.__class__") "__get__" = some (some (.builtin "getset_descriptor.__get__"))
  ht : PySem.W.takesIn K (.builtin "object.__class__") = some true
  hm : PySem.W.mroIn K C (.type "object") = some true
theorem tyX_ins {K : PySem.W.Frag} {H : Hp} {a C dx : Addr} {fs : List (Str × V)} (e : H a = some (.ins C dx fs)) (cl : Cls K C) (c : IsiC K C) : TyX K H (.ref a) (.ref C) := .base (.ins e cl c.ha c.hn c.ht c.hm)
end Vx
namespace Vx
open PySem PySem.Spec PyProof.Rows L2
theorem op_notTrue {X : Cx} : OpR X (compareOp .IsNot) (fun x y H Q => ∃ b : Bool, x = .bl b ∧ y = .bl true ∧ Q (.bl (!b)) H) := by
  intro pins s σ H x y v u Q I rx ry h
  obtain ⟨b, rfl, rfl, q⟩ := h
  cases rx
  cases ry
  show wpAny (model X.prog X.w) X.A (compareOp .IsNot (.bool b) (.bool true)) (EP X pins σ Q) X.xe s
  have e : compareOp .IsNot (.bool b) (.bool true) = pure (.bool (!b)) := by cases b <;> rfl
  rw [e]
  exact wpAny_pure ⟨.bl (!b), H, I, rfl, q⟩
end Vx
/-! # lists stored into trees -/
namespace Vx
open PySem PySem.Spec PyProof.Rows L2
section
variable {G H I : Hp} {α : Type} {f : α → Dt} {L : List Addr} {vs : List V} {xs : List α}
theorem OwAll.set {L1 : List Addr} {v : V} {d : Dt} (h : Ow G H L1 v d) : ∀ {L : List Addr} {vs : List V} {ds : List Dt} (i : Nat), i < ds.length → OwAll G H L vs ds → (∀ b ∈ L1, b ∉ L) → ∃ L', (∀ b ∈ L', b ∈ L ++ L1) ∧ OwAll G H L' (vs.set i v) (ds.set i d)
  | _, _, _, _, hi, .nil, _ => absurd hi (Nat.not_lt_zero _)
  | _, _, _, 0, _, .cons (L1 := La) (L2 := Lb) a r n, nf => by
    refine ⟨L1 ++ Lb, fun b hb => ?_, .cons h r fun b hb q => nf b hb (List.mem_append_right _ q)⟩
    rcases List.mem_append.mp hb with q | q
    · exact List.mem_append_right _ q
    · exact List.mem_append_left _ (List.mem_append_right _ q)
  | _, _, _, i + 1, hi, .cons (L1 := La) (L2 := Lb) a r n, nf => by
    obtain ⟨L', s, w⟩ := OwAll.set h i (Nat.lt_of_succ_lt_succ hi) r fun b hb q => nf b hb (List.mem_append_right _ q)
    refine ⟨La ++ L', fun b hb => ?_, .cons a w fun b hb q => ?_⟩
    · rcases List.mem_append.mp hb with q | q
      · exact List.mem_append_left _ (List.mem_append_left _ q)
      · rcases List.mem_append.mp (s b q) with z | z
        · exact List.mem_append_left _ (List.mem_append_right _ z)
        · exact List.mem_append_right _ z
    · rcases List.mem_append.mp (s b q) with z | z
      · exact n b hb z
      · exact nf b z (List.mem_append_left _ hb)
theorem ixN_len {k : Int} (e : vs.length = xs.length) (h : -(xs.length : Int) ≤ k ∧ k < xs.length) : ixN vs.length k = some ((ixN vs.length k).getD 0) := by
  rw [e]
  obtain ⟨j, hj, _⟩ := ixN_some h
  rw [hj]
  rfl
theorem OwAll.setM {k : Int} {L1 : List Addr} {v : V} {y : α} (w : OwAll G H L vs (xs.map f)) (h : -(xs.length : Int) ≤ k ∧ k < xs.length) (ow : Ow G H L1 v (f y)) (n : ∀ b ∈ L1, b ∉ L) :
    ∃ L', (∀ b ∈ L', b ∈ L ++ L1) ∧ OwAll G H L' (vs.set ((ixN vs.length k).getD 0) v) ((setL xs k y).map f) := by
  obtain ⟨j, e, hj⟩ := ixN_some h
  obtain ⟨L', s, z⟩ := OwAll.set ow j (by simpa using hj) w n
  refine ⟨L', s, ?_⟩
  unfold setL
  rw [w.lenM, e, List.map_set]
  exact z
end
theorem ne_of_len {α : Type} {xs : List α} (h : xs.length = 4 ∨ xs.length = 6 ∨ xs.length = 8) : xs ≠ [] := by
  rintro rfl
  simp at h
end Vx
namespace Vx
open PySem PySem.Spec PyProof.Rows L2
/-! ### written dicts of ints -/
inductive EI : List (Int × Int) → List DictEntry → Prop
  | nil : EI [] []
  | cons {k v : Int} {t u : Tok} {r : List (Int × Int)} {es : List DictEntry} (h : EI r es) : EI ((k, v) :: r) (⟨hashInt k, .int k t, .int v u⟩ :: es)
def lookI : List (Int × Int) → Int → Option Int
  | [], _ => none
  | (k, v) :: r, i => if i = k then some v else lookI r i
def KDI (K : PySem.W.Frag) (a : Addr) (kvs : List (Int × Int)) : Prop :=
  ∃ es n, K.lookup a = some ⟨.type "dict", none, .dict es n, #[]⟩ ∧ (a == sysModules) = false ∧ EI kvs es.toList
theorem lookI_mem {kvs : List (Int × Int)} {i : Int} : (lookI kvs i).isSome = decide (i ∈ kvs.map (·.1)) := by
  induction kvs with
  | nil => rfl
  | cons p r ih =>
    obtain ⟨k, v⟩ := p
    unfold lookI
    by_cases q : i = k
    · rw [if_pos q]; simp [q]
    · rw [if_neg q, ih]; simp [q]
theorem EI.find {i : Int} : ∀ {kvs : List (Int × Int)} {es : List DictEntry}, EI kvs es → match lookI kvs i with
    | some v => ∃ u, (es.find? fun e => keyIs (.inl i) e.key).map (·.val) = some (.int v u)
    | none => (es.find? fun e => keyIs (.inl i) e.key).map (·.val) = none
  | _, _, .nil => rfl
  | _, _, .cons (k := k) (v := v) (t := t) (u := u) (r := r) (es := es) h => by
    have ih := EI.find (i := i) h
    unfold lookI
    by_cases q : i = k
    · subst q
      rw [if_pos rfl]
      refine ⟨u, ?_⟩
      rw [List.find?_cons_of_pos (by exact keyIs_int i t)]
      rfl
    · rw [if_neg q]
      have e : ¬ (keyIs (.inl i) (Value.int k t) = true) := by
        intro z
        obtain ⟨t', e'⟩ := Value.isInt_shape (k := i) (v := Value.int k t) z
        injection e' with e1 _
        exact q e1.symm
      rw [List.find?_cons_of_neg (by exact e)]
      exact ih
theorem EI.keys {P : Program} {w : World} : ∀ {kvs : List (Int × Int)} {es : List DictEntry}, EI kvs es → ∀ e ∈ es, ∃ k, (mixKind P w).is k e.key = true ∧ e.hash = (mixKind P w).hash k
  | _, _, .nil, e, he => nomatch he
  | _, _, .cons (k := k) (t := t) h, e, he => by
    rcases List.mem_cons.mp he with rfl | he
    · exact ⟨.inl k, keyIs_int k t, rfl⟩
    · exact EI.keys h e he
section
variable {X : Cx} {K : PySem.W.Frag}
theorem KDI.map {d : Addr} {kvs : List (Int × Int)} {pins : List (Addr × Obj)} {σ : L2.St} {H : Hp} {s : Shared} (D : KDI X.K d kvs) (I : Inv X pins σ H s) : (d == sysModules) = false ∧ ∃ f, s.heap.MapOf (mixKind X.prog X.w) d f ∧ ∀ i, match lookI kvs i with
    | some v => ∃ u, f (.inl i) = some (.int v u)
    | none => f (.inl i) = none := by
  obtain ⟨es, n, hl, hd, he⟩ := D
  refine ⟨hd, fun k => findBy keyIs es k, ⟨_, es, n, I.kIn _ _ hl, ⟨rfl, rfl, rfl⟩, rfl, fun e q => EI.keys he e (Array.mem_toList_iff.mpr q), fun _ => rfl⟩, fun i => ?_⟩
  have := EI.find (i := i) he
  have e : findBy keyIs es (.inl i) = (es.toList.find? fun e => keyIs (.inl i) e.key).map (·.val) := by
    obtain ⟨l⟩ := es
    unfold findBy
    rw [List.find?_toArray]
  show match lookI kvs i with
    | some v => ∃ u, findBy keyIs es (.inl i) = some (.int v u)
    | none => findBy keyIs es (.inl i) = none
  rw [e]
  exact this
def rInDI (K : PySem.W.Frag) : R2 := fun x y H Q => ∃ (i : Int) (d : Addr) (kvs : List (Int × Int)) (ks : List Int), x = .int i ∧ y = .ref d ∧ KDI K d kvs ∧ ks = kvs.map (·.1) ∧ Q (.bl (decide (i ∈ ks))) H
def rNotInDI (K : PySem.W.Frag) : R2 := fun x y H Q => ∃ (i : Int) (d : Addr) (kvs : List (Int × Int)) (ks : List Int), x = .int i ∧ y = .ref d ∧ KDI K d kvs ∧ ks = kvs.map (·.1) ∧ Q (.bl (!decide (i ∈ ks))) H
def rIxDI (K : PySem.W.Frag) : R2 := fun x y H Q => ∃ (d : Addr) (i v : Int) (kvs : List (Int × Int)), x = .ref d ∧ y = .int i ∧ KDI K d kvs ∧ lookI kvs i = some v ∧ Q (.int v) H
theorem op_inDI (hK : X.K = K := by rfl) : OpR X (compareOp .In) (rInDI K) := by
  subst hK
  intro pins s σ H x y v u Q I rx ry h
  obtain ⟨i, d, kvs, ks, rfl, rfl, D, rfl, q⟩ := h
  rw [← lookI_mem] at q
  obtain ⟨t, rfl⟩ := rx
  cases ry
  obtain ⟨hd, f, hm, hf⟩ := D.map I
  refine wpAny_in_of (knd := mixKind X.prog X.w) (kV_is (k := .inl i) ⟨t, rfl⟩) hd hm ?_
  have e : (f (.inl i)).isSome = (lookI kvs i).isSome := by
    have := hf i
    split at this
    · next v hv => obtain ⟨u, hu⟩ := this; rw [hu, hv]; rfl
    · next hv => rw [this, hv]; rfl
  rw [e]
  exact ⟨.bl (lookI kvs i).isSome, H, I.tok _, rfl, q⟩
theorem op_notInDI (hK : X.K = K := by rfl) : OpR X (compareOp .NotIn) (rNotInDI K) := by
  subst hK
  intro pins s σ H x y v u Q I rx ry h
  obtain ⟨i, d, kvs, ks, rfl, rfl, D, rfl, q⟩ := h
  rw [← lookI_mem] at q
  obtain ⟨t, rfl⟩ := rx
  cases ry
  obtain ⟨hd, f, hm, hf⟩ := D.map I
  refine wpAny_notIn_of (knd := mixKind X.prog X.w) (kV_is (k := .inl i) ⟨t, rfl⟩) hd hm ?_
  have e : (f (.inl i)).isSome = (lookI kvs i).isSome := by
    have := hf i
    split at this
    · next v hv => obtain ⟨u, hu⟩ := this; rw [hu, hv]; rfl
    · next hv => rw [this, hv]; rfl
  rw [e]
  exact ⟨.bl (!(lookI kvs i).isSome), H, I.tok _, rfl, q⟩
theorem ix_DI (hK : X.K = K := by rfl) : IxR X (rIxDI K) := by
  subst hK
  intro value slice pins s σ H x y v u Q I rx ry h hs
  obtain ⟨p, i, r, kvs, rfl, rfl, D, e, q⟩ := h
  obtain rfl : v = Value.ref p := rx
  obtain ⟨t, rfl⟩ := ry
  obtain ⟨hd, f, hm, hf⟩ := D.map I
  have := hf i
  rw [e] at this
  obtain ⟨u, hu⟩ := this
  exact tail_any hm.typeIs slot_dict_getitem.lookup (wpAny_getItem_of (knd := mixKind X.prog X.w) (kV_is (k := .inl i) ⟨t, rfl⟩) hm hu ⟨.int r, H, I.tok _, ⟨_, rfl⟩, q⟩) hs
end
/-- the value at a key that is there -/
def dictI (kvs : List (Int × Int)) (i : Int) : Int := (lookI kvs i).getD 0
theorem lookI_at {kvs : List (Int × Int)} {i : Int} (h : i ∈ kvs.map (·.1)) : lookI kvs i = some (dictI kvs i) := by
  have := lookI_mem (kvs := kvs) (i := i)
  rw [decide_eq_true h] at this
  unfold dictI
  cases e : lookI kvs i with
  | none => rw [e] at this; cases this
  | some v => rfl
/-! ### walks over two lists, over numbered items, backwards -/
theorem pi_enumK {X : Cx} {K : PySem.W.Frag} {e : Expr} {ta : TA} {p pos tpos : Pos} {elts : List Expr} {kk : Nat} (hg : Gl X "enumerate") (hm : X.mg "enumerate" = none) (ha : PA X [e] ta) (hK : X.K = K := by rfl) (hs : starEach [e] X.env = [(false, eval e X.env)] := by rfl) :
    PI X (.Tuple elts kk tpos) (.Call (.Name "enumerate" p) [e] [] pos) (iEnum K ta) := hK ▸ pi_enum hg hm ha hs
section
variable {K : PySem.W.Frag} {a b : Addr} {xs ys : List V} {g : TG} {tb : TS} {tt : TT} {te : TE} {D : Ends} {σ : L2.St} {H H1 : Hp} {vs : List Nat} {DD : Addr} {Qd : Hp → Prop}
theorem for_enum (Pv : Nat → L2.St → Hp → Prop) (h0 : Pv 0 σ H) (hq : ∀ i σ H, Pv i σ H → SqL K H a xs)
    (hs : ∀ (i : Nat) (y : V) (T : Addr) (σ : L2.St) (H : Hp), xs[i]? = some y → H T = none → Pv i σ H → g (.ref T) σ (upd H T (.tup [.int (i : Nat), y])) fun σ2 H2 => tb { D with nx := Pv (i + 1), ct := Pv (i + 1), bk := D.nx } σ2 H2) (hd : ∀ σ H, Pv xs.length σ H → D.nx σ H) :
    ∃ W : Nat → Nat → L2.St → Hp → Prop, (∃ m, W 0 m σ H) ∧ ∀ i m σ H, W i m σ H →
      ((Ite K a).stop i H ∧ D.nx σ H) ∨ ((Ite K a).go i H ∧ ∃ N : L2.St → Hp → Prop, (∀ σ' H', N σ' H' → ∃ m', m' < m ∧ W (i + 1) m' σ' H') ∧ ∀ v H', (Ite K a).yld i H v H' → g v σ H' fun σ2 H2 => tb { D with nx := N, ct := N, bk := D.nx } σ2 H2) := by
  refine for_it walk_enum Pv h0 (fun i σ H _ p => hq i σ H p) (fun i x σ H H' hi p y => ?_) hd
  obtain ⟨T, x1, y1, rfl, hT, rfl, h1, h2⟩ := y
  cases h1
  exact hs i y1 T σ H h2 hT p
theorem lc_enum (Pv : Nat → Hp → Prop) (h0 : Pv 0 (upd H1 DD (.lst []))) (hq : ∀ i H, i ≤ xs.length → Pv i H → SqL K H a xs)
    (hs : ∀ (i : Nat) (y : V) (T : Addr) (H : Hp), xs[i]? = some y → H T = none → Pv i H → g (.ref T) (wipe σ vs) (upd H T (.tup [.int (i : Nat), y])) fun σ2 H2 => wipe σ2 vs = wipe σ vs ∧ tt σ2 H2 fun b H3 =>
      if b = true then te σ2 H3 fun y H4 => ∃ acc, H4 DD = some (.lst acc) ∧ acc.length < sizeLine ∧ Pv (i + 1) (upd H4 DD (.lst (acc ++ [y]))) else Pv (i + 1) H3) (hd : ∀ H, Pv xs.length H → Qd H) :
    ∃ W : Nat → Nat → Hp → Prop, (∃ m, W 0 m (upd H1 DD (.lst []))) ∧ ∀ i m H, W i m H →
      ((Ite K a).stop i H ∧ Qd H) ∨ ((Ite K a).go i H ∧ ∃ Nx : Hp → Prop, (∀ H', Nx H' → ∃ m', m' < m ∧ W (i + 1) m' H') ∧ ∀ x H', (Ite K a).yld i H x H' → g x (wipe σ vs) H' fun σ2 H2 => wipe σ2 vs = wipe σ vs ∧ tt σ2 H2 fun b H3 =>
        if b = true then te σ2 H3 fun y H4 => ∃ acc, H4 DD = some (.lst acc) ∧ acc.length < sizeLine ∧ Nx (upd H4 DD (.lst (acc ++ [y]))) else Nx H3) := by
  refine lc_it walk_enum Pv h0 hq (fun i x H H' hi p y => ?_) hd
  obtain ⟨T, x1, y1, rfl, hT, rfl, h1, h2⟩ := y
  cases h1
  exact hs i y1 T H h2 hT p
/-- zip of two lists of any lengths -/
theorem for_zipM (n : Nat) (hn : n = min xs.length ys.length) (Pv : Nat → L2.St → Hp → Prop) (h0 : Pv 0 σ H) (hq : ∀ i σ H, Pv i σ H → SqL K H a xs ∧ SqL K H b ys)
    (hs : ∀ (i : Nat) (x y : V) (T : Addr) (σ : L2.St) (H : Hp), xs[i]? = some x → ys[i]? = some y → H T = none → Pv i σ H → g (.ref T) σ (upd H T (.tup [x, y])) fun σ2 H2 => tb { D with nx := Pv (i + 1), ct := Pv (i + 1), bk := D.nx } σ2 H2) (hd : ∀ σ H, Pv n σ H → D.nx σ H) :
    ∃ W : Nat → Nat → L2.St → Hp → Prop, (∃ m, W 0 m σ H) ∧ ∀ i m σ H, W i m σ H →
      ((Itz K a b).stop i H ∧ D.nx σ H) ∨ ((Itz K a b).go i H ∧ ∃ N : L2.St → Hp → Prop, (∀ σ' H', N σ' H' → ∃ m', m' < m ∧ W (i + 1) m' σ' H') ∧ ∀ v H', (Itz K a b).yld i H v H' → g v σ H' fun σ2 H2 => tb { D with nx := N, ct := N, bk := D.nx } σ2 H2) := by
  refine for_it (walk_zip hn) Pv h0 (fun i σ H _ p => hq i σ H p) (fun i x σ H H' hi p y => ?_) hd
  obtain ⟨T, x1, y1, rfl, hT, rfl, h1, h2⟩ := y
  exact hs i x1 y1 T σ H h1 h2 hT p
theorem lc_zipM (n : Nat) (hn : n = min xs.length ys.length) (Pv : Nat → Hp → Prop) (h0 : Pv 0 (upd H1 DD (.lst []))) (hq : ∀ i H, i ≤ n → Pv i H → SqL K H a xs ∧ SqL K H b ys)
    (hs : ∀ (i : Nat) (x y : V) (T : Addr) (H : Hp), xs[i]? = some x → ys[i]? = some y → H T = none → Pv i H → g (.ref T) (wipe σ vs) (upd H T (.tup [x, y])) fun σ2 H2 => wipe σ2 vs = wipe σ vs ∧ tt σ2 H2 fun b H3 =>
      if b = true then te σ2 H3 fun y H4 => ∃ acc, H4 DD = some (.lst acc) ∧ acc.length < sizeLine ∧ Pv (i + 1) (upd H4 DD (.lst (acc ++ [y]))) else Pv (i + 1) H3) (hd : ∀ H, Pv n H → Qd H) :
    ∃ W : Nat → Nat → Hp → Prop, (∃ m, W 0 m (upd H1 DD (.lst []))) ∧ ∀ i m H, W i m H →
      ((Itz K a b).stop i H ∧ Qd H) ∨ ((Itz K a b).go i H ∧ ∃ Nx : Hp → Prop, (∀ H', Nx H' → ∃ m', m' < m ∧ W (i + 1) m' H') ∧ ∀ x H', (Itz K a b).yld i H x H' → g x (wipe σ vs) H' fun σ2 H2 => wipe σ2 vs = wipe σ vs ∧ tt σ2 H2 fun b H3 =>
        if b = true then te σ2 H3 fun y H4 => ∃ acc, H4 DD = some (.lst acc) ∧ acc.length < sizeLine ∧ Nx (upd H4 DD (.lst (acc ++ [y]))) else Nx H3) := by
  refine lc_it (walk_zip hn) Pv h0 hq (fun i x H H' hi p y => ?_) hd
  obtain ⟨T, x1, y1, rfl, hT, rfl, h1, h2⟩ := y
  exact hs i x1 y1 T H h1 h2 hT p
end
theorem zipM_len {α β : Type} {xs : List α} {ys : List β} : min xs.length ys.length = (xs.zip ys).length := by rw [List.length_zip]
theorem zipM_n {α β : Type} {vs ws : List V} {xs : List α} {ys : List β} (a : vs.length = xs.length) (b : ws.length = ys.length) : min xs.length ys.length = min vs.length ws.length := by rw [a, b]
def rListTK (K : PySem.W.Frag) : List V → Hp → VK → Prop := fun xs H Q => ∃ (p : Addr) (vs : List V), xs = [.ref p] ∧ SqT K H p vs ∧ ∀ l, H l = none → Q (.ref l) (upd H l (.lst vs))
theorem call_listTK {X : Cx} {K : PySem.W.Frag} (hK : X.K = K := by rfl) : CallR X (.type "list") (rListTK K) := by
  subst hK
  intro pins s σ H xs us Q I r h
  obtain ⟨p, vs, rfl, hs, q⟩ := h
  exact call_list_of pins s σ H _ us Q I r ⟨p, _, rfl, Or.inr hs, q⟩
/-- two lists that keep step -/
inductive F2 {α β : Type} (P : α → β → Prop) : List α → List β → Prop
  | nil : F2 P [] []
  | cons {a : α} {b : β} {l : List α} {m : List β} (h : P a b) (t : F2 P l m) : F2 P (a :: l) (b :: m)
theorem F2.get {α β : Type} {P : α → β → Prop} : ∀ {l : List α} {m : List β}, F2 P l m → ∀ (j : Nat), j < l.length → ∃ a b, l[j]? = some a ∧ m[j]? = some b ∧ P a b
  | _, _, .nil, j, h => absurd h (Nat.not_lt_zero _)
  | _, _, .cons h t, 0, _ => ⟨_, _, rfl, rfl, h⟩
  | _, _, .cons h t, j + 1, hj => t.get j (Nat.lt_of_succ_lt_succ hj)
theorem F2.at {α β : Type} [Inhabited α] [Inhabited β] {P : α → β → Prop} {l : List α} {m : List β} (h : F2 P l m) (k : Int) (h0 : 0 ≤ k) (h1 : k < l.length) : P (itD l k) (itD m k) := by
  obtain ⟨j, rfl⟩ : ∃ j : Nat, k = (j : Int) := ⟨k.toNat, by omega⟩
  obtain ⟨a, b, ha, hb, p⟩ := h.get j (by omega)
  have e1 : itD l (j : Int) = a := by unfold itD; rw [atI_nat ha]; rfl
  have e2 : itD m (j : Int) = b := by unfold itD; rw [atI_nat hb]; rfl
  rw [e1, e2]
  exact p
theorem SqT.cast {K : PySem.W.Frag} {H : Hp} {a : Addr} {xs ys : List V} (h : SqT K H a xs) (e : xs = ys) : SqT K H a ys := e ▸ h
/-- enumerate(xs) -/
def enumL {α : Type} (xs : List α) : List (Int × α) := (rng 0 xs.length).zip xs
theorem enumL_len {α : Type} (xs : List α) : (enumL xs).length = xs.length := by
  unfold enumL
  rw [List.length_zip, rng_len, Nat.min_self]
theorem enumL_get {α : Type} {xs : List α} {i : Nat} {x : α} (h : xs[i]? = some x) : (enumL xs)[i]? = some ((i : Int), x) := by
  have hl : i < xs.length := (List.getElem?_eq_some_iff.mp h).1
  unfold enumL
  rw [List.getElem?_zip_eq_some]
  refine ⟨?_, h⟩
  have := rng_get (lo := 0) hl
  rw [this]
  congr 1
  omega
end Vx
namespace Vx
open PySem PySem.Spec PyProof.Rows L2
theorem wipe_get : ∀ (σ : L2.St) (vs : List Nat) (j : Nat), (wipe σ vs)[j]? = if j ∈ vs ∧ j < σ.length then some none else σ[j]?
  | σ, [], j => by simp [wipe]
  | σ, v :: vs, j => by
    unfold wipe
    by_cases e : v = j
    · subst e
      by_cases h : v < σ.length
      · rw [List.getElem?_set_self (by rw [wipe_length]; exact h), if_pos ⟨List.mem_cons_self, h⟩]
      · rw [if_neg (fun z => h z.2), List.getElem?_eq_none (by rw [List.length_set, wipe_length]; omega), List.getElem?_eq_none (by omega)]
    · rw [List.getElem?_set_ne e, wipe_get σ vs j]
      have : (j ∈ v :: vs ∧ j < σ.length) ↔ (j ∈ vs ∧ j < σ.length) := by
        constructor
        · rintro ⟨h1, h2⟩
          rcases List.mem_cons.mp h1 with rfl | h1
          · exact absurd rfl e
          · exact ⟨h1, h2⟩
        · rintro ⟨h1, h2⟩
          exact ⟨List.mem_cons_of_mem _ h1, h2⟩
      by_cases q : j ∈ vs ∧ j < σ.length
      · rw [if_pos q, if_pos (this.mpr q)]
      · rw [if_neg q, if_neg (fun z => q (this.mp z))]
theorem wipe_wipe {σ : L2.St} {vs : List Nat} : wipe (wipe σ vs) vs = wipe σ vs := by
  apply List.ext_getElem?
  intro j
  rw [wipe_get (wipe σ vs), wipe_length]
  by_cases q : j ∈ vs ∧ j < σ.length
  · rw [if_pos q, wipe_get, if_pos q]
  · rw [if_neg q]
theorem wipe_set {σ : L2.St} {vs : List Nat} {v : Nat} {x : Option V} (h : v ∈ vs) : wipe (σ.set v x) vs = wipe σ vs := by
  apply List.ext_getElem?
  intro j
  rw [wipe_get, wipe_get, List.length_set]
  by_cases q : j ∈ vs ∧ j < σ.length
  · rw [if_pos q, if_pos q]
  · rw [if_neg q, if_neg q]
    by_cases e : v = j
    · subst e
      have hl : ¬ v < σ.length := fun z => q ⟨h, z⟩
      rw [List.getElem?_eq_none (by rw [List.length_set]; omega), List.getElem?_eq_none (by omega)]
    · rw [List.getElem?_set_ne e]
/-- a comprehension over a step range -/
theorem lc_rangeC {lo c : Int} {n : Nat} {g : TG} {tt : TT} {te : TE} {vs : List Nat} {σ : L2.St} {H1 : Hp} {D : Addr} {Qd : Hp → Prop} (Pv : Nat → Hp → Prop) (h0 : Pv 0 (upd H1 D (.lst [])))
    (hs : ∀ i H, i < n → Pv i H → g (.int (lo + (i : Nat) * c)) (wipe σ vs) H fun σ2 H2 => wipe σ2 vs = wipe σ vs ∧ tt σ2 H2 fun b H3 =>
      if b = true then te σ2 H3 fun y H4 => ∃ acc, H4 D = some (.lst acc) ∧ acc.length < sizeLine ∧ Pv (i + 1) (upd H4 D (.lst (acc ++ [y]))) else Pv (i + 1) H3) (hd : ∀ H, Pv n H → Qd H) :
    ∃ W : Nat → Nat → Hp → Prop, (∃ m, W 0 m (upd H1 D (.lst []))) ∧ ∀ i m H, W i m H →
      ((Itc lo c n).stop i H ∧ Qd H) ∨ ((Itc lo c n).go i H ∧ ∃ Nx : Hp → Prop, (∀ H', Nx H' → ∃ m', m' < m ∧ W (i + 1) m' H') ∧ ∀ x H', (Itc lo c n).yld i H x H' → g x (wipe σ vs) H' fun σ2 H2 => wipe σ2 vs = wipe σ vs ∧ tt σ2 H2 fun b H3 =>
        if b = true then te σ2 H3 fun y H4 => ∃ acc, H4 D = some (.lst acc) ∧ acc.length < sizeLine ∧ Nx (upd H4 D (.lst (acc ++ [y]))) else Nx H3) := by
  refine ⟨fun i m H => m = n - i ∧ i ≤ n ∧ Pv i H, ⟨n, by simp, Nat.zero_le _, h0⟩, ?_⟩
  rintro i m H ⟨rfl, hi, p⟩
  rcases Nat.lt_or_ge i n with hlt | hge
  · refine .inr ⟨hlt, Pv (i + 1), fun H' p' => ⟨n - (i + 1), by omega, rfl, hlt, p'⟩, fun x H' y => ?_⟩
    obtain ⟨e, y⟩ := y
    subst e y
    exact hs i _ hlt p
  · cases Nat.le_antisymm hi hge
    exact .inl ⟨Nat.le_refl _, hd H p⟩

/-! ### reversed(list of ints), any(list of ints) -/
theorem pi_revK {X : Cx} {K : PySem.W.Frag} {tg : Expr} {e : Expr} {ta : TA} {p pos : Pos} (hg : Gl X "reversed") (hm : X.mg "reversed" = none) (ha : PA X [e] ta) (hK : X.K = K := by rfl) (hs : starEach [e] X.env = [(false, eval e X.env)] := by rfl) :
    PI X tg (.Call (.Name "reversed" p) [e] [] pos) (iRev K ta) := hK ▸ pi_reversed hg hm ha hs
theorem for_revI {K : PySem.W.Frag} {a : Addr} {xs : List Int} {g : TG} {tb : TS} {D : Ends} {σ : L2.St} {H : Hp} (Pv : Nat → L2.St → Hp → Prop) (h0 : Pv 0 σ H) (hl : ∀ i σ H, i ≤ (xs.reverse.map V.int).length → Pv i σ H → SqL K H a (xs.map V.int))
    (hs : ∀ i x σ H, (xs.reverse.map V.int)[i]? = some x → Pv i σ H → g x σ H fun σ2 H2 => tb { D with nx := Pv (i + 1), ct := Pv (i + 1), bk := D.nx } σ2 H2) (hd : ∀ σ H, Pv (xs.reverse.map V.int).length σ H → D.nx σ H) :
    ∃ W : Nat → Nat → L2.St → Hp → Prop, (∃ m, W 0 m σ H) ∧ ∀ i m σ H, W i m σ H →
      ((Itv K a (xs.map V.int).length).stop i H ∧ D.nx σ H) ∨ ((Itv K a (xs.map V.int).length).go i H ∧ ∃ N : L2.St → Hp → Prop, (∀ σ' H', N σ' H' → ∃ m', m' < m ∧ W (i + 1) m' σ' H') ∧ ∀ x H', (Itv K a (xs.map V.int).length).yld i H x H' → g x σ H' fun σ2 H2 => tb { D with nx := N, ct := N, bk := D.nx } σ2 H2) := by
  have en : (xs.reverse.map V.int).length = (xs.map V.int).length := by rw [List.length_map, List.length_map, List.length_reverse]
  rw [en] at hl hd
  refine for_it walk_rev Pv h0 hl (fun i x σ H H' hi p y => ?_) hd
  obtain ⟨rfl, hx⟩ := y
  refine hs i x σ _ ?_ p
  rw [List.map_reverse, List.getElem?_reverse hi]
  exact hx
theorem ints_get : ∀ {ns : List Int} {us : List Value} {i : Nat} {v : Value}, IntsAre us ns → us[i]? = some v → ∃ t, v = .int (ns.getD i 0) t := by
  intro ns us i v h
  induction h generalizing i with
  | nil => intro z; simp at z
  | cons n t _ ih =>
    intro z
    cases i with
    | zero => simp at z; exact ⟨t, by rw [← z]; rfl⟩
    | succ i => exact ih (by simpa using z)
theorem any_rangeI : ∀ ns : List Int, (List.range ns.length).any (fun i => ns.getD i 0 != 0) = ns.any (fun x => x != 0)
  | [] => rfl
  | b :: bs => by
    rw [List.length_cons, List.range_succ_eq_map, List.any_cons, List.any_map, List.any_cons, ← any_rangeI bs]
    all_goals rfl
theorem ints_len : ∀ {ns : List Int} {us : List Value}, IntsAre us ns → us.length = ns.length := by
  intro ns us h
  induction h with
  | nil => rfl
  | cons _ _ _ ih => simp [ih]
def rAnyI (K : PySem.W.Frag) : List V → Hp → VK → Prop := fun vs H Q => ∃ (a : Addr) (ns : List Int), vs = [V.ref a] ∧ SqL K H a (ns.map V.int) ∧ Q (.bl (ns.any fun x => x != 0)) H
theorem cr_anyI {X : Cx} (hc : X.calm = true) : CallR X (.builtin "any") (rAnyI X.K) := by
  intro pins s σ H vs us Q I r h
  obtain ⟨a, ns, rfl, hs, q⟩ := h
  obtain ⟨its, rv, hl, _⟩ := I.list hs
  rw [Vals.ref1 r]
  have hb := rv.ints
  refine call_any_walk (iter_any hl.isList fun s₂ e2 st hne => ?_)
  subst e2
  have ht : TruthOf X.prog X.w X.A.in1 (fun i v => its.toArray[i]? = some v) (fun i => ns.getD i 0 != 0) := fun i v s Q E hv hq => by
    obtain ⟨t, rfl⟩ := ints_get hb (by simpa using hv)
    exact PyProof.Rows.truthy_int hq
  refine ⟨_, _, _, _, _, _, _, rfl, Walks.list (A := X.A.in1) (I.ok.hd hc) _ a hne its.toArray, st, ht, fun h' tk hk => ?_⟩
  refine ⟨.bl _, H, I.kept fun b o eo => hk b o (fun hmem => ?_) (Heap.get?_push_of_some _ eo), ?_, q⟩
  · rcases List.mem_cons.mp hmem with e1 | hmem
    · exact absurd (e1 ▸ Heap.lt_size eo) (Nat.lt_irrefl _)
    · cases hmem
  · show Value.bool _ = Value.bool _
    rw [← any_rangeI, List.size_toArray, ints_len hb]
theorem cr_anyIK {X : Cx} {K : PySem.W.Frag} (hc : X.calm = true) (hK : X.K = K := by rfl) : CallR X (.builtin "any") (rAnyI K) := hK ▸ cr_anyI hc
/-- an item of a list of data stored anew -/
theorem RpAll.setM {α : Type} {f : α → PyData} {G : Hp} {vs : List V} {xs : List α} {k : Int} {v : V} {y : α} (d : RpAll G vs (xs.map f)) (r : Rp G v (f y)) : RpAll G (vs.set ((ixN vs.length k).getD 0) v) ((setL xs k y).map f) := by
  have e : vs.length = xs.length := by rw [d.len, List.length_map]
  unfold setL
  rw [List.map_set, e]
  exact RpAll.set r _ d
end Vx
/-! # data of any shape: None beside data, tuples of several shapes -/
namespace Vx
open PySem PySem.Spec PyProof.Rows L2
def encD (d : PyData) : PyData := d
def encN (_ : Unit) : PyData := .none
def encT1 {α : Type} (f : α → PyData) (x : α) : PyData := .tuple [f x]
instance instInhD : Inhabited PyData := ⟨.none⟩
/-- a known shape: what is laid, what is read back, whether the data has the shape -/
structure Cst (α : Type) where
  enc : α → PyData
  dec : PyData → α
  ok : PyData → Bool
  h : ∀ d, ok d = true → enc (dec d) = d
  oke : ∀ x, ok (enc x) = true
  de : ∀ x, dec (enc x) = x
def cI : Cst Int := ⟨PyData.int, fun d => match d with | .int i => i | _ => 0, fun d => match d with | .int _ => true | _ => false, fun d h => (by cases d <;> first | rfl | (cases h)), fun _ => rfl, fun _ => rfl⟩
def cB : Cst Bool := ⟨PyData.bool, fun d => match d with | .bool i => i | _ => false, fun d => match d with | .bool _ => true | _ => false, fun d h => (by cases d <;> first | rfl | (cases h)), fun _ => rfl, fun _ => rfl⟩
def cS : Cst Str := ⟨PyData.str, fun d => match d with | .str i => i | _ => "", fun d => match d with | .str _ => true | _ => false, fun d h => (by cases d <;> first | rfl | (cases h)), fun _ => rfl, fun _ => rfl⟩
def cN : Cst Unit := ⟨encN, fun _ => (), fun d => match d with | .none => true | _ => false, fun d h => (by cases d <;> first | rfl | (cases h)), fun _ => rfl, fun _ => rfl⟩
def cD : Cst PyData := ⟨encD, fun d => d, fun _ => true, fun _ _ => rfl, fun _ => rfl, fun _ => rfl⟩
theorem map_dec {α : Type} (c : Cst α) : ∀ xs : List PyData, xs.all c.ok = true → (xs.map c.dec).map c.enc = xs
  | [], _ => rfl
  | x :: xs, h => by
    rw [List.all_cons, Bool.and_eq_true] at h
    rw [List.map_cons, List.map_cons, c.h x h.1, map_dec c xs h.2]
def cL {α : Type} (c : Cst α) : Cst (List α) where
  enc := encL c.enc
  dec := fun d => match d with | .list xs => xs.map c.dec | _ => []
  ok := fun d => match d with | .list xs => xs.all c.ok | _ => false
  h := fun d h => by
    cases d with
    | list xs => exact congrArg PyData.list (map_dec c xs h)
    | _ => cases h
  oke := fun x => by
    show (x.map c.enc).all c.ok = true
    rw [List.all_map, List.all_eq_true]
    exact fun a _ => c.oke a
  de := fun x => by
    show (x.map c.enc).map c.dec = x
    rw [List.map_map]
    have e : c.dec ∘ c.enc = id := funext c.de
    rw [e, List.map_id]
def cT1 {α : Type} (a : Cst α) : Cst α where
  enc := encT1 a.enc
  dec := fun d => match d with | .tuple [x] => a.dec x | _ => a.dec .none
  ok := fun d => match d with | .tuple [x] => a.ok x | _ => false
  h := fun d h => by
    split at h
    · next x => exact congrArg (fun z => PyData.tuple [z]) (a.h x h)
    · cases h
  oke := fun x => a.oke x
  de := fun x => a.de x
def cT2 {α β : Type} (a : Cst α) (b : Cst β) : Cst (α × β) where
  enc := encT2 a.enc b.enc
  dec := fun d => match d with | .tuple [x, y] => (a.dec x, b.dec y) | _ => (a.dec .none, b.dec .none)
  ok := fun d => match d with | .tuple [x, y] => a.ok x && b.ok y | _ => false
  h := fun d h => by
    split at h
    · next x y =>
      rw [Bool.and_eq_true] at h
      show PyData.tuple [a.enc (a.dec x), b.enc (b.dec y)] = _
      rw [a.h x h.1, b.h y h.2]
    · cases h
  oke := fun x => by show (a.ok (a.enc x.1) && b.ok (b.enc x.2)) = true; rw [a.oke, b.oke]; rfl
  de := fun x => by show (a.dec (a.enc x.1), b.dec (b.enc x.2)) = x; rw [a.de, b.de]
def cT3 {α β γ : Type} (a : Cst α) (b : Cst β) (c : Cst γ) : Cst (α × β × γ) where
  enc := encT3 a.enc b.enc c.enc
  dec := fun d => match d with | .tuple [x, y, z] => (a.dec x, b.dec y, c.dec z) | _ => (a.dec .none, b.dec .none, c.dec .none)
  ok := fun d => match d with | .tuple [x, y, z] => a.ok x && b.ok y && c.ok z | _ => false
  h := fun d h => by
    split at h
    · next x y z =>
      simp only [Bool.and_eq_true] at h
      show PyData.tuple [a.enc (a.dec x), b.enc (b.dec y), c.enc (c.dec z)] = _
      rw [a.h x h.1.1, b.h y h.1.2, c.h z h.2]
    · cases h
  oke := fun x => by show (a.ok (a.enc x.1) && b.ok (b.enc x.2.1) && c.ok (c.enc x.2.2)) = true; rw [a.oke, b.oke, c.oke]; rfl
  de := fun x => by show (a.dec (a.enc x.1), b.dec (b.enc x.2.1), c.dec (c.enc x.2.2)) = x; rw [a.de, b.de, c.de]
def cT4 {α β γ δ : Type} (a : Cst α) (b : Cst β) (c : Cst γ) (e : Cst δ) : Cst (α × β × γ × δ) where
  enc := encT4 a.enc b.enc c.enc e.enc
  dec := fun d => match d with | .tuple [x, y, z, w] => (a.dec x, b.dec y, c.dec z, e.dec w) | _ => (a.dec .none, b.dec .none, c.dec .none, e.dec .none)
  ok := fun d => match d with | .tuple [x, y, z, w] => a.ok x && b.ok y && c.ok z && e.ok w | _ => false
  h := fun d h => by
    split at h
    · next x y z w =>
      simp only [Bool.and_eq_true] at h
      show PyData.tuple [a.enc (a.dec x), b.enc (b.dec y), c.enc (c.dec z), e.enc (e.dec w)] = _
      rw [a.h x h.1.1.1, b.h y h.1.1.2, c.h z h.1.2, e.h w h.2]
    · cases h
  oke := fun x => by show (a.ok (a.enc x.1) && b.ok (b.enc x.2.1) && c.ok (c.enc x.2.2.1) && e.ok (e.enc x.2.2.2)) = true; rw [a.oke, b.oke, c.oke, e.oke]; rfl
  de := fun x => by show (a.dec (a.enc x.1), b.dec (b.enc x.2.1), c.dec (c.enc x.2.2.1), e.dec (e.enc x.2.2.2)) = x; rw [a.de, b.de, c.de, e.de]
section
variable {H : Hp} {v : V} {d : PyData}
theorem rp_dcast {α : Type} (c : Cst α) (g : c.ok d = true) (r : Rp H v d) : Rp H v (c.enc (c.dec d)) := by rw [c.h d g]; exact r
def dNone : PyData → Bool
  | .none => true
  | _ => false
def dSeq : PyData → Bool
  | .list _ => true
  | .tuple _ => true
  | _ => false
def dTup : PyData → Bool
  | .tuple _ => true
  | _ => false
def dLst : PyData → Bool
  | .list _ => true
  | _ => false
def dInt : PyData → Bool
  | .int _ => true
  | .bool _ => true
  | _ => false
def dBool : PyData → Bool
  | .bool _ => true
  | _ => false
def dGet : PyData → Nat → PyData
  | .tuple xs, k => xs.getD k .none
  | .list xs, k => xs.getD k .none
  | _, _ => .none
def dHasT : PyData → Nat → Bool
  | .tuple xs, k => decide (k < xs.length)
  | _, _ => false
theorem rp_ref (g : dSeq d = true) (r : Rp H v d) : ∃ a, v = .ref a := by
  cases r <;> first | exact ⟨_, rfl⟩ | cases g
theorem rp_dget {k : Nat} (g : dHasT d k = true) (r : Rp H v d) : ∃ a vs u, v = .ref a ∧ H a = some (.tup vs) ∧ atI vs (k : Int) = some u ∧ Rp H u (dGet d k) := by
  cases r with
  | tup h rs =>
    rename_i ds
    have hk : k < ds.length := of_decide_eq_true g
    obtain ⟨u, h1, h2⟩ := RpAll.at' (i := k) (d := ds[k]) rs (List.getElem?_eq_getElem hk)
    refine ⟨_, _, u, rfl, h, ?_, ?_⟩
    · exact atI_nat h1
    · show Rp H u (ds.getD k .none)
      rw [List.getD_eq_getElem?_getD, List.getElem?_eq_getElem hk]
      exact h2
  | _ => cases g
theorem rp_non {x : Unit} (r : Rp H v (encN x)) : v = .non := by unfold encN at r; cases r; rfl
theorem rp_tup1 {α : Type} {f : α → PyData} {x : α} (r : Rp H v (encT1 f x)) : ∃ a v1, v = .ref a ∧ H a = some (.tup [v1]) ∧ Rp H v1 (f x) := by
  unfold encT1 at r
  cases r with
  | tup h1 h2 =>
    cases h2 with
    | cons r1 t => cases t; exact ⟨_, _, rfl, h1, r1⟩
theorem rp_mk1 {α : Type} {f : α → PyData} {a : Addr} {v1 : V} {x : α} (h1 : H a = some (.tup [v1])) (r1 : Rp H v1 (f x)) : Rp H (.ref a) (encT1 f x) := .tup h1 (.cons r1 .nil)
theorem rp_none_iff (r : Rp H v d) : decide (v = V.non) = dNone d := by
  cases r <;> simp [dNone]
end
section
variable {X : Cx}
def rIsND : R2 := fun x y H Q => ∃ d, y = .non ∧ Rp H x d ∧ Q (.bl (dNone d)) H
def rNotND : R2 := fun x y H Q => ∃ d, y = .non ∧ Rp H x d ∧ Q (.bl (!dNone d)) H
theorem op_isND : OpR X (compareOp .Is) rIsND := by
  intro pins s σ H x y v u Q I rx ry h
  obtain ⟨d, e, r, q⟩ := h
  exact op_isN pins s σ H x y v u Q I rx ry ⟨e, by rw [rp_none_iff r]; exact q⟩
theorem op_notND : OpR X (compareOp .IsNot) rNotND := by
  intro pins s σ H x y v u Q I rx ry h
  obtain ⟨d, e, r, q⟩ := h
  exact op_notN pins s σ H x y v u Q I rx ry ⟨e, by rw [rp_none_iff r]; exact q⟩
def rEqD : R2 := fun x y H Q => ∃ a b : PyData, Rp H x a ∧ Rp H y b ∧ (SeqAt.shaped a = true ∧ SeqAt.shaped b = true) ∧ Q (.bl (PyData.eqv a b)) H
def rNeD : R2 := fun x y H Q => ∃ a b : PyData, Rp H x a ∧ Rp H y b ∧ (SeqAt.shaped a = true ∧ SeqAt.shaped b = true) ∧ Q (.bl (!PyData.eqv a b)) H
theorem op_eqDD (hu : X.A.units + 64 < cLine) : OpR X (compareOp .Eq) rEqD := by
  intro pins s σ H x y v u Q I rx ry h
  obtain ⟨a, b, h1, h2, ⟨s1, s2⟩, q⟩ := h
  exact op_eqD hu pins s σ H _ _ v u Q I rx ry ⟨_, _, h1.dp, h2.dp, s1, s2, q⟩
theorem op_neDD (hu : X.A.units + 64 < cLine) : OpR X (compareOp .NotEq) rNeD := by
  intro pins s σ H x y v u Q I rx ry h
  obtain ⟨a, b, h1, h2, ⟨s1, s2⟩, q⟩ := h
  exact op_neD hu pins s σ H _ _ v u Q I rx ry ⟨_, _, h1.dp, h2.dp, s1, s2, q⟩
def dTy : PyData → String
  | .none => "NoneType"
  | .bool _ => "bool"
  | .int _ => "int"
  | .str _ => "str"
  | .list _ => "list"
  | .tuple _ => "tuple"
  | .dict _ => "dict"
theorem Rp.tyX {K : PySem.W.Frag} {H : Hp} {v : V} {d : PyData} (r : Rp H v d) : TyX K H v (.type (dTy d)) := by
  cases r with
  | non => exact .base .non
  | bl b => exact .base (.bl b)
  | int i => exact .base (.int i)
  | str x => exact .base (.str x)
  | lst h _ => exact .base (.lst h)
  | tup h _ => exact .base (.tup h)
def rIsiD (T : String) (f : PyData → Bool) : List V → Hp → VK → Prop := fun xs H Q => ∃ (x : V) (d : PyData), xs = [x, .ty T] ∧ Rp H x d ∧ Q (.bl (f d)) H
theorem call_isiD {T : String} {f : PyData → Bool} (hT : ∀ d, kitB (dTy d) T = some (f d)) : CallR X (.builtin "isinstance") (rIsiD T f) := by
  intro pins s σ H xs us Q I r h
  obtain ⟨x, d, rfl, rx, q⟩ := h
  exact call_isi pins s σ H _ us Q I r ⟨x, .ty T, _, _, _, rfl, .ty T, rx.tyX, kit_ty (hT d), q⟩
theorem kit_dTup (d : PyData) : kitB (dTy d) "tuple" = some (dTup d) := by
  cases d with
  | none => exact (by decide +kernel : kitB "NoneType" "tuple" = some false)
  | bool _ => exact (by decide +kernel : kitB "bool" "tuple" = some false)
  | int _ => exact (by decide +kernel : kitB "int" "tuple" = some false)
  | str _ => exact (by decide +kernel : kitB "str" "tuple" = some false)
  | list _ => exact (by decide +kernel : kitB "list" "tuple" = some false)
  | tuple _ => exact (by decide +kernel : kitB "tuple" "tuple" = some true)
  | dict _ => exact (by decide +kernel : kitB "dict" "tuple" = some false)
theorem kit_dLst (d : PyData) : kitB (dTy d) "list" = some (dLst d) := by
  cases d with
  | none => exact (by decide +kernel : kitB "NoneType" "list" = some false)
  | bool _ => exact (by decide +kernel : kitB "bool" "list" = some false)
  | int _ => exact (by decide +kernel : kitB "int" "list" = some false)
  | str _ => exact (by decide +kernel : kitB "str" "list" = some false)
  | list _ => exact (by decide +kernel : kitB "list" "list" = some true)
  | tuple _ => exact (by decide +kernel : kitB "tuple" "list" = some false)
  | dict _ => exact (by decide +kernel : kitB "dict" "list" = some false)
theorem kit_dInt (d : PyData) : kitB (dTy d) "int" = some (dInt d) := by
  cases d with
  | none => exact (by decide +kernel : kitB "NoneType" "int" = some false)
  | bool _ => exact (by decide +kernel : kitB "bool" "int" = some true)
  | int _ => exact (by decide +kernel : kitB "int" "int" = some true)
  | str _ => exact (by decide +kernel : kitB "str" "int" = some false)
  | list _ => exact (by decide +kernel : kitB "list" "int" = some false)
  | tuple _ => exact (by decide +kernel : kitB "tuple" "int" = some false)
  | dict _ => exact (by decide +kernel : kitB "dict" "int" = some false)
theorem kit_dBool (d : PyData) : kitB (dTy d) "bool" = some (dBool d) := by
  cases d with
  | none => exact (by decide +kernel : kitB "NoneType" "bool" = some false)
  | bool _ => exact (by decide +kernel : kitB "bool" "bool" = some true)
  | int _ => exact (by decide +kernel : kitB "int" "bool" = some false)
  | str _ => exact (by decide +kernel : kitB "str" "bool" = some false)
  | list _ => exact (by decide +kernel : kitB "list" "bool" = some false)
  | tuple _ => exact (by decide +kernel : kitB "tuple" "bool" = some false)
  | dict _ => exact (by decide +kernel : kitB "dict" "bool" = some false)
end
/-! ### written dicts of numbers with text keys -/
inductive ES (P : Params) : List (Str × Int) → List DictEntry → Prop
  | nil : ES P [] []
  | cons {h k v} {t u : Tok} {r : List (Str × Int)} {es : List DictEntry} (e : h = PyData.keyHash P k) (x : ES P r es) : ES P ((k, v) :: r) (⟨h, .str k t, .int v u⟩ :: es)
def lookS : List (Str × Int) → Str → Option Int
  | [], _ => none
  | (k, v) :: r, i => if k = i then some v else lookS r i
def KDS (K : PySem.W.Frag) (w : World) (a : Addr) (kvs : List (Str × Int)) : Prop :=
  ∃ es n, K.lookup a = some ⟨.type "dict", none, .dict es n, #[]⟩ ∧ ES w.params kvs es.toList
theorem ES.lit {P : Params} : ∀ {kvs : List (Str × Int)} {es : List DictEntry}, ES P kvs es → PySem.W.KeysLit P es
  | _, _, .nil => trivial
  | _, _, .cons e x => ⟨⟨_, _, rfl, e⟩, ES.lit x⟩
theorem ES.find {P : Params} {i : Str} {v : Int} : ∀ {kvs : List (Str × Int)} {es : List DictEntry}, ES P kvs es → lookS kvs i = some v → ∃ e u, es.find? (fun e => e.key.isStr i) = some e ∧ e.val = .int v u
  | _, _, .nil, h => by cases h
  | _, _, .cons (k := k) (u := u) e x, h => by
    unfold lookS at h
    by_cases q : k = i
    · rw [if_pos q] at h
      subst q
      cases h
      refine ⟨_, u, List.find?_cons_of_pos ?_, rfl⟩
      simp [Value.isStr]
    · rw [if_neg q] at h
      obtain ⟨e', u', h1, h2⟩ := ES.find x h
      refine ⟨e', u', ?_, h2⟩
      rw [List.find?_cons_of_neg]
      · exact h1
      · simp [Value.isStr, q]
theorem KDS.at {K : PySem.W.Frag} {w : World} {a : Addr} {kvs : List (Str × Int)} {z : Str} {v : Int} (D : KDS K w a kvs) (h : lookS kvs z = some v) : KDct K w a z (.int v) := by
  obtain ⟨es, n, hl, x⟩ := D
  obtain ⟨e, u, h1, h2⟩ := x.find h
  refine ⟨es, n, .int v u, hl, x.lit, ?_, ⟨u, rfl⟩⟩
  unfold PySem.W.nsIn
  rw [hl]
  show (match es.toList.find? (fun e => e.key.isStr z) with
      | some e => some (some e.val)
      | none => if es.toList.any (·.refKey) then none else some none) = _
  rw [h1]
  show some (some e.val) = _
  rw [h2]
def rIxDS (K : PySem.W.Frag) (w : World) : R2 := fun x y H Q => ∃ (p : Addr) (z : Str) (kvs : List (Str × Int)) (v : Int), x = .ref p ∧ y = .str z ∧ KDS K w p kvs ∧ lookS kvs z = some v ∧ Q (.int v) H
theorem ix_DS {X : Cx} {K : PySem.W.Frag} {w : World} (hK : X.K = K := by rfl) (hw : X.w = w := by rfl) : IxR X (rIxDS K w) := by
  subst hK hw
  intro value slice pins s σ H x y v u Q I rx ry h hs
  obtain ⟨p, z, kvs, r, e1, e2, D, e, q⟩ := h
  exact ix_kdict value slice pins s σ H x y v u Q I rx ry ⟨p, z, .int r, e1, e2, D.at e, q⟩ hs
def dictS (kvs : List (Str × Int)) (i : Str) : Int := (lookS kvs i).getD 0
def hasS (kvs : List (Str × Int)) (i : Str) : Bool := (lookS kvs i).isSome
theorem lookS_at {kvs : List (Str × Int)} {i : Str} (h : hasS kvs i = true) : lookS kvs i = some (dictS kvs i) := by
  unfold hasS at h
  unfold dictS
  cases e : lookS kvs i with
  | none => rw [e] at h; cases h
  | some v => rfl
/-! ### for the mathematics -/
theorem eqv_enc {α : Type} [DecidableEq α] {n : Nat} {f : α → PyData} (ok : EncOk n f) (x y : α) : PyData.eqv (f x) (f y) = decide (x = y) := ok.eqv x y
end Vx
namespace Vx
open PySem PySem.Spec PyProof.Rows L2
theorem sm_str {x : Str} (h : (reprText x).length ≤ 20) : Sm 1 0 (.str x) := ⟨by simp only [smallD, decide_eq_true_eq]; exact h, by simp [nodes], by simp [PyData.depth]⟩
theorem sm_none : Sm 1 0 (encN ()) := sm_non
theorem sm_T1 {α : Type} {f : α → PyData} {n k : Nat} {p : α} (h1 : Sm n k (f p)) : Sm (1 + n) (k + 1) (encT1 f p) := by
  obtain ⟨a1, a2, a3⟩ := h1
  refine ⟨by simp [encT1, smallD, smallAll, a1], ?_, ?_⟩
  · simp only [encT1, nodes, nodesAll]
    omega
  · simp only [encT1, PyData.depth, PyData.depthAll]
    omega
theorem sm_T4 {α β γ δ : Type} {f : α → PyData} {g : β → PyData} {h : γ → PyData} {e : δ → PyData} {n k m j l i o q : Nat} {p : α × β × γ × δ} (h1 : Sm n k (f p.1)) (h2 : Sm m j (g p.2.1)) (h3 : Sm l i (h p.2.2.1)) (h4 : Sm o q (e p.2.2.2)) : Sm (1 + n + m + l + o) (max k (max j (max i q)) + 1) (encT4 f g h e p) := by
  obtain ⟨a1, a2, a3⟩ := h1
  obtain ⟨b1, b2, b3⟩ := h2
  obtain ⟨c1, c2, c3⟩ := h3
  obtain ⟨d1, d2, d3⟩ := h4
  refine ⟨by simp [encT4, smallD, smallAll, a1, b1, c1, d1], ?_, ?_⟩
  · simp only [encT4, nodes, nodesAll]
    omega
  · simp only [encT4, PyData.depth, PyData.depthAll]
    omega
theorem Sm.enc {n k : Nat} {d : PyData} (h : Sm n k d) : Sm n k (encD d) := h
end Vx
namespace Vx
theorem len8 {α : Type} {l : List α} (h : l.length = 8) : ∃ x0 x1 x2 x3 x4 x5 x6 x7, l = [x0, x1, x2, x3, x4, x5, x6, x7] := by
  obtain ⟨x0, r, rfl, h2⟩ := len_s h
  obtain ⟨x1, x2, x3, x4, x5, x6, x7, rfl⟩ := len7 h2
  exact ⟨x0, x1, x2, x3, x4, x5, x6, x7, rfl⟩
theorem len9 {α : Type} {l : List α} (h : l.length = 9) : ∃ x0 x1 x2 x3 x4 x5 x6 x7 x8, l = [x0, x1, x2, x3, x4, x5, x6, x7, x8] := by
  obtain ⟨x0, r, rfl, h2⟩ := len_s h
  obtain ⟨x1, x2, x3, x4, x5, x6, x7, x8, rfl⟩ := len8 h2
  exact ⟨x0, x1, x2, x3, x4, x5, x6, x7, x8, rfl⟩
theorem len10 {α : Type} {l : List α} (h : l.length = 10) : ∃ x0 x1 x2 x3 x4 x5 x6 x7 x8 x9, l = [x0, x1, x2, x3, x4, x5, x6, x7, x8, x9] := by
  obtain ⟨x0, r, rfl, h2⟩ := len_s h
  obtain ⟨x1, x2, x3, x4, x5, x6, x7, x8, x9, rfl⟩ := len9 h2
  exact ⟨x0, x1, x2, x3, x4, x5, x6, x7, x8, x9, rfl⟩
theorem len11 {α : Type} {l : List α} (h : l.length = 11) : ∃ x0 x1 x2 x3 x4 x5 x6 x7 x8 x9 x10, l = [x0, x1, x2, x3, x4, x5, x6, x7, x8, x9, x10] := by
  obtain ⟨x0, r, rfl, h2⟩ := len_s h
  obtain ⟨x1, x2, x3, x4, x5, x6, x7, x8, x9, x10, rfl⟩ := len10 h2
  exact ⟨x0, x1, x2, x3, x4, x5, x6, x7, x8, x9, x10, rfl⟩
theorem len12 {α : Type} {l : List α} (h : l.length = 12) : ∃ x0 x1 x2 x3 x4 x5 x6 x7 x8 x9 x10 x11, l = [x0, x1, x2, x3, x4, x5, x6, x7, x8, x9, x10, x11] := by
  obtain ⟨x0, r, rfl, h2⟩ := len_s h
  obtain ⟨x1, x2, x3, x4, x5, x6, x7, x8, x9, x10, x11, rfl⟩ := len11 h2
  exact ⟨x0, x1, x2, x3, x4, x5, x6, x7, x8, x9, x10, x11, rfl⟩
end Vx
namespace Vx
open PySem PySem.Spec PyProof.Rows L2
theorem Sep.mutnews {M : List Addr} {H0 G0 G H H' : Hp} {O : List Addr} (S : Sep M H0 G0 G H O) {L : List Addr} (x : SameXs L H H') (hL : ∀ a ∈ L, a ∈ O) (hs : ∀ a ∈ L, H' a ≠ none) (N : List Addr) (hN : ∀ a ∈ N, H a = none ∧ H' a ≠ none ∧ H0 a = none) : Sep M H0 G0 G H' (N ++ O) := by
  have S1 := S.mut x hL hs
  refine ⟨S1.base, S1.pm, S1.sG, S1.g0, S1.gn, fun a ha => ?_⟩
  rcases List.mem_append.mp ha with z | z
  · obtain ⟨h1, h2, h3⟩ := hN a z
    exact ⟨S.gfree h1, h2, .inr h3⟩
  · exact S1.ow a z
end Vx
/-! # sorted(set(xs)), xs a list of numbers -/
namespace Vs
open PySem PySem.Spec PyProof.Rows L2
section
variable {prog : Program} {wo : World} {Ar : Around} {Er : Value → Shared → Prop} {st : Shared}
/-- the object that set.__new__ lays -/
abbrev bare (wo : World) : Obj := { cls := .type "set", dict := none, data := .set #[] 0 (.fresh 0 0 (!wo.params.followText "set-order")) }
theorem get_bare (h : Heap) : (h.push (bare wo)).get? h.objs.size = some (bare wo) := Heap.get?_push_size _ rfl
/-- set.__init__ of a new, empty set over a list of numbers -/
theorem init_list {lst : Addr} {arr : Array Value} {ks : List Int} (calm : Ar.handled = none) (isl : st.heap.IsList lst arr) (hin : IntsAre arr.toList ks) (few : ks.length + 1 < scanBound)
    (R : Result → Shared → Prop)
    (fin : ∀ (g : Heap) (tk c : Nat), SetR wo g st.heap.objs.size (fun j => decide (j ∈ ks)) c → c ≤ ks.length → (∀ b o, st.heap.get? b = some o → g.get? b = some o) → R (.ok (.ret .none)) { st with heap := g, toks := tk }) :
    codeAny (model prog wo) Ar (.call (.builtin "set.__init__") ⟨[.ref st.heap.objs.size, .ref lst], []⟩) R { st with heap := st.heap.push (bare wo) } := by
  have typ : Shared.TypeIs { st with heap := st.heap.push (bare wo) } (.ref st.heap.objs.size) "set" := ⟨_, get_bare _, rfl⟩
  have len : arr.size = ks.length := by
    have z := hin.length
    rwa [Array.length_toList] at z
  refine codeAny_call_builtin F.called_set.init.plain F.entry_set_init (check_set_init_1 typ ?_)
  obtain ⟨⟨k1, k2, k3, k4⟩, ho, e1, m, e2⟩ := isl
  simp only at e1 e2
  subst e1 e2
  have below : lst < st.heap.objs.size := Heap.lt_size ho
  have il : (st.heap.push (bare wo)).IsList lst arr := ⟨_, Heap.get?_push_of_some _ ho, rfl, m, rfl⟩
  have a1 := F.sub_list_set
  have a2 := F.sub_list_frozenset
  have a3 : (Value.type "list" == Value.type "dict") = false := by decide
  have a4 := Heap.get?_push_of_some (bare wo) ho
  unfold Builtin.«set.__init__» noKeywords Builtin.Frozenset.updateFrom
  generalize hw : pyIter = WK
  wp_walk
  subst hw
  refine wpAny_pyIter_list il (wpAny_bind (wpAny_runValue ?_))
  have sz : (st.heap.push (bare wo)).objs.size = st.heap.objs.size + 1 := Heap.size_push ..
  have c3 : Ar.in1.in1.handled = none := by simp [calm]
  have far : lst ≠ (st.heap.push (bare wo)).objs.size := by rw [sz]; exact Nat.ne_of_lt (Nat.lt_succ_of_lt below)
  have out : st.heap.objs.size ∉ [(st.heap.push (bare wo)).objs.size, lst] := by
    intro z
    rcases List.mem_cons.mp z with z | z
    · rw [sz] at z; exact absurd z (Nat.ne_of_lt (Nat.lt_succ_self _))
    · exact absurd (List.mem_singleton.mp z) (Nat.ne_of_gt below)
  refine set_update_ints ((Walks.list c3 _ lst far arr).toS) st.heap.objs.size out ks len few (fun i v hv => ?_) (arr.size - 0) 0 _ (by omega) (Nat.zero_le _) ?_ ?_ ?_
  · have hi : i < ks.length := by rw [← len]; exact (Array.getElem?_eq_some_iff.mp hv).1
    obtain ⟨t, e⟩ := PyProof.Rows.IntsAre.int_at hin i v (by rw [Array.getElem?_toList]; exact hv)
    refine ⟨ks[i], t, List.getElem?_eq_getElem hi, ?_⟩
    rw [e, List.getD_eq_getElem?_getD, List.getElem?_eq_getElem hi] <;> rfl
  · exact ⟨⟨_, Heap.get?_push_size _ rfl, rfl, rfl⟩, il.push _⟩
  · exact ⟨0, Nat.le_refl 0, setR_new_at (Heap.get?_push_of_some _ (get_bare _))⟩
  · rintro ⟨g, q1, q2, q3, q4⟩ c mv hc hs
    have b1 : q1 = st.gens := mv.gens
    have b2 : q2 = st.drawn := mv.drawn
    have b3 : q4 = st.os := mv.os
    subst b1 b2 b3
    refine wpAny_pure ?_
    refine wpAny_pure ?_
    rw [len] at hc
    refine fin g q3 c hs hc fun b o e => ?_
    have hb : b < st.heap.objs.size := Heap.lt_size e
    refine mv.heap b o (fun z => ?_) (Heap.get?_push_of_some _ (Heap.get?_push_of_some _ e))
    rcases List.mem_cons.mp z with z | z
    · exact absurd z (Nat.ne_of_lt hb)
    · have z := List.mem_singleton.mp z
      rw [sz] at z
      exact absurd z (Nat.ne_of_lt (Nat.lt_succ_of_lt hb))
end
end Vs
namespace Vs
open PySem PySem.Spec PyProof.Rows L2
section
variable {prog : Program} {wo : World} {Ar : Around} {Er : Value → Shared → Prop} {st : Shared}
/-- set(xs): a new set of the numbers of a list -/
theorem make_list {lst : Addr} {arr : Array Value} {ks : List Int} {Q : Value → Shared → Prop} (calm : Ar.handled = none) (isl : st.heap.IsList lst arr) (hin : IntsAre arr.toList ks) (few : ks.length + 1 < scanBound)
    (fin : ∀ (g : Heap) (tk c : Nat), SetR wo g st.heap.objs.size (fun j => decide (j ∈ ks)) c → c ≤ ks.length → (∀ b o, st.heap.get? b = some o → g.get? b = some o) → Q (.ref st.heap.objs.size) { st with heap := g, toks := tk }) :
    wpAny (model prog wo) Ar (call (.type "set") [.ref lst]) Q Er st := by
  obtain ⟨cc, tl, hmro⟩ := F.called_set.mro
  have m1 := F.called_set.made
  have m2 := F.called_set.sub
  have m3 := F.called_set.notType
  have m4 := F.called_set.canCreate
  have m5 := F.typeCall_set_1 (.ref lst)
  refine wpAny_call (codeAny_of_tree ?_)
  show wpAny _ _ (callAny (.type "set") _) _ _ _
  refine wpAny_pure ⟨Code.quiet_builtin _ (by decide +kernel), codeAny_builtin F.entry_type_call ?_⟩
  rw [Around.under_plain (weight_type_call_type "set" [.ref lst] []) rfl]
  repeat (any_goals (first | assumption | wp_step))
  refine codeAny_mono (code_set_led1 (.ref lst) (E := Er) (Q₁ := fun obj z => obj = .ref st.heap.objs.size ∧ z = { st with heap := st.heap.push (bare wo) }) ⟨rfl, rfl⟩) fun r z hr => ?_
  match r, hr with
  | .error e, hr => exact hr
  | .ok (.ret obj), hr =>
    obtain ⟨rfl, rfl⟩ := hr
    have m6 := F.called_set.init.lookup
    have m7 := F.called_set.init.bind (.ref st.heap.objs.size)
    have typ : Shared.TypeIs { st with heap := st.heap.push (bare wo) } (.ref st.heap.objs.size) "set" := ⟨_, get_bare _, rfl⟩
    repeat (any_goals (first | assumption | wp_step))
    refine codeAny_mono (init_list (R := wants (fun r z => r = .none ∧ ∃ g tk c, z = { st with heap := g, toks := tk } ∧ SetR wo g st.heap.objs.size (fun j => decide (j ∈ ks)) c ∧ c ≤ ks.length ∧ ∀ b o, st.heap.get? b = some o → g.get? b = some o) Er)
      (by simp [calm]) isl hin few fun g tk c a b k => ⟨rfl, g, tk, c, rfl, a, b, k⟩) fun r z hr => ?_
    match r, hr with
    | .error e, hr => exact hr
    | .ok (.ret v), hr =>
      obtain ⟨rfl, g, tk, c, rfl, a, b, k⟩ := hr
      repeat (any_goals (first | assumption | wp_step))
      exact fin _ _ _ a b k
end
section
variable {X : Cx}
/-- set(xs) -/
def rSetI (w : World) : List V → Hp → VK → Prop := fun xs H Q => ∃ (l : Addr) (ks : List Int), xs = [V.ref l] ∧ (∃ K, SqL K H l (ks.map V.int)) ∧ ks.length ≤ 50 ∧
  ∀ (p : Addr) (n : Nat), n ≤ ks.length → H p = none → Q (.ref p) (upd H p (SetO w p (fun j => decide (j ∈ ks)) n))
end
end Vs
namespace Vx
open PySem PySem.Spec PyProof.Rows L2
section
variable {X : Cx}
def rSetI (K : PySem.W.Frag) (w : World) : List V → Hp → VK → Prop := fun xs H Q => ∃ (l : Addr) (ks : List Int), xs = [V.ref l] ∧ SqL K H l (ks.map V.int) ∧ ks.length ≤ 50 ∧
  ∀ (p : Addr) (n : Nat), n ≤ ks.length → H p = none → Q (.ref p) (upd H p (SetO w p (fun j => decide (j ∈ ks)) n))
theorem cr_setI {K : PySem.W.Frag} {w : World} (hc : X.calm = true) (hK : X.K = K := by rfl) (hw : X.w = w := by rfl) : CallR X (.type "set") (rSetI K w) := by
  subst hK hw
  intro pins s σ H xs us Q I r h
  obtain ⟨l, ks, rfl, hl, hf, q⟩ := h
  rw [Vals.ref1 r]
  obtain ⟨its, rv, pl, hz⟩ := I.list hl
  have hb : scanBound = 4096 := rfl
  refine Vs.make_list (I.ok.hd hc) pl.isList (by simpa using ints_of_vals rv) (by omega) fun g tk c R hcn k => ?_
  exact ⟨.ref _, upd H _ (SetO X.w _ (fun j => decide (j ∈ ks)) c), I.laid (t' := tk) k (Nat.le_refl _) (setO_new R), rfl, q _ c hcn (I.hok.fresh (Nat.le_refl _))⟩
def rSortSet (w : World) : List V → Hp → VK → Prop := fun vs H Q => ∃ (a : Addr) (ks : List Int) (n : Nat), vs = [V.ref a] ∧ H a = some (SetO w a (fun j => decide (j ∈ ks)) n) ∧ n ≤ 50 ∧
  ∀ (ns : List Int) (p : Addr), ns.Pairwise (· < ·) → (∀ k : Int, k ∈ ns ↔ k ∈ ks) → H p = none → Q (.ref p) (upd H p (.lst (ns.map V.int)))
theorem cr_sortSet {w : World} (hc : X.calm = true) (hw : X.w = w := by rfl) : CallR X (.builtin "sorted") (rSortSet w) := by
  subst hw
  intro pins s σ H vs us Q I r h
  obtain ⟨a, ks, n, rfl, ha, h64, q⟩ := h
  exact cr_sortedSet hc pins s σ H _ us Q I r ⟨a, _, n, rfl, ha, by omega, fun ns p pw hm hl hn => q ns p pw (fun k => (hm k).trans decide_eq_true_iff) hn⟩
end
/-! ### numbers in order, each once -/
def insS (x : Int) : List Int → List Int
  | [] => [x]
  | y :: r => if x < y then x :: y :: r else if x = y then y :: r else y :: insS x r
def sortSet (xs : List Int) : List Int := xs.foldr insS []
theorem insS_mem {x k : Int} : ∀ {l : List Int}, k ∈ insS x l ↔ k = x ∨ k ∈ l
  | [] => by simp [insS]
  | y :: r => by
    unfold insS
    split
    · simp
    · split
      · next h => subst h; simp
      · rw [List.mem_cons, insS_mem (l := r), List.mem_cons]
        constructor <;> (intro h; rcases h with h | h | h <;> simp [h])
theorem insS_pw {x : Int} : ∀ {l : List Int}, l.Pairwise (· < ·) → (insS x l).Pairwise (· < ·)
  | [], _ => by simp [insS]
  | y :: r, h => by
    have hy := List.pairwise_cons.mp h
    unfold insS
    split
    · next c =>
      refine List.pairwise_cons.mpr ⟨fun z hz => ?_, h⟩
      rcases List.mem_cons.mp hz with rfl | hz
      · exact c
      · exact Int.lt_trans c (hy.1 z hz)
    · next c =>
      split
      · exact h
      · refine List.pairwise_cons.mpr ⟨fun z hz => ?_, insS_pw hy.2⟩
        rcases insS_mem.mp hz with rfl | hz
        · omega
        · exact hy.1 z hz
theorem sortSet_mem {k : Int} : ∀ {l : List Int}, k ∈ sortSet l ↔ k ∈ l
  | [] => Iff.rfl
  | y :: r => by
    show k ∈ insS y (sortSet r) ↔ _
    rw [insS_mem, sortSet_mem (l := r), List.mem_cons]
theorem sortSet_pw : ∀ l : List Int, (sortSet l).Pairwise (· < ·)
  | [] => List.Pairwise.nil
  | y :: r => insS_pw (sortSet_pw r)
theorem pw_uniq : ∀ {a b : List Int}, a.Pairwise (· < ·) → b.Pairwise (· < ·) → (∀ k : Int, k ∈ a ↔ k ∈ b) → a = b
  | [], [], _, _, _ => rfl
  | [], y :: r, _, _, h => absurd ((h y).mpr List.mem_cons_self) (by simp)
  | x :: r, [], _, _, h => absurd ((h x).mp List.mem_cons_self) (by simp)
  | x :: r, y :: t, p, q, h => by
    have p := List.pairwise_cons.mp p
    have q := List.pairwise_cons.mp q
    have e : x = y := by
      rcases List.mem_cons.mp ((h x).mp List.mem_cons_self) with e | e
      · exact e
      · rcases List.mem_cons.mp ((h y).mpr List.mem_cons_self) with e2 | e2
        · exact e2.symm
        · have := q.1 x e
          have := p.1 y e2
          omega
    subst e
    rw [pw_uniq p.2 q.2 fun k => ?_]
    have hk := h k
    rw [List.mem_cons, List.mem_cons] at hk
    constructor
    · intro z
      rcases hk.mp (.inr z) with e | e
      · have := p.1 k z; omega
      · exact e
    · intro z
      rcases hk.mpr (.inr z) with e | e
      · have := q.1 k z; omega
      · exact e
theorem sortSet_of {ks ns : List Int} (p : ns.Pairwise (· < ·)) (h : ∀ k : Int, k ∈ ns ↔ k ∈ ks) : ns = sortSet ks := pw_uniq p (sortSet_pw ks) fun k => (h k).trans sortSet_mem.symm
theorem gen_new2 {H H' : Hp} {p q : Addr} {o u : HO} (n : H p = none) (m : upd H p o q = none) (h : upd (upd H p o) q u = H') : Same H H' ∧ H' q = some u ∧ H q = none := by
  have hne : q ≠ p := fun z => by rw [z, upd_same] at m; cases m
  have hq : H q = none := by rwa [upd_ne hne] at m
  subst h
  refine ⟨fun b x e => ?_, upd_same, hq⟩
  rw [upd_ne (fun z => by rw [z, hq] at e; cases e), upd_ne (fun z => by rw [z, n] at e; cases e)]
  exact e
/-! ### texts in tuples and lists -/
theorem map_getF {α : Type} {f : α → V} {xs : List α} {i : Nat} {x : V} (h : (xs.map f)[i]? = some x) : ∃ o, xs[i]? = some o ∧ x = f o := by
  rw [List.getElem?_map] at h
  cases e : xs[i]? with
  | none => rw [e] at h; cases h
  | some o => rw [e] at h; exact ⟨o, rfl, (Option.some.inj h).symm⟩
theorem inV_strs (x : Str) : ∀ xs : List Str, inV (V.str x) (xs.map V.str) = decide (x ∈ xs)
  | [] => by simp [inV]
  | y :: r => by
    have h := inV_strs x r
    unfold inV at h ⊢
    rw [List.map_cons, List.any_cons, h]
    by_cases c : x = y
    · subst c
      simp [eqV]
    · simp [eqV, c, Ne.symm c]
theorem flat_strs : ∀ xs : List Str, (xs.map V.str).all flatV = true
  | [] => rfl
  | _ :: r => flat_strs r
section
variable {X : Cx} {K : PySem.W.Frag}
def rInS (K : PySem.W.Frag) : R2 := fun x y H Q => ∃ (i : Str) (p : Addr) (xs : List Str), x = .str i ∧ y = .ref p ∧ (SqL K H p (xs.map V.str) ∨ SqT K H p (xs.map V.str)) ∧ Q (.bl (decide (i ∈ xs))) H
theorem op_inS (hK : X.K = K := by rfl) : OpR X (compareOp .In) (rInS K) := by
  subst hK
  intro pins s σ H x y v u Q I rx ry h
  obtain ⟨i, p, xs, e1, e2, hs, q⟩ := h
  refine op_in_seq pins s σ H _ _ v u Q I rx ry ⟨p, _, e2, hs, by rw [e1]; rfl, flat_strs xs, ?_⟩
  rw [if_neg Bool.false_ne_true, e1, inV_strs]
  exact q
/-- a list or a tuple of numbers -/
def SeqI (K : PySem.W.Frag) (H : Hp) (v : V) (xs : List Int) : Prop := ∃ a, v = .ref a ∧ (H a = some (.lst (xs.map V.int)) ∨ H a = some (.tup (xs.map V.int)) ∨ ∀ H, SqT K H a (xs.map V.int))
def rListSI (K : PySem.W.Frag) : List V → Hp → VK → Prop := fun xs H Q => ∃ (v : V) (ks : List Int), xs = [v] ∧ SeqI K H v ks ∧ ∀ l, H l = none → Q (.ref l) (upd H l (.lst (ks.map V.int)))
theorem call_listSI (hK : X.K = K := by rfl) : CallR X (.type "list") (rListSI K) := by
  subst hK
  intro pins s σ H xs us Q I r h
  obtain ⟨v, ks, rfl, ⟨a, rfl, h2⟩, q⟩ := h
  refine call_list_of pins s σ H _ us Q I r ⟨a, _, rfl, ?_, q⟩
  rcases h2 with z | z | z
  · exact .inl (SqL.of z)
  · exact .inr (SqT.of z)
  · exact .inr (z H)
theorem SeqI.mono {H H' : Hp} {v : V} {xs : List Int} (e : Same H H') (h : SeqI K H v xs) : SeqI K H' v xs := by
  obtain ⟨a, e1, h⟩ := h
  refine ⟨a, e1, ?_⟩
  rcases h with z | z | z
  · exact .inl (e _ _ z)
  · exact .inr (.inl (e _ _ z))
  · exact .inr (.inr z)
def rTupLK (K : PySem.W.Frag) : List V → Hp → VK → Prop := fun xs H Q => ∃ (p : Addr) (ks : List Int), xs = [.ref p] ∧ SqL K H p (ks.map V.int) ∧ ∀ l, H l = none → Q (.ref l) (upd H l (.tup (ks.map V.int)))
theorem call_tupLK (hK : X.K = K := by rfl) : CallR X (.type "tuple") (rTupLK K) := by
  subst hK
  intro pins s σ H xs us Q I r h
  obtain ⟨p, ks, rfl, hs, q⟩ := h
  exact call_tuple_of pins s σ H _ us Q I r ⟨p, _, rfl, .inl ⟨hs, q⟩⟩
end
/-! ### written dicts of tuples with text keys -/
def lookG {α : Type} : List (Str × α) → Str → Option α
  | [], _ => none
  | (k, v) :: r, i => if k = i then some v else lookG r i
def dictG {α : Type} [Inhabited α] (kvs : List (Str × α)) (i : Str) : α := (lookG kvs i).getD default
def hasG {α : Type} (kvs : List (Str × α)) (i : Str) : Bool := (lookG kvs i).isSome
theorem lookG_at {α : Type} [Inhabited α] {kvs : List (Str × α)} {i : Str} (h : hasG kvs i = true) : lookG kvs i = some (dictG kvs i) := by
  unfold hasG at h
  unfold dictG
  cases e : lookG kvs i with
  | none => rw [e] at h; cases h
  | some v => rfl
inductive EA (P : Params) : List (Str × Addr) → List DictEntry → Prop
  | nil : EA P [] []
  | cons {h k a} {t : Tok} {r : List (Str × Addr)} {es : List DictEntry} (e : h = PyData.keyHash P k) (x : EA P r es) : EA P ((k, a) :: r) (⟨h, .str k t, .ref a⟩ :: es)
def KDA (K : PySem.W.Frag) (w : World) (a : Addr) (kvs : List (Str × Addr)) : Prop :=
  ∃ es n, K.lookup a = some ⟨.type "dict", none, .dict es n, #[]⟩ ∧ EA w.params kvs es.toList
theorem EA.lit {P : Params} : ∀ {kvs : List (Str × Addr)} {es : List DictEntry}, EA P kvs es → PySem.W.KeysLit P es
  | _, _, .nil => trivial
  | _, _, .cons e x => ⟨⟨_, _, rfl, e⟩, EA.lit x⟩
theorem EA.find {P : Params} {i : Str} {a : Addr} : ∀ {kvs : List (Str × Addr)} {es : List DictEntry}, EA P kvs es → lookG kvs i = some a → ∃ e, es.find? (fun e => e.key.isStr i) = some e ∧ e.val = .ref a
  | _, _, .nil, h => by cases h
  | _, _, .cons (k := k) e x, h => by
    unfold lookG at h
    by_cases q : k = i
    · rw [if_pos q] at h
      subst q
      cases h
      refine ⟨_, List.find?_cons_of_pos ?_, rfl⟩
      simp [Value.isStr]
    · rw [if_neg q] at h
      obtain ⟨e', h1, h2⟩ := EA.find x h
      refine ⟨e', ?_, h2⟩
      rw [List.find?_cons_of_neg]
      · exact h1
      · simp [Value.isStr, q]
def rIxDA (K : PySem.W.Frag) (w : World) : R2 := fun x y H Q => ∃ (p : Addr) (z : Str) (kvs : List (Str × Addr)) (a : Addr), x = .ref p ∧ y = .str z ∧ KDA K w p kvs ∧ lookG kvs z = some a ∧ Q (.ref a) H
theorem ix_DA {X : Cx} {K : PySem.W.Frag} {w : World} (hK : X.K = K := by rfl) (hw : X.w = w := by rfl) : IxR X (rIxDA K w) := by
  subst hK hw
  intro value slice pins s σ H x y v u Q I rx ry h hs
  obtain ⟨p, z, kvs, a, e1, e2, ⟨es, n, hl, xx⟩, e, q⟩ := h
  obtain ⟨en, h1, h2⟩ := xx.find e
  refine ix_kdict value slice pins s σ H x y v u Q I rx ry ⟨p, z, .ref a, e1, e2, ⟨es, n, .ref a, hl, xx.lit, ?_, rfl⟩, q⟩ hs
  unfold PySem.W.nsIn
  rw [hl]
  show (match es.toList.find? (fun e => e.key.isStr z) with
      | some e => some (some e.val)
      | none => if es.toList.any (·.refKey) then none else some none) = _
  rw [h1]
  show some (some en.val) = _
  rw [h2]
theorem F2.look {α β : Type} [Inhabited α] [Inhabited β] {P : α → β → Prop} {z : Str} : ∀ {l : List (Str × α)} {m : List (Str × β)}, F2 (fun p q => p.1 = q.1 ∧ P p.2 q.2) l m → hasG m z = true → P (dictG l z) (dictG m z)
  | _, _, .nil, h => by cases h
  | (k, a) :: l, (k2, b) :: m, .cons h r, hz => by
    obtain ⟨e, hp⟩ := h
    have e : k = k2 := e
    subst e
    unfold hasG lookG at hz
    unfold dictG lookG
    by_cases q : k = z
    · rw [if_pos q, if_pos q]; exact hp
    · rw [if_neg q] at hz
      rw [if_neg q, if_neg q]
      exact F2.look r hz
theorem F2.hasK {α β : Type} {P : α → β → Prop} {z : Str} : ∀ {l : List (Str × α)} {m : List (Str × β)}, F2 (fun p q => p.1 = q.1 ∧ P p.2 q.2) l m → hasG m z = true → hasG l z = true
  | _, _, .nil, h => by cases h
  | (k, a) :: l, (k2, b) :: m, .cons h r, hz => by
    have e : k = k2 := h.1
    subst e
    unfold hasG lookG at hz ⊢
    by_cases q : k = z
    · rw [if_pos q]; rfl
    · rw [if_neg q] at hz ⊢
      exact F2.hasK r hz
end Vx
namespace Vx
open PySem PySem.Spec PyProof.Rows L2
theorem op_notFalse {X : Cx} : OpR X (compareOp .IsNot) (fun x y H Q => ∃ b : Bool, x = .bl b ∧ y = .bl false ∧ Q (.bl b) H) := by
  intro pins s σ H x y v u Q I rx ry h
  obtain ⟨b, rfl, rfl, q⟩ := h
  cases rx
  cases ry
  show wpAny (model X.prog X.w) X.A (compareOp .IsNot (.bool b) (.bool false)) (EP X pins σ Q) X.xe s
  have e : compareOp .IsNot (.bool b) (.bool false) = pure (.bool b) := by cases b <;> rfl
  rw [e]
  exact wpAny_pure ⟨.bl b, H, I, rfl, q⟩
end Vx
/-! ### comprehensions that change an object -/
namespace Vx
open PySem PySem.Spec PyProof.Rows L2
section
variable {α β σ γ : Type}
def bind2 (m : Rx (α × σ)) (f : α → σ → Rx γ) : Rx γ := m.bind fun v => f v.1 v.2
def mapAS : List α → List β → σ → (σ → α → Rx (β × σ)) → Rx (List β × σ)
  | [], acc, s, _ => .ok (acc, s)
  | x :: r, acc, s, f => grd (acc.length ≤ 1000000) ((f s x).bind fun y => mapAS r (acc ++ [y.1]) y.2 f)
def mapFS : List α → List β → σ → (σ → α → Rx (Option β × σ)) → Rx (List β × σ)
  | [], acc, s, _ => .ok (acc, s)
  | x :: r, acc, s, f => grd (acc.length ≤ 1000000) ((f s x).bind fun y =>
    match y.1 with
    | some z => mapFS r (acc ++ [z]) y.2 f
    | none => mapFS r acc y.2 f)
theorem cW_push2 {m : Rx (α × σ)} {f : α → σ → Rx γ} {K : γ → Prop} {E : Nat → Prop} (h : cW (bind2 m f) K E) : ∃ K2 : α × σ → Prop, (∀ a s, K2 (a, s) → cW (f a s) K E) ∧ cW m K2 E := ⟨fun v => cW (f v.1 v.2) K E, fun _ _ x => x, cW_call h (fun _ x => x) fun _ x => x⟩
theorem cW_mapAS {K : List β × σ → Prop} {E : Nat → Prop} {xs : List α} {acc : List β} {s : σ} {i : Nat} {x : α} {f : σ → α → Rx (β × σ)} (hx : xs[i]? = some x) (h : cW (mapAS (xs.drop i) acc s f) K E) :
    acc.length ≤ 1000000 ∧ cW (f s x) (fun y => cW (mapAS (xs.drop (i + 1)) (acc ++ [y.1]) y.2 f) K E) E := by
  rw [List.drop_eq_getElem?_toList_append, hx] at h
  obtain ⟨z, h⟩ := cW_grd h
  exact ⟨z, cW_call h (fun _ z => z) fun _ z => z⟩
theorem cW_mapAS0 {K : List β × σ → Prop} {E : Nat → Prop} {xs : List α} {acc : List β} {s : σ} {n : Nat} {f : σ → α → Rx (β × σ)} (hn : n = xs.length) (h : cW (mapAS (xs.drop n) acc s f) K E) : K (acc, s) := by
  subst hn
  rw [List.drop_length] at h
  exact cW_ok h
theorem cW_mapFS {K : List β × σ → Prop} {E : Nat → Prop} {xs : List α} {acc : List β} {s : σ} {i : Nat} {x : α} {f : σ → α → Rx (Option β × σ)} (hx : xs[i]? = some x) (h : cW (mapFS (xs.drop i) acc s f) K E) :
    acc.length ≤ 1000000 ∧ cW (f s x) (fun y => match y.1 with | some z => cW (mapFS (xs.drop (i + 1)) (acc ++ [z]) y.2 f) K E | none => cW (mapFS (xs.drop (i + 1)) acc y.2 f) K E) E := by
  rw [List.drop_eq_getElem?_toList_append, hx] at h
  obtain ⟨z, h⟩ := cW_grd h
  refine ⟨z, cW_call h (fun y z => ?_) fun _ z => z⟩
  obtain ⟨o, t⟩ := y
  cases o with
  | none => exact z
  | some w => exact z
theorem cW_mapFS0 {K : List β × σ → Prop} {E : Nat → Prop} {xs : List α} {acc : List β} {s : σ} {n : Nat} {f : σ → α → Rx (Option β × σ)} (hn : n = xs.length) (h : cW (mapFS (xs.drop n) acc s f) K E) : K (acc, s) := by
  subst hn
  rw [List.drop_length] at h
  exact cW_ok h
end
theorem sx_of {L : List Addr} {a b : Hp} (h : Same a b) : SameXs L a b := fun p o e _ => h p o e
theorem sx_same {L : List Addr} {a b c : Hp} (h : SameXs L a b) (k : Same b c) : SameXs L a c := fun p o e n => k p o (h p o e n)
theorem sx_mut {L : List Addr} {a b c : Hp} (h : SameXs L a b) (k : SameXs L b c) : SameXs L a c := fun p o e n => k p o (h p o e n) n
theorem sx_mut1 {L : List Addr} {a b c : Hp} {D : Addr} (h : SameXs L a b) (k : SameX D b c) (d : a D = none) : SameXs L a c := fun p o e n => k p o (h p o e n) (ne_of_none e d)
def rIndexTS (K : PySem.W.Frag) : V → List V → Hp → VK → Prop := fun x xs H Q => ∃ (p : Addr) (ys : List Str) (z : Str), x = .ref p ∧ xs = [.str z] ∧ SqT K H p (ys.map V.str) ∧ z ∈ ys ∧ Q (.int ((ys.idxOf z : Nat) : Int)) H
theorem mt_indexTS {X : Cx} {K : PySem.W.Frag} (hK : X.K = K := by rfl) : MtR X "tuple.index" (rIndexTS K) := by
  subst hK
  intro pins s σ H x xs v us Q I rx rxs h
  obtain ⟨p, ys, z, rfl, rfl, hs, hm, q⟩ := h
  refine mt_tup_index pins s σ H _ _ v us Q I rx rxs ⟨p, ys, z, ys.idxOf z, rfl, rfl, hs, ?_, ?_, q⟩
  · have hl := List.idxOf_lt_length_iff.mpr hm
    rw [List.getElem?_eq_getElem hl]
    exact congrArg some (List.getElem_idxOf hl)
  · intro m hm2 hg
    have h1 := (List.getElem?_eq_some_iff.mp hg)
    obtain ⟨h2, h3⟩ := h1
    have h4 := List.not_of_lt_findIdx hm2
    rw [h3, beq_self_eq_true] at h4
    cases h4
end Vx
/-! # try with several clauses that name the exception -/
namespace Ve
open PySem PySem.Spec PyProof.Rows L2
abbrev Suite := Addr → Value → Option Addr → TS
/-- what a list of clauses wishes: the first whose class fits, and its suite; none: the outer wish -/
def wCl (K : PySem.W.Frag) (Wout : WX) (D : Ends) : List (Value × Nat × Suite) → WX
  | [] => Wout
  | c :: r => wAs K c.1 c.2.1 c.2.2 (wCl K Wout D r) D
/-- one clause `except x as n: suite` -/
structure ClOk (X : Cx) (h : ExceptHandler) (c : Value × Nat × Suite) : Prop where
  ex : ∃ (x n : Str) (b₀ : Stmt) (suite : List Stmt) (np p : Pos), h = .ExceptHandler (some (.Name x np)) (some n) (b₀ :: suite) p ∧ Names X x c.1 ∧ X.N[c.2.1]? = some n ∧ X.env.kindOf n = some .local ∧
    ∀ (a : Addr) (oe : Obj) (cls : Value) (d : Option Addr) (pn : List (Addr × Obj)), Zc cls d oe → (∃ vs, oe.data = .fields vs) → PSs (X.suite a ((a, oe) :: pn)) (b₀ :: suite) (c.2.2 a cls d)
inductive ClsOk (X : Cx) : List ExceptHandler → List (Value × Nat × Suite) → Prop
  | nil : ClsOk X [] []
  | cons {h : ExceptHandler} {hs : List ExceptHandler} {c : Value × Nat × Suite} {cs : List (Value × Nat × Suite)} : ClOk X h c → ClsOk X hs cs → ClsOk X (h :: hs) (c :: cs)
theorem cl_mk {X : Cx} {x n : Str} {b₀ : Stmt} {suite : List Stmt} {np p : Pos} {cv : Value} {i : Nat} {ts : Suite} (nm : Names X x cv) (hi : X.N[i]? = some n) (hln : X.env.kindOf n = some .local)
    (hsu : ∀ (a : Addr) (oe : Obj) (cls : Value) (d : Option Addr) (pn : List (Addr × Obj)), Zc cls d oe → (∃ vs, oe.data = .fields vs) → PSs (X.suite a ((a, oe) :: pn)) (b₀ :: suite) (ts a cls d)) : ClOk X (.ExceptHandler (some (.Name x np)) (some n) (b₀ :: suite) p) (cv, i, ts) :=
  ⟨⟨x, n, b₀, suite, np, p, rfl, nm, hi, hln, hsu⟩⟩
section
variable {X : Cx} {body : List Stmt} {h₀ : ExceptHandler} {hds : List ExceptHandler} {cs : List (Value × Nat × Suite)} {pos : Pos} {tb : WX → TS} {Wout : WX}
theorem ps_try_cls (hs : X.stack = X.env :: X.outer) (hf : X.env.frame = some X.env.locals) (hN : X.N.Nodup) (tk : Takes X Wout)
    (hb : ∀ (W : WX) (pn : List (Addr × Obj)) (xe : Value → Shared → Prop), Takes (X.tr pn xe) W → PassesOwn (model X.prog X.w) X.A X.env xe → PSs (X.tr pn xe) body (tb W))
    (hh : ClsOk X (h₀ :: hds) cs) : PS X (.Try body (h₀ :: hds) [] [] pos) (fun D σ H => tb (wCl X.K Wout D cs) D σ H) := by
  refine ⟨fun pins s σ H D I h => ?_⟩
  have ok := I.ok
  have hfr : X.A.frames = some (X.env :: X.outer) := by rw [ok.frames, hs]
  refine wpAny_Try_except ?_
  let R : Flow → Shared → Prop := SP X pins D
  refine wpAny_mono ((hb (wCl X.K Wout D cs) (X.pn ++ pins) (fun e s₁ => wpAny (model X.prog X.w) X.A (noteFrame e X.env) (fun _ s₂ => wpAny (model X.prog X.w) X.A (setFlight e none) (fun _ s₃ =>
    wpAny (model X.prog X.w) X.A (handleBy e X.env (h₀ :: hds)) R X.xe s₃) X.xe s₂) X.xe s₁) (fun u s' xx => ?_) PassesOwn.looking).run [] s σ H D (I.toTry _) h) (fun f s1 hsp => ?_) (fun e s1 he => he)
  · obtain ⟨a, B, sI, pins', σ', H', cls, d, rfl, J', nb, up, sky, na, os, ag, w⟩ := xx
    have J : Inv X pins σ' H' sI := J'.ofTry ok
    have sky' : Sky B (X.env :: X.outer) a (Zc cls d) X.env.locals s'.heap := by rw [← hs]; exact sky
    show wpAny (model X.prog X.w) X.A (noteFrame (.ref a) X.env) _ _ _
    refine Sky.land Zc.steady hfr hf sky' fun h3 fl3 up3 => ?_
    have up13 := up.trans up3
    have J3 : Inv X pins σ' H' { s' with heap := h3 } := J.landed nb fl3.1 up13 os ag
    obtain ⟨oe3, vs3, he3, hz3, hd3⟩ := fl3.there
    have away : a ∉ frs (X.env :: X.outer) := fun hm => by
      obtain ⟨_, o', e', hnf⟩ := fl3.2.2.1.mem hm
      rw [he3] at e'
      cases e'
      exact hnf _ hd3
    have nL : a ≠ X.env.locals := fun z => away (List.mem_filterMap.mpr ⟨X.env, List.mem_cons_self, by rw [hf, z]⟩)
    have nF : a ∉ X.fs := fun hm => by
      obtain ⟨e, he, q⟩ := List.mem_filterMap.mp hm
      exact away (List.mem_filterMap.mpr ⟨e, List.mem_cons_of_mem _ he, q⟩)
    have S3 := J3.suite he3 hd3 na nL nF
    have each : ∀ {hs2 : List ExceptHandler} {cs2 : List (Value × Nat × Suite)}, ClsOk X hs2 cs2 → wCl X.K Wout D cs2 cls d σ' H' → wpAny (model X.prog X.w) X.A (handleBy (.ref a) X.env hs2) R X.xe { s' with heap := h3 } := by
      intro hs2 cs2 hk
      induction hk with
      | nil =>
        intro w
        refine wpAny_handleBy_nil ?_
        obtain ⟨_, _, _, oe, vs, T, oT, ts', he, _, hd, h1, _⟩ := id fl3
        unfold PySem.passOn
        refine wpAny_bind (wpAny_field he hd h1 ?_)
        rw [if_neg (show ¬ ((Value.ref T == Value.none) = true) from by simp)]
        have out : wpAny (model X.prog X.w) X.A (setFlight (.ref a) X.env.frame) (fun _ s4 => wpAny (model X.prog X.w) X.A (throw (.ref a) : Sem Flow) R X.xe s4) X.xe { s' with heap := h3 } := by
          rw [hf]
          exact HandSPX.setFlight_upZ fl3 fun h4 hh4 up4 => wpAny_throw (tk _ _ ⟨a, B, sI, pins, σ', H', cls, d, rfl, J, nb, up13.trans up4, .inr (.inr (by rw [hs]; exact hh4)), na, os, ag, w⟩)
        first
          | exact wpAny_bind (wpAny_pure (wpAny_bind out))
          | exact wpAny_bind out
      | cons hc _ ih =>
        intro w
        obtain ⟨x, n, b₀, suite, np, p, rfl, nm, hi, hln, hsu⟩ := hc.ex
        obtain ⟨b, hb1, yes, no⟩ := w
        refine wpAny_handleBy_cons (codeAny_handlers_test ?_) (by intro q; cases q)
        have LM := PySem.W.exm_one (M := model X.prog X.w) (J3.kIn) (show PySem.W.Looks (model X.prog X.w) h3 (typeOf (.ref a)) cls from fun A Q E s k q => wpAny_typeOf_ref (k _ _ he3) (by rw [hz3.1]; exact q)) hb1
        have named : ∀ {Q : Value → Shared → Prop} {E : Value → Shared → Prop}, Q _ { s' with heap := h3 } → wpAny (model X.prog X.w) (X.A.mark (some (.ref a))) (eval (.Name x np) X.env) Q E { s' with heap := h3 } := fun {Q E} q => by
          obtain ⟨hg, hdbg, hm | ⟨hm, hv, hnn⟩⟩ := nm
          · exact ld_glob (X := X.suite a ((a, oe3) :: (X.pn ++ pins))) S3 hg hm q hdbg
          · exact ld_blt (X := X.suite a ((a, oe3) :: (X.pn ++ pins))) S3 hg hm hv q hnn hdbg
        refine named (LM.here ?_)
        cases b with
        | false => exact ih (no rfl)
        | true =>
          refine codeAny_handlers_suite_as ?_
          refine HandSPX.lands_againZ fl3 fun h4 fl4 up4 => ?_
          have J4 : Inv X pins σ' H' { s' with heap := h4 } := J.landed nb fl4.1 (up13.trans up4) os ag
          obtain ⟨oe4, vs4, he4, hz4, hd4⟩ := fl4.there
          have S4 := J4.suite he4 hd4 na nL nF
          refine store_ok (X := X.suite a ((a, oe4) :: (X.pn ++ pins))) (v := .ref a) S4 hN hi (.inl hln) rfl (fun s5 S5 => ?_) (.inr hln)
          have fin : ∀ {σ6 : L2.St} {H6 : Hp} {s6 : Shared} {Q : Shared → Prop}, Inv (X.suite a ((a, oe4) :: (X.pn ++ pins))) [] σ6 H6 s6 → (∀ s7, Inv X pins (σ6.set _ none) H6 s7 → Q s7) →
              wpAny (model X.prog X.w) X.A (do bindName X.env n .none; unbindBehindTheSuite X.env n p) (fun _ s7 => Q s7) X.xe s6 := fun S6 hq => gone_ok (S6.unsuite ok) hN hi hln hq
          refine wpAny_mono ((hsu a oe4 cls d (X.pn ++ pins) hz4 ⟨_, hd4⟩).run [] s5 _ H' _ S5 (yes rfl a na)) (fun f s6 hsp => ?_) (fun _ _ z => False.elim z)
          cases f with
          | ret u =>
            obtain ⟨v6, σ6, H6, S6, r6, q6⟩ := hsp
            exact fin S6 fun s7 J7 => ⟨_, _, _, J7, r6, q6⟩
          | next =>
            obtain ⟨σ6, H6, S6, q6⟩ := hsp
            exact fin S6 fun s7 J7 => ⟨_, _, J7, q6⟩
          | brk =>
            obtain ⟨σ6, H6, S6, q6⟩ := hsp
            exact fin S6 fun s7 J7 => ⟨_, _, J7, q6⟩
          | cont =>
            obtain ⟨σ6, H6, S6, q6⟩ := hsp
            exact fin S6 fun s7 J7 => ⟨_, _, J7, q6⟩
    exact each hh w
  · cases f with
    | ret u =>
      obtain ⟨v, σ', H', J', r, q⟩ := hsp
      exact ⟨v, σ', H', J'.ofTry ok, r, q⟩
    | next =>
      obtain ⟨σ', H', J', q⟩ := hsp
      exact wpAny_execs_nil ⟨σ', H', J'.ofTry ok, q⟩
    | brk =>
      obtain ⟨σ', H', J', q⟩ := hsp
      exact ⟨σ', H', J'.ofTry ok, q⟩
    | cont =>
      obtain ⟨σ', H', J', q⟩ := hsp
      exact ⟨σ', H', J'.ofTry ok, q⟩
end
end Ve
namespace Vx
open PySem PySem.Spec PyProof.Rows L2
theorem exm_mk0 {K : PySem.W.Frag} {S C : Addr} (h1 : PySem.W.subIn K (.ref C) (.type "BaseException") = some true) (h0 : (Value.ref S == Value.ref C) = false) (h2 : PySem.W.isClsIn K C = true) (h3 : PySem.W.typeIn K (.ref C) = some (.type "type")) (h4 : PySem.W.subIn K (.ref S) (.ref C) = some false) :
    PySem.W.exmOne K (.ref S) (.ref C) = some false := by
  unfold PySem.W.exmOne
  rw [h1]
  have k := kit_mk0 (K := K) h0 h2 h3 h4
  unfold PySem.W.kitOne at k
  simpa [h0] using k
theorem Sep.mutstep {M : List Addr} {H0 G0 G H H' : Hp} {O : List Addr} (S : Sep M H0 G0 G H O) {L : List Addr} (x : SameXs L H H') (hL : ∀ a ∈ L, a ∈ O) (hs : ∀ a ∈ L, H' a ≠ none) {G' : Hp} (eG : Same G G') (sG : Same G' H') (hn : ∀ b, H b ≠ none → G b = none → G' b = none) : Sep M H0 G0 G' H' O := by
  have S1 := S.mut x hL hs
  exact ⟨S1.base, S1.pm, sG, S.g0.trans eG, fun b hb gb => hn b (fun z => hb (S.free z)) (S.gn b hb gb), fun a ha => ⟨hn a (S.ow a ha).2.1 (S.ow a ha).1, (S1.ow a ha).2⟩⟩
end Vx
/-! # fourth part: reckoning with functions that may refuse -/
namespace Vx
open PySem PySem.Spec PyProof.Rows L2
section
variable {α β σ ρ τ : Type}
theorem bind_ok (a : α) (f : α → Rx β) : (Rx.ok a).bind f = f a := rfl
theorem bind_er (e : Nat) (f : α → Rx β) : (Rx.er e : Rx α).bind f = .er e := rfl
theorem grd_pos {p : Prop} {dp : Decidable p} {m : Rx α} (h : p) : grd p m = m := if_pos h
theorem bnd_eq (a : α) (f : α → Rx β) : bnd a f = f a := rfl
theorem noEr_ok (a : α) : noEr (.ok a : Rx α) = .ok a := rfl
theorem tryR_ok {cs : List Nat} (a : α) (f : α → Rx β) (g : Nat → Rx β) : tryR (.ok a) cs f g = f a := rfl
theorem tryR_er {cs : List Nat} {e : Nat} (h : e ∈ cs) (f : α → Rx β) (g : Nat → Rx β) : tryR (.er e) cs f g = g e := if_pos h
theorem aft_go (s : σ) (kr : ρ → Rx τ) (k : σ → Rx τ) : (Lp.go s : Lp σ ρ).aft kr k = k s := rfl
theorem aft_rt (r : ρ) (kr : ρ → Rx τ) (k : σ → Rx τ) : (Lp.rt r : Lp σ ρ).aft kr k = kr r := rfl
/-- gives a value of which P holds -/
def Gv (m : Rx α) (P : α → Prop) : Prop := ∃ v, m = .ok v ∧ P v
theorem Gv.ok {a : α} {P : α → Prop} (h : P a) : Gv (.ok a) P := ⟨a, rfl, h⟩
theorem Gv.of_eq {m : Rx α} {a : α} {P : α → Prop} (e : m = .ok a) (h : P a) : Gv m P := ⟨a, e, h⟩
theorem Gv.bind {m : Rx α} {f : α → Rx β} {P : α → Prop} {Q : β → Prop} (h : Gv m P) (k : ∀ v, P v → Gv (f v) Q) : Gv (m.bind f) Q := by
  obtain ⟨v, rfl, p⟩ := h
  exact k v p
theorem Gv.bind_eq {m : Rx α} {f : α → Rx β} {a : α} {Q : β → Prop} (h : m = .ok a) (k : Gv (f a) Q) : Gv (m.bind f) Q := by
  subst h
  exact k
theorem Gv.grd {p : Prop} {dp : Decidable p} {m : Rx α} {Q : α → Prop} (h : p) (k : Gv m Q) : Gv (Vx.grd p m) Q := by
  rw [grd_pos h]
  exact k
theorem Gv.bnd {a : α} {f : α → Rx β} {Q : β → Prop} (k : ∀ x, x = a → Gv (f x) Q) : Gv (Vx.bnd a f) Q := k a rfl
theorem Gv.ite {p : Prop} {dp : Decidable p} {a b : Rx α} {Q : α → Prop} (h1 : p → Gv a Q) (h2 : ¬ p → Gv b Q) : Gv (if p then a else b) Q := by
  split
  · exact h1 ‹_›
  · exact h2 ‹_›
theorem Gv.pos {p : Prop} {dp : Decidable p} {a b : Rx α} {Q : α → Prop} (h : p) (k : Gv a Q) : Gv (if p then a else b) Q := by rwa [if_pos h]
theorem Gv.neg {p : Prop} {dp : Decidable p} {a b : Rx α} {Q : α → Prop} (h : ¬ p) (k : Gv b Q) : Gv (if p then a else b) Q := by rwa [if_neg h]
theorem Gv.imp {m : Rx α} {P Q : α → Prop} (h : Gv m P) (k : ∀ v, P v → Q v) : Gv m Q := by
  obtain ⟨v, e, p⟩ := h
  exact ⟨v, e, k v p⟩
theorem Gv.noEr {m : Rx α} {P : α → Prop} (h : Gv m P) : Gv (Vx.noEr m) P := by
  obtain ⟨v, rfl, p⟩ := h
  exact ⟨v, rfl, p⟩
theorem Gv.tryOk {m : Rx α} {cs : List Nat} {f : α → Rx β} {g : Nat → Rx β} {P : α → Prop} {Q : β → Prop} (h : Gv m P) (k : ∀ v, P v → Gv (f v) Q) : Gv (tryR m cs f g) Q := by
  obtain ⟨v, rfl, p⟩ := h
  exact k v p
theorem Gv.tryEr {m : Rx α} {cs : List Nat} {e : Nat} {f : α → Rx β} {g : Nat → Rx β} {Q : β → Prop} (h : m = .er e) (hm : e ∈ cs) (k : Gv (g e) Q) : Gv (tryR m cs f g) Q := by
  subst h
  rw [tryR_er hm]
  exact k
theorem Gv.get {m : Rx α} {a : α} (h : Gv m (fun v => v = a)) : m = .ok a := by
  obtain ⟨v, e, rfl⟩ := h
  exact e
theorem Gv.eq {m : Rx α} {P : α → Prop} (h : Gv m P) : ∃ v, m = .ok v ∧ P v := h
/-- a loop that keeps P -/
theorem Gv.forS {P : Nat → σ → Prop} {xs : List α} {s : σ} {f : σ → α → Rx σ} (h0 : P 0 s) (hs : ∀ i x s, xs[i]? = some x → P i s → Gv (f s x) (P (i + 1))) : Gv (Vx.forS xs s f) (P xs.length) := by
  induction xs generalizing s P with
  | nil => exact .ok h0
  | cons x r ih =>
    refine Gv.bind (hs 0 x s rfl h0) fun s' p => ?_
    exact ih (P := fun i => P (i + 1)) p fun i y s hy q => hs (i + 1) y s (by simpa using hy) q
theorem Gv.forR {P : Nat → σ → Prop} {xs : List α} {s : σ} {f : σ → α → Rx (Lp σ ρ)} (h0 : P 0 s) (hs : ∀ i x s, xs[i]? = some x → P i s → Gv (f s x) (fun l => ∃ s', l = .go s' ∧ P (i + 1) s')) : Gv (Vx.forR xs s f) (fun l => ∃ s', l = .go s' ∧ P xs.length s') := by
  induction xs generalizing s P with
  | nil => exact .ok ⟨s, rfl, h0⟩
  | cons x r ih =>
    refine Gv.bind (hs 0 x s rfl h0) ?_
    rintro _ ⟨s', rfl, p⟩
    exact ih (P := fun i => P (i + 1)) p fun i y s hy q => hs (i + 1) y s (by simpa using hy) q
/-- a loop that carries nothing -/
theorem forR_unit {xs : List α} {f : Unit → α → Rx (Lp Unit ρ)} (h : ∀ x ∈ xs, f () x = .ok (.go ())) : Vx.forR xs () f = .ok (.go ()) := by
  induction xs with
  | nil => rfl
  | cons x r ih =>
    show (f () x).bind _ = _
    rw [h x List.mem_cons_self]
    exact ih fun y hy => h y (List.mem_cons_of_mem _ hy)
theorem forS_pure {xs : List α} {s : σ} {f : σ → α → Rx σ} {g : σ → α → σ} (h : ∀ s x, x ∈ xs → f s x = .ok (g s x)) : Vx.forS xs s f = .ok (xs.foldl g s) := by
  induction xs generalizing s with
  | nil => rfl
  | cons x r ih =>
    show (f s x).bind _ = _
    rw [h s x List.mem_cons_self]
    exact ih fun s y hy => h s y (List.mem_cons_of_mem _ hy)
theorem mapA_pure {xs : List α} {acc : List β} {f : α → Rx β} {g : α → β} (h : ∀ x ∈ xs, f x = .ok (g x)) (hl : acc.length + xs.length ≤ 1000000) : mapA xs acc f = .ok (acc ++ xs.map g) := by
  induction xs generalizing acc with
  | nil => simp [mapA]
  | cons x r ih =>
    rw [List.length_cons] at hl
    unfold mapA
    rw [grd_pos (by omega), h x List.mem_cons_self, bind_ok, ih (fun y hy => h y (List.mem_cons_of_mem _ hy)) (by rw [List.length_append, List.length_cons, List.length_nil]; omega)]
    simp
theorem mapA_pure0 {xs : List α} {f : α → Rx β} {g : α → β} (h : ∀ x ∈ xs, f x = .ok (g x)) (hl : xs.length ≤ 1000000) : mapA xs [] f = .ok (xs.map g) := by
  rw [mapA_pure h (by simpa using hl)]
  rfl
theorem mapF_pure {xs : List α} {acc : List β} {f : α → Rx (Option β)} {g : α → Option β} (h : ∀ x ∈ xs, f x = .ok (g x)) (hl : acc.length + xs.length ≤ 1000000) : mapF xs acc f = .ok (acc ++ xs.filterMap g) := by
  induction xs generalizing acc with
  | nil => simp [mapF]
  | cons x r ih =>
    rw [List.length_cons] at hl
    unfold mapF
    rw [grd_pos (by omega), h x List.mem_cons_self, bind_ok]
    cases e : g x with
    | none =>
      show mapF r acc f = _
      rw [ih (fun y hy => h y (List.mem_cons_of_mem _ hy)) (by omega), List.filterMap_cons, e]
    | some z =>
      show mapF r (acc ++ [z]) f = _
      rw [ih (fun y hy => h y (List.mem_cons_of_mem _ hy)) (by rw [List.length_append, List.length_cons, List.length_nil]; omega), List.filterMap_cons, e]
      simp
/-- a while that ends: m falls -/
theorem Gv.whileR {P : σ → Prop} {R : σ → Prop} (m : σ → Nat) {f : σ → Rx (Lp σ ρ)} (hs : ∀ s, P s → Gv (f s) (fun l => (∃ s', l = .go s' ∧ P s' ∧ m s' < m s) ∨ ∃ s', l = .bk s' ∧ R s')) : ∀ {n : Nat} {s : σ}, P s → m s < n → Gv (Vx.whileR n s f) (fun l => ∃ s', l = .go s' ∧ R s') := by
  intro n
  induction n with
  | zero => intro s _ h; exact absurd h (Nat.not_lt_zero _)
  | succ n ih =>
    intro s p h
    refine Gv.bind (hs s p) ?_
    rintro _ (⟨s', rfl, p', l⟩ | ⟨s', rfl, r⟩)
    · exact ih p' (by omega)
    · exact .ok ⟨s', rfl, r⟩
end
/-- a loop that may return -/
theorem Gv.forRR {α σ ρ : Type} {P : Nat → σ → Prop} {Q : ρ → Prop} {xs : List α} {s : σ} {f : σ → α → Rx (Lp σ ρ)} (h0 : P 0 s) (hs : ∀ i x s, xs[i]? = some x → P i s → Gv (f s x) (fun l => (∃ s', l = .go s' ∧ P (i + 1) s') ∨ ∃ r, l = .rt r ∧ Q r)) : Gv (Vx.forR xs s f) (fun l => (∃ s', l = .go s' ∧ P xs.length s') ∨ ∃ r, l = .rt r ∧ Q r) := by
  induction xs generalizing s P with
  | nil => exact .ok (.inl ⟨s, rfl, h0⟩)
  | cons x r ih =>
    refine Gv.bind (hs 0 x s rfl h0) ?_
    rintro _ (⟨s', rfl, p⟩ | ⟨r, rfl, q⟩)
    · exact ih (P := fun i => P (i + 1)) p fun i y s hy q => hs (i + 1) y s (by simpa using hy) q
    · exact .ok (.inr ⟨r, rfl, q⟩)
theorem rng_mem {lo x : Int} {n : Nat} (h : x ∈ rng lo n) : lo ≤ x ∧ x < lo + n := by
  unfold rng at h
  obtain ⟨j, hj, rfl⟩ := List.mem_map.mp h
  have := List.mem_range.mp hj
  omega
theorem rng_at {lo x : Int} {n i : Nat} (h : (rng lo n)[i]? = some x) : x = lo + i ∧ i < n := by
  have hl := get_len h
  rw [rng_len] at hl
  rw [rng_get hl] at h
  exact ⟨(Option.some.inj h).symm, hl⟩
end Vx
namespace Vx
open PySem PySem.Spec PyProof.Rows L2
structure St_BitReader where
  octs : (List Int)
  place : Int
  stop : Int
deriving DecidableEq
def F__law_draws_b1 (free_15 : Bool) (found_33 : (List Int)) (rest_34 : Int) (state_35 : Int) (it38 : Int) : Rx ((List Int) × Int × Int) :=
  (if free_15 = true then (if 1 < rest_34 then grd (0 < (it38 : Int)) <| grd ((found_33).length ≤ 1000000) <| bnd ((found_33) ++ [(rest_34 % it38)]) fun y49 => grd (0 < (it38 : Int) ∧ (it38 : Int) < 2 ^ 128) <| bnd ((rest_34 / it38)) fun rest_51 => .ok ((y49), (rest_51), (state_35)) else bnd ((((state_35 * 48271) + 11) % 2147483647)) fun state_52 => bnd ((((state_52 * 69621) + 7) % 2147483647)) fun state_53 => grd (0 < (it38 : Int)) <| grd ((found_33).length ≤ 1000000) <| bnd ((found_33) ++ [((state_53 / 13) % it38)]) fun y62 => .ok ((y62), (rest_34), (state_53))) else bnd ((((state_35 * 48271) + 11) % 2147483647)) fun state_63 => bnd ((((state_63 * 69621) + 7) % 2147483647)) fun state_64 => grd (0 < (it38 : Int)) <| grd ((found_33).length ≤ 1000000) <| bnd ((found_33) ++ [((state_64 / 13) % it38)]) fun y73 => .ok ((y73), (rest_34), (state_64)))

def F__law_draws_r1 (found_79 : (List Int)) (rest_80 : Int) (state_81 : Int) : Rx (List Int) :=
  .ok (found_79)

def F__law_draws (cell' : Int) (limits' : (List Int)) : Rx (List Int) :=
  bnd ((if cell' < 0 then -cell' else cell')) fun rest_10 => bnd ((rest_10 % 2147483647)) fun state_11 => bnd ((decide (cell' < 0) || decide (((10 : Int) ^ Int.toNat 18) ≤ cell'))) fun free_14 => Rx.bind (forS (limits') ((([] : (List Int))), (rest_10), (state_11)) (fun s x => F__law_draws_b1 (free_14) (s.1) (s.2.1) (s.2.2) x)) fun s => F__law_draws_r1  (s.1) (s.2.1) (s.2.2)

def F__law_octets_c2 (it160 : Int) : Rx Int :=
  grd ((-(2 ^ 64) < ((if decide (235 < it160) = true then 1 else 0) : Int) ∧ ((if decide (235 < it160) = true then 1 else 0) : Int) < 2 ^ 64) ∨ (-(2 ^ 64) < (it160 : Int) ∧ (it160 : Int) < 2 ^ 64)) <| .ok (((if decide (235 < it160) = true then 1 else 0) * it160))

def F__law_octets_k1 (octets_111 : (List Int)) : Rx (List Int) :=
  grd (-((octets_111 : (List Int)).length : Int) ≤ (-1) ∧ (-1) < ((octets_111 : (List Int)).length : Int)) <| grd (-((octets_111 : (List Int)).length : Int) ≤ (-1) ∧ (-1) < ((octets_111 : (List Int)).length : Int)) <| bnd (setL (octets_111) ((-1)) ((if (itD (octets_111) ((-1))) > 1 then (itD (octets_111) ((-1))) else 1))) fun y196 => .ok (y196)

def F__law_octets (cell' : Int) (more' : Int) : Rx (List Int) :=
  bnd ((1 + (cell' % 40))) fun size_82 => grd (-(2 ^ 63) ≤ (size_82 : Int) ∧ (size_82 : Int) < 2 ^ 63 ∧ ([256]).length * Int.toNat (size_82) ≤ 1000000) <| Rx.bind (F__law_draws more' (repL ([256]) (size_82))) fun v102 => Rx.bind (((if (((cell' / 40) % 3) : Int) = 1 then Rx.bind (mapA (v102) [] (fun x => noEr (F__law_octets_c2  x))) fun v117 => .ok (v117) else .ok (v102)) : Rx ((List Int)))) fun s => F__law_octets_k1  s

def F__last_bit_r1 (bits_212 : Int) : Rx Int :=
  .ok (bits_212)

def F__last_bit_b1 (octet_197 : Int) (bits_206 : Int) : Rx (Lp (Int) Int) :=
  grd ((0 : Int) ≤ (bits_206 - 1)) <| (if ((PySem.Builtin.bitAnd ((octet_197 / 2 ^ Int.toNat ((bits_206 - 1)))) (1)) : Int) = 0 then bnd ((bits_206 + 1)) fun bits_211 => .ok (.go (bits_211)) else .ok (.bk (bits_206)))

def F__last_bit (octet' : Int) : Rx Int :=
  Rx.bind ((whileR 1000000 (1) (fun s => F__last_bit_b1 (octet') s) : Rx (Lp (Int) Int))) fun l => l.aft Rx.ok fun s => F__last_bit_r1  s

def F_BitReader___init__ (octets' : (List Int)) : Rx St_BitReader :=
  (if (octets' : (List Int)) = [] then .er 3 else grd (-((octets' : (List Int)).length : Int) ≤ (-1) ∧ (-1) < ((octets' : (List Int)).length : Int)) <| (if ((itD (octets') ((-1))) : Int) = 0 then .er 3 else grd (-((octets' : (List Int)).length : Int) ≤ (-1) ∧ (-1) < ((octets' : (List Int)).length : Int)) <| Rx.bind (F__last_bit ((itD (octets') ((-1))))) fun v239 => bnd (((8 * (((octets') : (List Int)).length : Int)) - v239)) fun _end_244 => .ok (⟨octets', 0, _end_244⟩ : St_BitReader)))

def F__law_bits_c1 (value_253 : Int) (count_254 : Int) (it283 : Int) : Rx Int :=
  grd ((0 : Int) ≤ ((count_254 - 1) - it283)) <| .ok ((PySem.Builtin.bitAnd ((value_253 / 2 ^ Int.toNat (((count_254 - 1) - it283)))) (1)))

def F__law_bits (value' : Int) (count' : Int) : Rx (List Int) :=
  grd (-(2 ^ 62) ≤ (count' : Int) ∧ (count' : Int) < 2 ^ 62) <| Rx.bind (mapA (rng (0) (Int.toNat (count'))) [] (fun x => noEr (F__law_bits_c1 (value') (count') x))) fun v255 => .ok (v255)

def F__law_all_bits_b1 (bits_330 : (List Int)) (it333 : Int) : Rx ((List Int)) :=
  Rx.bind (F__law_bits it333 8) fun v334 => grd ((bits_330 : (List Int)).length + (v334 : (List Int)).length ≤ 1000000) <| .ok ((bits_330) ++ (v334))

def F__law_all_bits_b2 (bits_361 : (List Int)) (it374 : Int) : Rx (Lp Unit (List Int)) :=
  grd (-((bits_361 : (List Int)).length : Int) ≤ (((((bits_361) : (List Int)).length : Int) - 1) - it374) ∧ (((((bits_361) : (List Int)).length : Int) - 1) - it374) < ((bits_361 : (List Int)).length : Int)) <| (if ((itD (bits_361) ((((((bits_361) : (List Int)).length : Int) - 1) - it374))) : Int) = 1 then .ok (.rt (cutL (bits_361) none (some ((((((bits_361) : (List Int)).length : Int) - 1) - it374))))) else .ok (.go ()))

def F__law_all_bits_r2 (bits_362 : (List Int)) : Rx (List Int) :=
  .ok (bits_362)

def F__law_all_bits_r1 (bits_360 : (List Int)) : Rx (List Int) :=
  Rx.bind (forR (rng (0) (Int.toNat (8))) () (fun s x => F__law_all_bits_b2 (bits_360)  x)) fun l => l.aft Rx.ok fun s => F__law_all_bits_r2 (bits_360) 

def F__law_all_bits (octets' : (List Int)) : Rx (List Int) :=
  Rx.bind (forS (octets') (([] : (List Int))) (fun s x => F__law_all_bits_b1  s x)) fun s => F__law_all_bits_r1  s

def F__law_cell (script' : (List Int)) (k' : Int) : Rx Int :=
  (if k' < (((script') : (List Int)).length : Int) then grd (-((script' : (List Int)).length : Int) ≤ k' ∧ k' < ((script' : (List Int)).length : Int)) <| .ok ((itD (script') (k'))) else .ok (0))

def F__law_number_c1 (bits_394 : (List Int)) (it423 : Int) : Rx Int :=
  grd (-((bits_394 : (List Int)).length : Int) ≤ it423 ∧ it423 < ((bits_394 : (List Int)).length : Int)) <| grd ((0 : Int) ≤ (((((bits_394) : (List Int)).length : Int) - 1) - it423) ∧ ((((((bits_394) : (List Int)).length : Int) - 1) - it423) : Int) ≤ 4096 ∧ -(2 ^ 4096) < ((itD (bits_394) (it423)) : Int) ∧ ((itD (bits_394) (it423)) : Int) < 2 ^ 4096) <| .ok (((itD (bits_394) (it423)) * 2 ^ Int.toNat ((((((bits_394) : (List Int)).length : Int) - 1) - it423))))

def F__law_number (bits' : (List Int)) : Rx Int :=
  grd (-(2 ^ 62) ≤ ((((bits') : (List Int)).length : Int) : Int) ∧ ((((bits') : (List Int)).length : Int) : Int) < 2 ^ 62) <| Rx.bind (mapA (rng (0) (Int.toNat ((((bits') : (List Int)).length : Int)))) [] (fun x => noEr (F__law_number_c1 (bits') x))) fun v395 => .ok ((List.sum (v395)))

def F__law_code_b1 (bits_445 : (List Int)) (it457 : Int) : Rx (Lp Unit (PyData × Int)) :=
  grd (-((bits_445 : (List Int)).length : Int) ≤ it457 ∧ it457 < ((bits_445 : (List Int)).length : Int)) <| (if ((itD (bits_445) (it457)) : Int) = 1 then (if (((bits_445) : (List Int)).length : Int) < ((2 * it457) + 1) then .ok (.rt ((((encT2 PyData.str PyData.int) ((("refused" : Str), 1))), 0))) else Rx.bind (F__law_number (cutL (bits_445) (some (it457)) (some (((2 * it457) + 1))))) fun v495 => .ok (.rt (((PyData.int ((v495 - 1))), ((2 * it457) + 1))))) else .ok (.go ()))

def F__law_code_r1 (bits_446 : (List Int)) : Rx (PyData × Int) :=
  (if 33 ≤ (((bits_446) : (List Int)).length : Int) then .ok ((((encT2 PyData.str PyData.int) ((("refused" : Str), 2))), 0)) else .ok ((((encT2 PyData.str PyData.int) ((("refused" : Str), 1))), 0)))

def F__law_code (bits' : (List Int)) : Rx (PyData × Int) :=
  grd (-(2 ^ 62) ≤ ((if (((bits') : (List Int)).length : Int) < 33 then (((bits') : (List Int)).length : Int) else 33) : Int) ∧ ((if (((bits') : (List Int)).length : Int) < 33 then (((bits') : (List Int)).length : Int) else 33) : Int) < 2 ^ 62) <| Rx.bind (forR (rng (0) (Int.toNat ((if (((bits') : (List Int)).length : Int) < 33 then (((bits') : (List Int)).length : Int) else 33)))) () (fun s x => F__law_code_b1 (bits')  x)) fun l => l.aft Rx.ok fun s => F__law_code_r1 (bits') 

def F__law_due (bits' : (List Int)) (kind' : Int) (count' : Int) : Rx (PyData × Int) :=
  (if (kind' : Int) = 0 then (if (((bits') : (List Int)).length : Int) < count' then .ok ((((encT2 PyData.str PyData.int) ((("refused" : Str), 1))), 0)) else Rx.bind (F__law_number (cutL (bits') none (some (count')))) fun v603 => .ok (((PyData.int (v603)), count'))) else Rx.bind (F__law_code (bits')) fun v620 => (if (kind' : Int) = 1 then .ok (v620) else (if (dTup (v620.1)) = true then .ok (v620) else grd ((cI).ok (v620.1) = true) <| (if ((PySem.Builtin.bitAnd (((cI).dec (v620.1))) (1)) : Int) = 1 then .ok (((PyData.int (((((cI).dec (v620.1)) + 1) / 2))), v620.2)) else .ok (((PyData.int (((-((cI).dec (v620.1))) / 2))), v620.2))))))

def F_BitReader__look_b1 (value_695 : Int) (it698 : Int) : Rx (Int) :=
  grd ((0 : Int) ≤ 8 ∧ (8 : Int) ≤ 4096 ∧ -(2 ^ 4096) < (value_695 : Int) ∧ (value_695 : Int) < 2 ^ 4096) <| bnd ((PySem.Builtin.bitOr ((value_695 * 2 ^ Int.toNat (8))) (it698))) fun value_700 => .ok (value_700)

def F_BitReader__look_r1 (count_678 : Int) (end_679 : Int) (value_706 : Int) : Rx Int :=
  grd ((0 : Int) ≤ (PySem.Builtin.bitAnd ((-end_679)) (7))) <| grd ((0 : Int) ≤ count_678 ∧ (count_678 : Int) ≤ 4096 ∧ -(2 ^ 4096) < (1 : Int) ∧ (1 : Int) < 2 ^ 4096) <| .ok ((PySem.Builtin.bitAnd ((value_706 / 2 ^ Int.toNat ((PySem.Builtin.bitAnd ((-end_679)) (7))))) (((1 * 2 ^ Int.toNat (count_678)) - 1))))

def F_BitReader__look (self' : St_BitReader) (place' : Int) (count' : Int) : Rx Int :=
  bnd ((place' + count')) fun end_667 => (if self'.stop < end_667 then .er 2 else Rx.bind (forS (cutL (self'.octs) (some ((place' / 8))) (some (((end_667 + 7) / 8)))) (0) (fun s x => F_BitReader__look_b1  s x)) fun s => F_BitReader__look_r1 (count') (end_667) s)

def F_BitReader__zeros_r1 (zeros_728 : Int) : Rx Int :=
  .ok (zeros_728)

def F_BitReader__zeros_b1 (self_709 : St_BitReader) (zeros_718 : Int) : Rx (Lp (Int) Int) :=
  Rx.bind (F_BitReader__look (self_709) ((self_709.place + zeros_718)) 1) fun v721 => (if (v721 : Int) = 0 then bnd ((zeros_718 + 1)) fun zeros_726 => (if 32 < zeros_726 then .er 3 else .ok (.go (zeros_726))) else .ok (.bk (zeros_718)))

def F_BitReader__zeros (self' : St_BitReader) : Rx Int :=
  Rx.bind ((whileR 1000000 (0) (fun s => F_BitReader__zeros_b1 (self') s) : Rx (Lp (Int) Int))) fun l => l.aft Rx.ok fun s => F_BitReader__zeros_r1  s

def F_BitReader__take (self' : St_BitReader) (count' : Int) : Rx (Int × St_BitReader) :=
  Rx.bind (F_BitReader__look (self') self'.place count') fun v729 => bnd ((self'.place + count')) fun _place_734 => .ok (v729, (⟨self'.octs, _place_734, self'.stop⟩ : St_BitReader))

def F_BitReader_get_ue (self' : St_BitReader) : Rx (Int × St_BitReader) :=
  Rx.bind (F_BitReader__zeros (self')) fun v742 => Rx.bind (F_BitReader__take (self') (((2 * v742) + 1))) fun v748 => .ok ((v748.1 - 1), v748.2)

def F_BitReader_get_se (self' : St_BitReader) : Rx (Int × St_BitReader) :=
  Rx.bind (F_BitReader_get_ue (self')) fun v758 => .ok ((if ((((PySem.Builtin.bitAnd (v758.1) (1))) != 0) = true) then ((v758.1 + 1) / 2) else (-(v758.1 / 2))), v758.2)

def F_BitReader_get (self' : St_BitReader) (count' : Int) : Rx (Int × St_BitReader) :=
  (if 0 ≤ count' then (if count' ≤ 64 then Rx.bind (F_BitReader__take (self') count') fun v773 => .ok (v773.1, v773.2) else .er 1) else .er 1)

def F__law_read (reader' : St_BitReader) (kind' : Int) (count' : Int) : Rx (PyData × St_BitReader) :=
  (if (kind' : Int) = 0 then tryR (F_BitReader_get (reader') count') [2, 3] (fun v784 => .ok ((PyData.int (v784.1)), v784.2)) (fun e => (if e = 2 then .ok (((encT2 PyData.str PyData.int) ((("refused" : Str), 1))), reader') else .ok (((encT2 PyData.str PyData.int) ((("refused" : Str), 2))), reader'))) else (if (kind' : Int) = 1 then tryR (F_BitReader_get_ue (reader')) [2, 3] (fun v833 => .ok ((PyData.int (v833.1)), v833.2)) (fun e => (if e = 2 then .ok (((encT2 PyData.str PyData.int) ((("refused" : Str), 1))), reader') else .ok (((encT2 PyData.str PyData.int) ((("refused" : Str), 2))), reader'))) else tryR (F_BitReader_get_se (reader')) [2, 3] (fun v881 => .ok ((PyData.int (v881.1)), v881.2)) (fun e => (if e = 2 then .ok (((encT2 PyData.str PyData.int) ((("refused" : Str), 1))), reader') else .ok (((encT2 PyData.str PyData.int) ((("refused" : Str), 2))), reader')))))

def F_BitReader_left (self' : St_BitReader) : Rx Int :=
  .ok ((self'.stop - self'.place))

def F_law_b1 (octets_1004 : (List Int)) (it1007 : Int) : Rx ((List Int)) :=
  grd (-((octets_1004 : (List Int)).length : Int) ≤ it1007 ∧ it1007 < ((octets_1004 : (List Int)).length : Int)) <| grd (-((octets_1004 : (List Int)).length : Int) ≤ it1007 ∧ it1007 < ((octets_1004 : (List Int)).length : Int)) <| bnd (setL (octets_1004) (it1007) ((255 - (itD (octets_1004) (it1007))))) fun y1016 => .ok (y1016)

def F_law_k4 (reader_1159 : St_BitReader) (bits_1160 : (List Int)) (count_1161 : Int) (kind_1162 : Int) : Rx (Lp (St_BitReader × (List Int)) Bool) :=
  Rx.bind (F__law_due (bits_1160) kind_1162 count_1161) fun v1181 => Rx.bind (F__law_read (reader_1159) kind_1162 count_1161) fun v1199 => (if (dBool (v1199.1)) = true then .ok (.rt (false)) else grd (SeqAt.shaped (v1199.1) = true ∧ SeqAt.shaped (v1181.1) = true) <| (if (!PyData.eqv v1199.1 v1181.1) = true then .ok (.rt (false)) else Rx.bind (noEr (F_BitReader_left (v1199.2))) fun v1226 => (if (v1226 : Int) = (((cutL (bits_1160) (some (v1181.2)) none) : (List Int)).length : Int) then .ok (.go ((v1199.2), (cutL (bits_1160) (some (v1181.2)) none))) else .ok (.rt (false)))))

def F_law_k3 (reader_1124 : St_BitReader) (bits_1125 : (List Int)) (draws_1126 : (List Int)) (kind_1127 : Int) (count_1128 : Int) : Rx (Lp (St_BitReader × (List Int)) Bool) :=
  Rx.bind ((grd (-((draws_1126 : (List Int)).length : Int) ≤ 0 ∧ 0 < ((draws_1126 : (List Int)).length : Int)) <| (if ((itD (draws_1126) (0)) : Int) = 1 then grd (-((draws_1126 : (List Int)).length : Int) ≤ 2 ∧ 2 < ((draws_1126 : (List Int)).length : Int)) <| (if 5 < (itD (draws_1126) (2)) then .ok (0) else .ok (kind_1127)) else .ok (kind_1127)) : Rx (Int))) fun s => F_law_k4 (reader_1124) (bits_1125) (count_1128) s

def F_law_b2 (reader_1097 : St_BitReader) (bits_1098 : (List Int)) (it1101 : Int) : Rx (Lp (St_BitReader × (List Int)) Bool) :=
  Rx.bind (F__law_draws it1101 ([4, 65, 12])) fun v1111 => grd (-((v1111 : (List Int)).length : Int) ≤ 0 ∧ 0 < ((v1111 : (List Int)).length : Int)) <| bnd ((if 2 < (itD (v1111) (0)) then 2 else (itD (v1111) (0)))) fun kind_1121 => grd (-((v1111 : (List Int)).length : Int) ≤ 1 ∧ 1 < ((v1111 : (List Int)).length : Int)) <| bnd ((itD (v1111) (1))) fun count_1123 => Rx.bind ((grd (-((v1111 : (List Int)).length : Int) ≤ 0 ∧ 0 < ((v1111 : (List Int)).length : Int)) <| (if ((itD (v1111) (0)) : Int) = 1 then grd (-((v1111 : (List Int)).length : Int) ≤ 2 ∧ 2 < ((v1111 : (List Int)).length : Int)) <| bnd ((itD (v1111) (2))) fun count_1135 => .ok (count_1135) else .ok (count_1123)) : Rx (Int))) fun s => F_law_k3 (reader_1097) (bits_1098) (v1111) (kind_1121) s

def F_law_r2 (reader_1253 : St_BitReader) (bits_1254 : (List Int)) : Rx Bool :=
  Rx.bind (noEr (F_BitReader_left (reader_1253))) fun v1255 => .ok (decide ((v1255 : Int) = (((bits_1254) : (List Int)).length : Int)))

def F_law_r1 (script_984 : (List Int)) (reader_985 : St_BitReader) (bits_986 : (List Int)) (octets_1030 : (List Int)) : Rx Bool :=
  grd ((octets_1030).length ≤ 1000000) <| bnd ((octets_1030) ++ [7]) fun y1038 => Rx.bind (forR (cutL (script_984) (some (2)) none) ((reader_985), (bits_986)) (fun s x => F_law_b2  (s.1) (s.2) x)) fun l => l.aft Rx.ok fun s => F_law_r2  (s.1) (s.2)

def F_law (script' : (List Int)) : Rx Bool :=
  Rx.bind (F__law_cell (script') 0) fun v929 => Rx.bind (F__law_cell (script') 1) fun v930 => Rx.bind (F__law_octets v929 v930) fun v931 => Rx.bind (F_BitReader___init__ (v931)) fun v961 => (if (v931 : (List Int)) = v931 then Rx.bind (F__law_all_bits (v931)) fun v973 => grd (-(2 ^ 62) ≤ ((((v931) : (List Int)).length : Int) : Int) ∧ ((((v931) : (List Int)).length : Int) : Int) < 2 ^ 62) <| Rx.bind (forS (rng (0) (Int.toNat ((((v931) : (List Int)).length : Int)))) (v931) (fun s x => F_law_b1  s x)) fun s => F_law_r1 (script') (v961) (v973) s else .ok (false))
theorem cell_gv (s : List Int) (k : Int) (h : 0 ≤ k) : Gv (F__law_cell s k) (fun _ => True) := by
  unfold F__law_cell
  exact Gv.ite (fun c => Gv.grd ⟨by omega, c⟩ (.ok trivial)) fun _ => .ok trivial
def Inb : List Int → List Int → Prop
  | [], [] => True
  | v :: vs, l :: ls => 0 ≤ v ∧ v < l ∧ Inb vs ls
  | _, _ => False
theorem Inb.snoc : ∀ {vs ls : List Int} {y l : Int}, Inb vs ls → 0 ≤ y → y < l → Inb (vs ++ [y]) (ls ++ [l])
  | [], [], _, _, _, h0, h1 => ⟨h0, h1, trivial⟩
  | _ :: _, _ :: _, _, _, h, h0, h1 => ⟨h.1, h.2.1, Inb.snoc h.2.2 h0 h1⟩
  | [], _ :: _, _, _, h, _, _ => h.elim
  | _ :: _, [], _, _, h, _, _ => h.elim
theorem Inb.len : ∀ {vs ls : List Int}, Inb vs ls → vs.length = ls.length
  | [], [], _ => rfl
  | _ :: _, _ :: _, h => congrArg Nat.succ (Inb.len h.2.2)
  | [], _ :: _, h => h.elim
  | _ :: _, [], h => h.elim
theorem Inb.cons {v ls : List Int} {l : Int} (h : Inb v (l :: ls)) : ∃ a r, v = a :: r ∧ 0 ≤ a ∧ a < l ∧ Inb r ls := by
  cases v with
  | nil => exact h.elim
  | cons a r => exact ⟨a, r, rfl, h.1, h.2.1, h.2.2⟩
theorem Inb.nil {v : List Int} (h : Inb v []) : v = [] := by
  cases v with
  | nil => rfl
  | cons a r => exact h.elim
theorem draws_gv (cell : Int) (limits : List Int) (hl : ∀ l ∈ limits, 0 < l ∧ l < 18446744073709551616) (hn : limits.length ≤ 1000000) : Gv (F__law_draws cell limits) (fun v => Inb v limits) := by
  unfold F__law_draws
  refine Gv.bnd fun rest _ => Gv.bnd fun state _ => Gv.bnd fun free _ => Gv.bind (Gv.forS (P := fun i s => Inb s.1 (limits.take i)) ?_ fun i x s hx p => ?_) fun s p => .ok ?_
  · rw [List.take_zero]
    trivial
  · have hb0 := hl x (List.mem_of_getElem? hx)
    have hb : 0 < x ∧ x < 2 ^ 128 := ⟨hb0.1, by omega⟩
    have hlen := p.len
    have hi := get_len hx
    rw [List.length_take] at hlen
    have nx : ∀ y : Int, 0 ≤ y → y < x → Inb (s.1 ++ [y]) (limits.take (i + 1)) := fun y h0 h1 => by
      rw [take_succ_get hx]
      exact p.snoc h0 h1
    unfold F__law_draws_b1
    refine Gv.ite (fun _ => Gv.ite (fun _ => Gv.grd hb.1 (Gv.grd (by omega) (Gv.bnd fun y hy => Gv.grd ⟨hb.1, hb.2⟩ (Gv.bnd fun _ _ => .ok ?_)))) fun _ => Gv.bnd fun _ _ => Gv.bnd fun _ _ => Gv.grd hb.1 (Gv.grd (by omega) (Gv.bnd fun y hy => .ok ?_))) fun _ => Gv.bnd fun _ _ => Gv.bnd fun _ _ => Gv.grd hb.1 (Gv.grd (by omega) (Gv.bnd fun y hy => .ok ?_))
    · subst hy
      exact nx _ (Int.emod_nonneg _ (by omega)) (Int.emod_lt_of_pos _ hb.1)
    · subst hy
      exact nx _ (Int.emod_nonneg _ (by omega)) (Int.emod_lt_of_pos _ hb.1)
    · subst hy
      exact nx _ (Int.emod_nonneg _ (by omega)) (Int.emod_lt_of_pos _ hb.1)
  · rw [List.take_length] at p
    exact p
theorem ixg {xs : List Int} {k : Int} {n : Nat} (e : xs.length = n) (h : -(n : Int) ≤ k ∧ k < n) : -(xs.length : Int) ≤ k ∧ k < xs.length := by
  rw [e]
  exact h
theorem itD_lit {xs : List Int} {a k : Int} (n : Nat) (e : k = (n : Int)) (h : xs[n]? = some a) : itD xs k = a := by
  subst e
  have hl := get_len h
  unfold itD atI ixN
  rw [if_pos (by omega), if_pos (by omega)]
  show (xs[n]?).getD default = a
  rw [h]
  rfl
abbrev obE : Nat := 2
abbrev boE : Nat := 3
structure St_BitWriter where
  full : (List Int)
  rest : Int
  bits : Int
deriving DecidableEq
namespace Pb
theorem len_rep1 {α : Type} (a : α) (k : Int) : (repL [a] k).length = k.toNat := by
  unfold repL
  simp
theorem mem_rep1 {α : Type} {a x : α} {k : Int} (h : x ∈ repL [a] k) : x = a := by
  unfold repL at h
  simp at h
  exact h.2
theorem itD_nat {α : Type} [Inhabited α] {e : List α} {k : Nat} {x : α} (h : e[k]? = some x) : itD e (k : Int) = x := by
  unfold itD atI ixN
  have hk := (List.getElem?_eq_some_iff.mp h).1
  rw [if_pos (by omega), if_pos (by omega)]
  simp [h]
theorem itD_mem {α : Type} [Inhabited α] {e : List α} {k : Int} (h : -(e.length : Int) ≤ k ∧ k < e.length) : itD e k ∈ e := by
  obtain ⟨j, hj, hl⟩ := ixN_some h
  unfold itD atI
  rw [hj]
  show (e[j]?).getD default ∈ e
  rw [List.getElem?_eq_getElem hl]
  exact List.getElem_mem hl
def num (xs : List Int) : Int := xs.foldl (fun a x => a * 256 + x) 0
theorem num_snoc (xs : List Int) (x : Int) : num (xs ++ [x]) = num xs * 256 + x := by
  unfold num
  rw [List.foldl_append] <;> rfl
theorem snocInd {α : Type} {motive : List α → Prop} (nil : motive []) (snoc : ∀ xs x, motive xs → motive (xs ++ [x])) (xs : List α) : motive xs := by
  have : ∀ l : List α, motive l.reverse := by
    intro l
    induction l with
    | nil => exact nil
    | cons x r ih =>
      rw [List.reverse_cons]
      exact snoc _ _ ih
  have h := this xs.reverse
  rwa [List.reverse_reverse] at h
theorem last_in {xs : List Int} (h : xs ≠ []) : -(xs.length : Int) ≤ -1 ∧ -1 < (xs.length : Int) := by
  have := List.length_pos_iff.mpr h
  omega
theorem itD_last {xs : List Int} (h : xs ≠ []) : itD xs (-1) = xs.getLast h := by
  unfold itD atI ixN
  have := List.length_pos_iff.mpr h
  rw [if_neg (by omega), if_pos (by omega)]
  have e : (-1 + (xs.length : Int)).toNat = xs.length - 1 := by omega
  show (xs[(-1 + (xs.length : Int)).toNat]?).getD default = _
  rw [e, ← List.getLast?_eq_getElem?, List.getLast?_eq_some_getLast h] <;> rfl
theorem itD_end {e : List Int} {a : Int} : itD (e ++ [a]) (-1) = a := by
  rw [itD_last (by simp), List.getLast_append] <;> simp
def digs (n : Int) (k : Nat) : List Int := (List.range k).map fun j => n / 2 ^ (8 * (k - 1 - j)) % 256
theorem digs_snoc (n x : Int) (k : Nat) (hx : 0 ≤ x ∧ x ≤ 255) : digs (n * 256 + x) (k + 1) = digs n k ++ [x] := by
  unfold digs
  rw [List.range_succ, List.map_append]
  congr 1
  · apply List.map_congr_left
    intro j hj
    have hj := List.mem_range.mp hj
    show (n * 256 + x) / 2 ^ (8 * (k + 1 - 1 - j)) % 256 = n / 2 ^ (8 * (k - 1 - j)) % 256
    rw [show 8 * (k + 1 - 1 - j) = 8 + 8 * (k - 1 - j) from by omega, Int.pow_add, ← Int.ediv_ediv_of_nonneg (by decide)]
    rw [show (n * 256 + x) / 2 ^ 8 = n from by omega]
  · show [(n * 256 + x) / 2 ^ (8 * (k + 1 - 1 - k)) % 256] = [x]
    rw [show 8 * (k + 1 - 1 - k) = 0 from by omega]
    congr 1
    simp
    omega
theorem digs_num : ∀ {xs : List Int}, (∀ x ∈ xs, 0 ≤ x ∧ x ≤ 255) → digs (num xs) xs.length = xs := by
  intro xs
  refine snocInd (motive := fun xs => (∀ x ∈ xs, 0 ≤ x ∧ x ≤ 255) → digs (num xs) xs.length = xs) (fun _ => rfl) (fun ys y ih h => ?_) xs
  rw [num_snoc, List.length_append]
  show digs _ (ys.length + 1) = _
  rw [digs_snoc _ _ _ (h y (by simp)), ih fun x hx => h x (by simp [hx])]
theorem mem_cutL {α : Type} {xs : List α} {lo hi : Option Int} {x : α} (h : x ∈ cutL xs lo hi) : x ∈ xs := by
  unfold cutL at h
  exact List.mem_of_mem_drop (List.mem_of_mem_take h)
abbrev BwS := St_BitWriter
abbrev BrS := St_BitReader
structure BwG (w : BwS) : Prop where
  bits : 0 ≤ w.bits ∧ w.bits ≤ 7
  rest : 0 ≤ w.rest ∧ w.rest < 2 ^ w.bits.toNat
structure BrG (s : BrS) : Prop where
  oct : ∀ x ∈ s.octs, 0 ≤ x ∧ x ≤ 255
  place : 0 ≤ s.place
  stop : s.stop ≤ 8 * (s.octs.length : Int)
def bwAdd (w : BwS) (v c : Int) : BwS :=
  ⟨w.full ++ digs ((w.rest * 2 ^ c.toNat + v) / 2 ^ ((w.bits + c) % 8).toNat) ((w.bits + c) / 8).toNat, (w.rest * 2 ^ c.toNat + v) % 2 ^ ((w.bits + c) % 8).toNat, (w.bits + c) % 8⟩
def bwUe (w : BwS) (v : Int) : BwS := bwAdd w (v + 1) (2 * ((PySem.Builtin.Int.intBits (v + 1) : Nat) : Int) - 1)
def seCode (v : Int) : Int := if 0 < v then 2 * v - 1 else -2 * v
def seBack (c : Int) : Int := if (PySem.Builtin.bitAnd c 1 != 0) = true then (c + 1) / 2 else -(c / 2)
theorem pow7 {b : Int} (h : 0 ≤ b ∧ b ≤ 7) : (2 : Int) ^ b.toNat ≤ 128 := by
  have : b.toNat ≤ 7 := by omega
  have h2 := Nat.pow_le_pow_right (n := 2) (by decide) this
  exact_mod_cast h2
theorem small_rest {w : BwS} (h : BwG w) : 0 ≤ w.rest ∧ w.rest < 128 := by
  have a := pow7 h.bits
  have b := h.rest
  omega
theorem pow_pos2 (n : Nat) : (0 : Int) < 2 ^ n := by
  have : (0 : Nat) < 2 ^ n := Nat.pow_pos (by decide)
  exact_mod_cast this
theorem or_lowN {v o : Int} {n : Nat} (h : 0 ≤ v) (h0 : 0 ≤ o) (h1 : o < 2 ^ n) : PySem.Builtin.bitOr (v * 2 ^ n) o = v * 2 ^ n + o := by
  obtain ⟨a, rfl⟩ := Int.eq_ofNat_of_zero_le h
  obtain ⟨b, rfl⟩ := Int.eq_ofNat_of_zero_le h0
  have hb : b < 2 ^ n := by exact_mod_cast h1
  have z : (a * 2 ^ n) &&& b = 0 := by
    apply Nat.eq_of_testBit_eq
    intro i
    rw [Nat.testBit_and, Nat.zero_testBit, Nat.testBit_mul_two_pow]
    by_cases hi : n ≤ i
    · have e : b.testBit i = false := Nat.testBit_lt_two_pow (Nat.lt_of_lt_of_le hb (Nat.pow_le_pow_right (by decide) hi))
      rw [e, Bool.and_false]
    · simp [hi]
  have c1 : ((a : Int) * 2 ^ n) = ((a * 2 ^ n : Nat) : Int) := by
    push_cast
    rfl
  rw [c1, PyProof.Rows.bitOr_and, PyProof.Rows.bitAnd_pp (by omega) (by omega)]
  rw [show (((a * 2 ^ n : Nat) : Int)).toNat = a * 2 ^ n from rfl, show ((b : Int)).toNat = b from rfl, z]
  exact Int.sub_zero _
structure AddR (T L : Int) (full0 full : List Int) (rest left : Int) : Prop where
  nn : 0 ≤ left
  ex : ∃ j : Nat, left + 8 * (j : Int) = L ∧ full = full0 ++ digs (T / 2 ^ left.toNat) j
  rest : rest = T % 2 ^ left.toNat
theorem mask_pow (x : Int) (n : Nat) : PySem.Builtin.bitAnd x (1 * 2 ^ n - 1) = x % 2 ^ n := by
  rw [Int.one_mul]
  exact PySem.W.kbt_mask x n
theorem mod_div (T : Int) {p : Int} (hp : 0 < p) : T % (p * 2 ^ 8) / p = T / p % 256 := by
  have h1 := Int.emod_def T (p * 2 ^ 8)
  rw [h1, show p * 2 ^ 8 * (T / (p * 2 ^ 8)) = p * (256 * (T / (p * 2 ^ 8))) from by rw [Int.mul_assoc]; rfl]
  rw [Int.sub_mul_ediv_left _ _ (by omega), Int.emod_def, ← Int.ediv_ediv_of_nonneg (Int.le_of_lt hp)]
  rfl
theorem mod_mod_mul (T p q : Int) : T % (p * q) % p = T % p := Int.emod_emod_of_dvd T (Int.dvd_mul_right p q)
theorem digs_len (n : Int) (k : Nat) : (digs n k).length = k := by
  unfold digs
  rw [List.length_map, List.length_range]
theorem AddR.len {T L : Int} {full0 full : List Int} {rest left : Int} (h : AddR T L full0 full rest left) : 8 * (full.length : Int) ≤ 8 * (full0.length : Int) + L := by
  obtain ⟨j, e1, e2⟩ := h.ex
  have := h.nn
  rw [e2, List.length_append, digs_len]
  omega
theorem AddR.le {T L : Int} {full0 full : List Int} {rest left : Int} (h : AddR T L full0 full rest left) : left ≤ L := by
  obtain ⟨j, e1, e2⟩ := h.ex
  omega
theorem total_in {w : BwS} {v c : Int} (h : BwG w) (hc : 0 ≤ c) (hv : 0 ≤ v ∧ v < 2 ^ c.toNat) : 0 ≤ w.rest * 2 ^ c.toNat + v ∧ w.rest * 2 ^ c.toNat + v < 2 ^ (w.bits + c).toNat := by
  have hb := h.bits
  have hr := h.rest
  have p := pow_pos2 c.toNat
  have a : 0 ≤ w.rest * 2 ^ c.toNat := Int.mul_nonneg hr.1 (Int.le_of_lt p)
  have b : (w.rest + 1) * 2 ^ c.toNat ≤ 2 ^ w.bits.toNat * 2 ^ c.toNat := Int.mul_le_mul_of_nonneg_right (by omega) (Int.le_of_lt p)
  rw [← Int.pow_add, show w.bits.toNat + c.toNat = (w.bits + c).toNat from by omega, Int.add_mul, Int.one_mul] at b
  exact ⟨by omega, by omega⟩
theorem add_start {w : BwS} {v c : Int} (h : BwG w) (hc : 0 ≤ c) (hv : 0 ≤ v ∧ v < 2 ^ c.toNat) : AddR (w.rest * 2 ^ c.toNat + v) (w.bits + c) w.full w.full (PySem.Builtin.bitOr (w.rest * 2 ^ c.toNat) v) (w.bits + c) := by
  have t := total_in h hc hv
  have hb := h.bits
  refine ⟨by omega, ⟨0, by omega, by rw [show digs _ 0 = [] from rfl, List.append_nil]⟩, ?_⟩
  rw [or_lowN h.rest.1 hv.1 hv.2, Int.emod_eq_of_lt t.1 t.2]
theorem add_turn {T L : Int} {full0 full : List Int} {rest left : Int} (h : AddR T L full0 full rest left) (h8 : 8 ≤ left) :
    AddR T L full0 (full ++ [rest / 2 ^ (left - 8).toNat]) (PySem.Builtin.bitAnd rest (1 * 2 ^ (left - 8).toNat - 1)) (left - 8) := by
  obtain ⟨j, e1, e2⟩ := h.ex
  have e3 := h.rest
  obtain ⟨k, hk⟩ := Int.eq_ofNat_of_zero_le (show 0 ≤ left - 8 by omega)
  have hl : left.toNat = k + 8 := by omega
  have hk2 : (left - 8).toNat = k := by omega
  rw [hl] at e2 e3
  rw [hk2]
  have hp := pow_pos2 k
  have hd : rest / 2 ^ k = T / 2 ^ k % 256 := by
    rw [e3, Int.pow_add]
    exact mod_div T hp
  have hm : rest % 2 ^ k = T % 2 ^ k := by
    rw [e3, Int.pow_add]
    exact mod_mod_mul _ _ _
  refine ⟨by omega, ⟨j + 1, by omega, ?_⟩, ?_⟩
  · rw [hk2, e2, hd, List.append_assoc]
    congr 1
    have hq : T / 2 ^ k = T / 2 ^ (k + 8) * 256 + T / 2 ^ k % 256 := by
      rw [Int.pow_add, ← Int.ediv_ediv_of_nonneg (Int.le_of_lt hp)]
      show _ = T / 2 ^ k / 256 * 256 + _
      omega
    rw [hq, digs_snoc _ _ _ (by omega)]
    congr 1
    congr 1
    omega
  · rw [mask_pow, hm, hk2]
theorem add_end {w : BwS} {v c : Int} {full : List Int} {rest left : Int} (h : AddR (w.rest * 2 ^ c.toNat + v) (w.bits + c) w.full full rest left) (h8 : left < 8) : (⟨full, rest, left⟩ : BwS) = bwAdd w v c := by
  obtain ⟨j, e1, e2⟩ := h.ex
  have e3 := h.rest
  have hl := h.nn
  have a : (w.bits + c) % 8 = left := by omega
  have b : ((w.bits + c) / 8).toNat = j := by omega
  unfold bwAdd
  rw [a, b, e2, e3]
theorem ib_spec {n : Int} (h : 0 < n) : ∃ k : Nat, PySem.Builtin.Int.intBits n = k + 1 ∧ (2 : Int) ^ k ≤ n ∧ n < 2 ^ (k + 1) := by
  obtain ⟨m, rfl⟩ := Int.eq_ofNat_of_zero_le (Int.le_of_lt h)
  have hm : m ≠ 0 := by omega
  refine ⟨m.log2, ?_, ?_, ?_⟩
  · unfold PySem.Builtin.Int.intBits
    rw [if_neg (by simp; omega)]
    rfl
  · exact_mod_cast Nat.log2_self_le hm
  · exact_mod_cast Nat.lt_log2_self
theorem pow_lt_of {k n : Nat} (h : (2 : Int) ^ k < 2 ^ n) : k < n := by
  have h2 : 2 ^ k < 2 ^ n := by exact_mod_cast h
  exact (Nat.pow_lt_pow_iff_right (by decide)).mp h2
theorem pow_mono {k n : Nat} (h : k ≤ n) : (2 : Int) ^ k ≤ 2 ^ n := by
  have := Nat.pow_le_pow_right (n := 2) (by decide) h
  exact_mod_cast this
theorem ue_in {v : Int} (h0 : 0 ≤ v) (h1 : v ≤ 4294967296) : (0 ≤ 2 * ((PySem.Builtin.Int.intBits (v + 1) : Nat) : Int) - 1 ∧ 2 * ((PySem.Builtin.Int.intBits (v + 1) : Nat) : Int) - 1 ≤ 130) ∧
    (0 ≤ v + 1 ∧ v + 1 < 2 ^ (2 * ((PySem.Builtin.Int.intBits (v + 1) : Nat) : Int) - 1).toNat) := by
  obtain ⟨k, e, lo, hi⟩ := ib_spec (n := v + 1) (by omega)
  have hk : k < 33 := pow_lt_of (Int.lt_of_le_of_lt lo (by show v + 1 < 8589934592; omega))
  rw [e]
  refine ⟨by omega, by omega, ?_⟩
  exact Int.lt_of_lt_of_le hi (pow_mono (by omega))
def lastBit (o : Int) : Int :=
  if o % 2 = 1 then 1 else if o % 4 = 2 then 2 else if o % 8 = 4 then 3 else if o % 16 = 8 then 4 else if o % 32 = 16 then 5 else if o % 64 = 32 then 6 else if o % 128 = 64 then 7 else 8
theorem eight {b : Int} (h1 : 1 ≤ b) (h8 : b ≤ 8) : b = 1 ∨ b = 2 ∨ b = 3 ∨ b = 4 ∨ b = 5 ∨ b = 6 ∨ b = 7 ∨ b = 8 := by omega
theorem bit_mod (x : Int) : PySem.Builtin.bitAnd x 1 = x % 2 := PySem.W.kbt_mask x 1
theorem lb_turn {o b : Int} (h : 0 < o ∧ o ≤ 255) (h1 : 1 ≤ b) (h8 : b ≤ 8) (hz : o % 2 ^ (b - 1).toNat = 0) (hc : PySem.Builtin.bitAnd (o / 2 ^ (b - 1).toNat) 1 = 0) : 1 ≤ b + 1 ∧ b + 1 ≤ 8 ∧ o % 2 ^ (b + 1 - 1).toNat = 0 := by
  rw [bit_mod] at hc
  rcases eight h1 h8 with rfl | rfl | rfl | rfl | rfl | rfl | rfl | rfl <;> simp at hz hc ⊢ <;> omega
theorem lb_end {o b : Int} (h : 0 < o ∧ o ≤ 255) (h1 : 1 ≤ b) (h8 : b ≤ 8) (hz : o % 2 ^ (b - 1).toNat = 0) (hc : ¬ PySem.Builtin.bitAnd (o / 2 ^ (b - 1).toNat) 1 = 0) : lastBit o = b := by
  rw [bit_mod] at hc
  unfold lastBit
  rcases eight h1 h8 with rfl | rfl | rfl | rfl | rfl | rfl | rfl | rfl <;> simp at hz hc <;> (repeat' split) <;> omega
theorem last_oct {xs : List Int} (h : xs ≠ []) (hz : ¬ itD xs (-1) = 0) (ho : ∀ x ∈ xs, 0 ≤ x ∧ x ≤ 255) : 0 < itD xs (-1) ∧ itD xs (-1) ≤ 255 := by
  have := ho _ (itD_mem (last_in h))
  omega
def brInit (o : List Int) : BrS := ⟨o, 0, 8 * (o.length : Int) - lastBit (itD o (-1))⟩
def brMove (s : BrS) (c : Int) : BrS := ⟨s.octs, s.place + c, s.stop⟩
def lookB (o : List Int) (p c : Int) : Int := num o / 2 ^ (8 * (o.length : Int) - p - c).toNat % 2 ^ c.toNat
def sliceB (o : List Int) (p c : Int) : List Int := cutL o (some (p / 8)) (some ((p + c + 7) / 8))
structure Zeros (s : BrS) (z : Nat) : Prop where
  most : (z : Int) ≤ 32
  fit : s.place + (z : Int) + 1 ≤ s.stop
  zero : ∀ k : Nat, k < z → lookB s.octs (s.place + (k : Int)) 1 = 0
  one : lookB s.octs (s.place + (z : Int)) 1 = 1
theorem zeros_ne {s : BrS} {z : Nat} {q : Int} (h : Zeros s z) (h0 : 0 ≤ q) (h1 : q ≤ (z : Int)) (hc : lookB s.octs (s.place + q) 1 = 0) : q < (z : Int) := by
  rcases (by omega : q < (z : Int) ∨ q = (z : Int)) with a | a
  · exact a
  · rw [a, h.one] at hc
    exact absurd hc (by decide)
theorem zeros_eq {s : BrS} {z : Nat} {q : Int} (h : Zeros s z) (h0 : 0 ≤ q) (h1 : q ≤ (z : Int)) (hc : ¬ lookB s.octs (s.place + q) 1 = 0) : q = (z : Int) := by
  obtain ⟨k, rfl⟩ := Int.eq_ofNat_of_zero_le h0
  rcases (by omega : k < z ∨ (k : Int) = (z : Int)) with a | a
  · exact absurd (h.zero k a) hc
  · exact a
theorem and7 (x : Int) : PySem.Builtin.bitAnd x 7 = x % 8 := PySem.W.kbt_mask x 3
theorem and7_nn (x : Int) : 0 ≤ PySem.Builtin.bitAnd x 7 := by
  rw [and7]
  omega
theorem num_app (xs ys : List Int) : num (xs ++ ys) = num xs * 256 ^ ys.length + num ys := by
  refine snocInd (motive := fun ys => num (xs ++ ys) = num xs * 256 ^ ys.length + num ys) ?_ (fun zs z ih => ?_) ys
  · rw [List.append_nil]
    show num xs = num xs * 1 + 0
    omega
  · rw [← List.append_assoc, num_snoc, num_snoc, ih, List.length_append]
    show _ = num xs * 256 ^ (zs.length + 1) + _
    rw [Int.pow_succ, ← Int.mul_assoc]
    omega
theorem pow256 (n : Nat) : (256 : Int) ^ n = 2 ^ (8 * n) := by
  rw [Int.pow_mul]
  rfl
theorem num_lt {xs : List Int} (h : ∀ x ∈ xs, 0 ≤ x ∧ x ≤ 255) : 0 ≤ num xs ∧ num xs < 256 ^ xs.length := by
  refine snocInd (motive := fun xs => (∀ x ∈ xs, 0 ≤ x ∧ x ≤ 255) → 0 ≤ num xs ∧ num xs < 256 ^ xs.length) (fun _ => ⟨by decide, by decide⟩) (fun ys y ih h => ?_) xs h
  have i := ih fun x hx => h x (by simp [hx])
  have hy := h y (by simp)
  rw [num_snoc, List.length_append]
  show _ ∧ _ < (256 : Int) ^ (ys.length + 1)
  rw [Int.pow_succ]
  omega
theorem slice_mem {o : List Int} {p c : Int} {x : Int} (h : x ∈ sliceB o p c) : x ∈ o := by
  unfold sliceB at h
  exact mem_cutL h
theorem slice_oct {o : List Int} {p c : Int} {i : Nat} {x : Int} (h : ∀ x ∈ o, 0 ≤ x ∧ x ≤ 255) (hi : (sliceB o p c)[i]? = some x) : 0 ≤ x ∧ x ≤ 255 := h x (slice_mem (List.mem_of_getElem? hi))
theorem num_take {xs : List Int} {i : Nat} {x : Int} (hi : xs[i]? = some x) : num (xs.take i) * 256 + x = num (xs.take (i + 1)) := by
  rw [take_succ_get hi, num_snoc]
theorem slice_split {o : List Int} {p c : Int} (hp : 0 ≤ p) (hc : 0 ≤ c) (h : p + c ≤ 8 * (o.length : Int)) :
    ∃ A C : List Int, o = A ++ sliceB o p c ++ C ∧ (A.length : Int) = p / 8 ∧ (C.length : Int) = o.length - (p + c + 7) / 8 ∧ ((sliceB o p c).length : Int) = (p + c + 7) / 8 - p / 8 := by
  obtain ⟨a, ha⟩ := Int.eq_ofNat_of_zero_le (show 0 ≤ p / 8 by omega)
  obtain ⟨b, hb⟩ := Int.eq_ofNat_of_zero_le (show 0 ≤ (p + c + 7) / 8 by omega)
  have hab : a ≤ b := by omega
  have hbl : b ≤ o.length := by omega
  unfold sliceB cutL
  rw [ha, hb, HT.sIx_nat, HT.sIx_nat, Nat.min_eq_left hbl, Nat.min_eq_left (by omega)]
  refine ⟨o.take a, o.drop b, ?_, ?_, ?_, ?_⟩
  · have e : List.drop b o = List.drop (b - a) (List.drop a o) := by
      rw [List.drop_drop]
      congr 1
      omega
    rw [e, List.append_assoc, List.take_append_drop, List.take_append_drop]
  · rw [List.length_take]
    omega
  · rw [List.length_drop]
    omega
  · rw [List.length_take, List.length_drop]
    omega
theorem slice_small {s : BrS} {p c : Int} (h : BrG s) (hp : 0 ≤ p) (hc : 0 ≤ c ∧ c ≤ 65) (hs : p + c ≤ s.stop) (i : Nat) : 0 ≤ num ((sliceB s.octs p c).take i) ∧ num ((sliceB s.octs p c).take i) < 2 ^ 4096 := by
  have hst := h.stop
  obtain ⟨A, C, e, hA, hC, hS⟩ := slice_split (o := s.octs) hp hc.1 (by omega)
  have hl : ((sliceB s.octs p c).take i).length ≤ 500 := by
    rw [List.length_take]
    omega
  have n := num_lt (xs := (sliceB s.octs p c).take i) fun x hx => h.oct x (slice_mem (List.mem_of_mem_take hx))
  refine ⟨n.1, Int.lt_of_lt_of_le n.2 ?_⟩
  rw [pow256]
  exact pow_mono (by omega)
theorem look_eq {s : BrS} {p c : Int} (h : BrG s) (hp : 0 ≤ p) (hc : 0 ≤ c ∧ c ≤ 65) (hs : p + c ≤ s.stop) :
    lookB s.octs p c = PySem.Builtin.bitAnd (num (sliceB s.octs p c) / 2 ^ (PySem.Builtin.bitAnd (-(p + c)) 7).toNat) (1 * 2 ^ c.toNat - 1) := by
  obtain ⟨cn, rfl⟩ := Int.eq_ofNat_of_zero_le hc.1
  have hst := h.stop
  obtain ⟨A, C, e, hA, hC, hS⟩ := slice_split (o := s.octs) hp hc.1 (by omega)
  have hCo : ∀ x ∈ C, 0 ≤ x ∧ x ≤ 255 := fun x hx => h.oct x (by rw [e]; exact List.mem_append_right _ hx)
  have nC := num_lt hCo
  rw [mask_pow, and7]
  unfold lookB
  obtain ⟨pad, hpad⟩ := Int.eq_ofNat_of_zero_le (show 0 ≤ -(p + (cn : Int)) % 8 by omega)
  have hlen : (8 * (s.octs.length : Int) - p - (cn : Int)).toNat = 8 * C.length + pad := by omega
  rw [hlen, hpad]
  have e1 : num s.octs / 2 ^ (8 * C.length + pad) = num (A ++ sliceB s.octs p (cn : Int)) / 2 ^ pad := by
    have e2 : num s.octs = num (A ++ sliceB s.octs p (cn : Int)) * 256 ^ C.length + num C := by
      rw [← num_app, ← e]
    rw [Int.pow_add, ← Int.ediv_ediv_of_nonneg (Int.le_of_lt (pow_pos2 _)), e2, pow256]
    rw [pow256] at nC
    congr 1
    rw [Int.add_comm, Int.add_mul_ediv_right _ _ (by have := pow_pos2 (8 * C.length); omega), Int.ediv_eq_zero_of_lt nC.1 nC.2]
    omega
  rw [e1, num_app, pow256]
  obtain ⟨d, hd⟩ : ∃ d : Nat, 8 * (sliceB s.octs p (cn : Int)).length = d + cn + pad := ⟨8 * (sliceB s.octs p (cn : Int)).length - cn - pad, by omega⟩
  rw [hd, Int.pow_add, Int.pow_add, ← Int.mul_assoc, ← Int.mul_assoc, Int.add_comm, Int.add_mul_ediv_right _ _ (by have := pow_pos2 pad; omega)]
  exact Int.add_mul_emod_self_right _ _ _

def nb (bs : List Int) : Int := bs.foldl (fun a x => a * 2 + x) 0
theorem nb_snoc (xs : List Int) (x : Int) : nb (xs ++ [x]) = nb xs * 2 + x := by
  unfold nb
  rw [List.foldl_append] <;> rfl
theorem nb_app (xs ys : List Int) : nb (xs ++ ys) = nb xs * 2 ^ ys.length + nb ys := by
  refine snocInd (motive := fun ys => nb (xs ++ ys) = nb xs * 2 ^ ys.length + nb ys) ?_ (fun zs z ih => ?_) ys
  · rw [List.append_nil]
    show nb xs = nb xs * 1 + 0
    omega
  · rw [← List.append_assoc, nb_snoc, nb_snoc, ih, List.length_append]
    show _ = nb xs * 2 ^ (zs.length + 1) + _
    rw [Int.pow_succ, ← Int.mul_assoc]
    omega
def B01 (bs : List Int) : Prop := ∀ b ∈ bs, 0 ≤ b ∧ b ≤ 1
theorem nb_lt {bs : List Int} (h : B01 bs) : 0 ≤ nb bs ∧ nb bs < 2 ^ bs.length := by
  refine snocInd (motive := fun bs => B01 bs → 0 ≤ nb bs ∧ nb bs < 2 ^ bs.length) (fun _ => ⟨by decide, by decide⟩) (fun ys y ih h => ?_) bs h
  have i := ih fun x hx => h x (by simp [hx])
  have hy := h y (by simp)
  rw [nb_snoc, List.length_append]
  show _ ∧ _ < (2 : Int) ^ (ys.length + 1)
  rw [Int.pow_succ]
  omega
theorem b01_app {xs ys : List Int} (h : B01 xs) (g : B01 ys) : B01 (xs ++ ys) := fun b hb => by
  rcases List.mem_append.mp hb with z | z
  · exact h b z
  · exact g b z
def bitsL (v c : Int) : List Int := (List.range c.toNat).map fun (j : Nat) => PySem.Builtin.bitAnd (v / 2 ^ Int.toNat (c - 1 - (0 + (j : Int)))) 1
theorem bitsL_len (v c : Int) : (bitsL v c).length = c.toNat := by
  unfold bitsL
  rw [List.length_map, List.length_range]
theorem bitsL_01 (v c : Int) : B01 (bitsL v c) := by
  intro b hb
  unfold bitsL at hb
  obtain ⟨j, _, e⟩ := List.mem_map.mp hb
  rw [← e]
  show 0 ≤ PySem.Builtin.bitAnd _ 1 ∧ PySem.Builtin.bitAnd _ 1 ≤ 1
  rw [bit_mod]
  omega
theorem bitsL_succ (v : Int) (n : Nat) : bitsL v ((n + 1 : Nat) : Int) = bitsL (v / 2) (n : Int) ++ [v % 2] := by
  unfold bitsL
  rw [show (((n + 1 : Nat) : Int)).toNat = n + 1 from rfl, show ((n : Int)).toNat = n from rfl, List.range_succ, List.map_append]
  congr 1
  · apply List.map_congr_left
    intro j hj
    have hj := List.mem_range.mp hj
    rw [bit_mod, bit_mod, show Int.toNat (((n + 1 : Nat) : Int) - 1 - (0 + (j : Int))) = 1 + Int.toNat ((n : Int) - 1 - (0 + (j : Int))) from by omega, Int.pow_add, ← Int.ediv_ediv_of_nonneg (by decide)]
    rfl
  · show [PySem.Builtin.bitAnd (v / 2 ^ Int.toNat (((n + 1 : Nat) : Int) - 1 - (0 + (n : Int)))) 1] = [v % 2]
    rw [bit_mod, show Int.toNat (((n + 1 : Nat) : Int) - 1 - (0 + (n : Int))) = 0 from by omega]
    show [v / 1 % 2] = _
    rw [Int.ediv_one]
theorem nb_bitsL : ∀ (n : Nat) {v : Int}, 0 ≤ v ∧ v < 2 ^ n → nb (bitsL v (n : Int)) = v
  | 0, v, h => by
    have : v = 0 := by
      have := h.2
      rw [Int.pow_zero] at this
      omega
    rw [this]
    rfl
  | n + 1, v, h => by
    rw [bitsL_succ, nb_snoc, nb_bitsL n (v := v / 2) (by have := h.2; rw [Int.pow_succ] at this; omega)]
    omega
def ueL (v : Int) : List Int := repL [0] (((PySem.Builtin.Int.intBits (v + 1) : Nat) : Int) - 1) ++ bitsL (v + 1) ((PySem.Builtin.Int.intBits (v + 1) : Nat) : Int)
def padL (bs : List Int) : List Int := (bs ++ [1]) ++ repL [0] ((8 - ((bs ++ [1]).length : Int) % 8) % 8)
def packL (bs : List Int) : List Int := (List.range (((padL bs).length : Int) / 8).toNat).map fun (i : Nat) => List.sum ((List.range 8).map fun (j : Nat) => itD (padL bs) (8 * (0 + (i : Int)) + (0 + (j : Int))) * 2 ^ Int.toNat (7 - (0 + (j : Int))))
theorem rep_zeros (k : Int) : repL [(0 : Int)] k = List.replicate k.toNat 0 := by
  unfold repL
  induction k.toNat with
  | zero => rfl
  | succ n ih =>
    rw [List.replicate_succ, List.flatten_cons, ih]
    rfl
theorem nb_zeros : ∀ n : Nat, nb (List.replicate n 0) = 0
  | 0 => rfl
  | n + 1 => nb_zeros n
theorem zeros_01 (n : Nat) : B01 (List.replicate n 0) := fun b hb => by
  rw [List.eq_of_mem_replicate hb]
  decide
theorem padL_len (bs : List Int) : ∃ m : Nat, ((padL bs).length : Int) = 8 * (m : Int) ∧ (m : Int) = bs.length / 8 + 1 := by
  refine ⟨bs.length / 8 + 1, ?_, by omega⟩
  unfold padL
  rw [List.length_append, len_rep1, List.length_append]
  simp only [List.length_cons, List.length_nil]
  omega
theorem padL_mem {bs : List Int} (h : B01 bs) : B01 (padL bs) := by
  unfold padL
  refine b01_app (b01_app h (fun b hb => ?_)) ?_
  · rw [List.mem_singleton.mp hb]
    decide
  · rw [rep_zeros]
    exact zeros_01 _
theorem ue_form {v : Int} (h : 0 ≤ v) : ∃ k : Nat, PySem.Builtin.Int.intBits (v + 1) = k + 1 ∧ (2 : Int) ^ k ≤ v + 1 ∧ v + 1 < 2 ^ (k + 1) ∧ ueL v = List.replicate k 0 ++ bitsL (v + 1) ((k + 1 : Nat) : Int) ∧ (ueL v).length = 2 * k + 1 ∧ nb (ueL v) = v + 1 ∧ B01 (ueL v) := by
  obtain ⟨k, e, lo, hi⟩ := ib_spec (n := v + 1) (by omega)
  have e2 : ueL v = List.replicate k 0 ++ bitsL (v + 1) ((k + 1 : Nat) : Int) := by
    unfold ueL
    rw [e, rep_zeros, show (((k + 1 : Nat) : Int) - 1).toNat = k from by omega]
  refine ⟨k, e, lo, hi, e2, ?_, ?_, ?_⟩
  · rw [e2, List.length_append, List.length_replicate, bitsL_len]
    omega
  · rw [e2, nb_app, nb_zeros, Int.zero_mul, Int.zero_add]
    exact nb_bitsL (k + 1) ⟨by omega, hi⟩
  · rw [e2]
    exact b01_app (zeros_01 _) (bitsL_01 _ _)
structure WR (w : BwS) (bs : List Int) : Prop where
  g : BwG w
  oct : ∀ x ∈ w.full, 0 ≤ x ∧ x ≤ 255
  b : B01 bs
  len : (bs.length : Int) = 8 * (w.full.length : Int) + w.bits
  val : nb bs = num w.full * 2 ^ w.bits.toNat + w.rest
theorem num_digs : ∀ (k : Nat) {M : Int}, 0 ≤ M ∧ M < 256 ^ k → num (digs M k) = M
  | 0, M, h => by
    have : M = 0 := by
      have := h.2
      rw [Int.pow_zero] at this
      omega
    rw [this]
    rfl
  | k + 1, M, h => by
    have e : M = M / 256 * 256 + M % 256 := by omega
    have h2 := h.2
    rw [Int.pow_succ] at h2
    have d := digs_snoc (M / 256) (M % 256) k (by omega)
    rw [← e] at d
    rw [d, num_snoc, num_digs k (M := M / 256) (by omega)]
    omega
theorem digs_oct {M : Int} {k : Nat} : ∀ x ∈ digs M k, 0 ≤ x ∧ x ≤ 255 := by
  intro x hx
  unfold digs at hx
  obtain ⟨j, _, e⟩ := List.mem_map.mp hx
  rw [← e]
  show 0 ≤ _ % 256 ∧ _ % 256 ≤ 255
  omega
theorem wr_add {w : BwS} {bs X : List Int} {v c : Int} (h : WR w bs) (hc : 0 ≤ c) (hx : B01 X) (hl : (X.length : Int) = c) (hv : nb X = v) : WR (bwAdd w v c) (bs ++ X) := by
  have hv2 := nb_lt hx
  have hcn : c.toNat = X.length := by omega
  rw [hv, ← hcn] at hv2
  have t := total_in h.g hc hv2
  have hb := h.g.bits
  have hval := h.val
  obtain ⟨r, hr⟩ := Int.eq_ofNat_of_zero_le (show 0 ≤ (w.bits + c) % 8 by omega)
  obtain ⟨k, hk⟩ := Int.eq_ofNat_of_zero_le (show 0 ≤ (w.bits + c) / 8 by omega)
  have hsum : (w.bits + c).toNat = 8 * k + r := by omega
  have hr2 : ((w.bits + c) % 8).toNat = r := by omega
  have hk2 : ((w.bits + c) / 8).toNat = k := by omega
  have pr := pow_pos2 r
  rw [hsum, Int.pow_add, ← pow256] at t
  have hM : 0 ≤ (w.rest * 2 ^ c.toNat + v) / 2 ^ r ∧ (w.rest * 2 ^ c.toNat + v) / 2 ^ r < 256 ^ k :=
    ⟨Int.ediv_nonneg t.1 (Int.le_of_lt pr), Int.ediv_lt_of_lt_mul pr t.2⟩
  unfold bwAdd
  rw [hr2, hk2]
  refine ⟨⟨by show 0 ≤ (w.bits + c) % 8 ∧ (w.bits + c) % 8 ≤ 7; omega, ?_⟩, ?_, b01_app h.b hx, ?_, ?_⟩
  · show 0 ≤ (w.rest * 2 ^ c.toNat + v) % 2 ^ r ∧ (w.rest * 2 ^ c.toNat + v) % 2 ^ r < 2 ^ ((w.bits + c) % 8).toNat
    rw [hr2]
    exact ⟨Int.emod_nonneg _ (by omega), Int.emod_lt_of_pos _ pr⟩
  · intro x hx
    rcases List.mem_append.mp hx with z | z
    · exact h.oct x z
    · exact digs_oct x z
  · have hlen := h.len
    show ((bs ++ X).length : Int) = 8 * ((w.full ++ digs _ k).length : Int) + (w.bits + c) % 8
    rw [List.length_append, List.length_append, digs_len]
    omega
  · show nb (bs ++ X) = num (w.full ++ digs _ k) * 2 ^ ((w.bits + c) % 8).toNat + (w.rest * 2 ^ c.toNat + v) % 2 ^ r
    rw [hr2, nb_app, num_app, digs_len, num_digs k hM, hv, hval, ← hcn]
    have q := Int.mul_ediv_add_emod (w.rest * 2 ^ c.toNat + v) (2 ^ r)
    rw [Int.add_mul, Int.add_mul, Int.mul_assoc, Int.mul_assoc, ← Int.pow_add, show w.bits.toNat + c.toNat = 8 * k + r from by omega, Int.pow_add, ← pow256]
    rw [Int.mul_comm (2 ^ r)] at q
    omega
theorem wr_nil : WR ⟨[], 0, 0⟩ [] := ⟨⟨by decide, by decide⟩, fun x h => (List.not_mem_nil h).elim, fun x h => (List.not_mem_nil h).elim, rfl, rfl⟩
def ItOk (it : Int × Int × Int) : Prop := (it.1 = 0 ∧ (0 ≤ it.2.2 ∧ it.2.2 ≤ 64) ∧ 0 ≤ it.2.1 ∧ it.2.1 < 2 ^ it.2.2.toNat) ∨ (it.1 = 1 ∧ 0 ≤ it.2.1 ∧ it.2.1 ≤ 4294967296) ∨ (it.1 = 2 ∧ -2147483648 ≤ it.2.1 ∧ it.2.1 ≤ 2147483648)
def itBits (it : Int × Int × Int) : List Int := if it.1 = 0 then bitsL it.2.1 it.2.2 else if it.1 = 1 then ueL it.2.1 else ueL (seCode it.2.1)
def itAdd (w : BwS) (it : Int × Int × Int) : BwS := if it.1 = 0 then bwAdd w it.2.1 it.2.2 else if it.1 = 1 then bwUe w it.2.1 else bwUe w (seCode it.2.1)
theorem se_in {v : Int} (h : -2147483648 ≤ v ∧ v ≤ 2147483648) : 0 ≤ seCode v ∧ seCode v ≤ 4294967296 := by
  unfold seCode
  split <;> omega
theorem wr_ue {w : BwS} {bs : List Int} {v : Int} (h : WR w bs) (hv : 0 ≤ v) : WR (bwUe w v) (bs ++ ueL v) := by
  obtain ⟨k, e, lo, hi, e2, hl, hn, hb⟩ := ue_form hv
  unfold bwUe
  rw [e]
  exact wr_add h (by omega) hb (by rw [hl]; omega) hn
theorem wr_put {w : BwS} {bs : List Int} {it : Int × Int × Int} (h : WR w bs) (hi : ItOk it) : WR (itAdd w it) (bs ++ itBits it) := by
  unfold itAdd itBits
  rcases hi with ⟨a, b, c⟩ | ⟨a, b⟩ | ⟨a, b⟩
  · rw [if_pos a, if_pos a]
    obtain ⟨n, hn⟩ := Int.eq_ofNat_of_zero_le b.1
    rw [hn] at c ⊢
    exact wr_add h (by omega) (bitsL_01 _ _) (by rw [bitsL_len]; omega) (nb_bitsL n c)
  · rw [if_neg (by omega), if_pos a, if_neg (by omega), if_pos a]
    exact wr_ue h b.1
  · rw [if_neg (by omega), if_neg (by omega), if_neg (by omega), if_neg (by omega)]
    exact wr_ue h (se_in b).1
theorem it_01 {it : Int × Int × Int} (hi : ItOk it) : B01 (itBits it) := by
  unfold itBits
  rcases hi with ⟨a, b, c⟩ | ⟨a, b⟩ | ⟨a, b⟩
  · rw [if_pos a]
    exact bitsL_01 _ _
  · rw [if_neg (by omega), if_pos a]
    obtain ⟨k, e, lo, hi, e2, hl, hn, hb⟩ := ue_form b.1
    exact hb
  · rw [if_neg (by omega), if_neg (by omega)]
    obtain ⟨k, e, lo, hi, e2, hl, hn, hb⟩ := ue_form (se_in b).1
    exact hb
theorem ue_len {v : Int} (h : 0 ≤ v) (h1 : v ≤ 4294967296) : (ueL v).length ≤ 130 := by
  obtain ⟨k, e, lo, hi, e2, hl, hn, hb⟩ := ue_form h
  have u := (ue_in h h1).1
  rw [e] at u
  omega
theorem it_len {it : Int × Int × Int} (hi : ItOk it) : (itBits it).length ≤ 130 := by
  unfold itBits
  rcases hi with ⟨a, b, c⟩ | ⟨a, b⟩ | ⟨a, b⟩
  · rw [if_pos a, bitsL_len]
    omega
  · rw [if_neg (by omega), if_pos a]
    exact ue_len b.1 b.2
  · rw [if_neg (by omega), if_neg (by omega)]
    exact ue_len (se_in b).1 (se_in b).2
theorem eight0 {b : Int} (h : 0 ≤ b ∧ b ≤ 7) : b = 0 ∨ b = 1 ∨ b = 2 ∨ b = 3 ∨ b = 4 ∨ b = 5 ∨ b = 6 ∨ b = 7 := by omega
theorem wr_mem {w : BwS} {bs : List Int} (h : WR w bs) : ∀ x ∈ w.full ++ [(2 * w.rest + 1) * 2 ^ (7 - w.bits).toNat], 0 ≤ x ∧ x ≤ 255 := by
  intro x hx
  rcases List.mem_append.mp hx with z | z
  · exact h.oct x z
  · rw [List.mem_singleton.mp z]
    have hb := h.g.bits
    have hr := h.g.rest
    rcases eight0 hb with e | e | e | e | e | e | e | e <;>
      (rw [e] at hr ⊢; simp at hr ⊢; omega)
theorem wr_last {w : BwS} {bs : List Int} (h : WR w bs) : 0 < (2 * w.rest + 1) * 2 ^ (7 - w.bits).toNat ∧ lastBit ((2 * w.rest + 1) * 2 ^ (7 - w.bits).toNat) = 8 - w.bits := by
  have hb := h.g.bits
  have hr := h.g.rest
  refine ⟨?_, ?_⟩
  · rcases eight0 hb with e | e | e | e | e | e | e | e <;> (rw [e] at hr ⊢; simp at hr ⊢; try omega)
  · unfold lastBit
    rcases eight0 hb with e | e | e | e | e | e | e | e <;> (rw [e] at hr ⊢; simp at hr ⊢ <;> (repeat' split) <;> omega)
theorem wr_num {w : BwS} {bs : List Int} (h : WR w bs) : num (w.full ++ [(2 * w.rest + 1) * 2 ^ (7 - w.bits).toNat]) = (nb bs * 2 + 1) * 2 ^ (7 - w.bits).toNat := by
  have hb := h.g.bits
  rw [num_snoc, h.val]
  rcases eight0 hb with e | e | e | e | e | e | e | e <;>
    (rw [e]; simp; omega)
theorem pad_nb {w : BwS} {bs : List Int} (h : WR w bs) : nb (padL bs) = (nb bs * 2 + 1) * 2 ^ (7 - w.bits).toNat := by
  have hb := h.g.bits
  have hl := h.len
  unfold padL
  rw [nb_app, rep_zeros, nb_zeros, nb_snoc, List.length_replicate, List.length_append]
  simp only [List.length_cons, List.length_nil]
  rw [show ((8 - ((bs.length + (0 + 1) : Nat) : Int) % 8) % 8).toNat = (7 - w.bits).toNat from by omega]
  omega
theorem take8 {B : List Int} {m : Nat} (h : 8 * (m + 1) ≤ B.length) : ∃ a b c d e f g i : Int, B.take (8 * (m + 1)) = B.take (8 * m) ++ [a] ++ [b] ++ [c] ++ [d] ++ [e] ++ [f] ++ [g] ++ [i] ∧
    itD B (8 * (0 + (m : Int)) + 0) = a ∧ itD B (8 * (0 + (m : Int)) + 1) = b ∧ itD B (8 * (0 + (m : Int)) + 2) = c ∧ itD B (8 * (0 + (m : Int)) + 3) = d ∧
    itD B (8 * (0 + (m : Int)) + 4) = e ∧ itD B (8 * (0 + (m : Int)) + 5) = f ∧ itD B (8 * (0 + (m : Int)) + 6) = g ∧ itD B (8 * (0 + (m : Int)) + 7) = i := by
  have ix : ∀ k : Nat, (hk : 8 * m + k < B.length) → B[8 * m + k]? = some (B[8 * m + k]'hk) := fun k hk => List.getElem?_eq_getElem hk
  have it : ∀ k : Nat, (hk : 8 * m + k < B.length) → itD B (8 * (0 + (m : Int)) + (k : Int)) = B[8 * m + k]'hk := fun k hk => by
    rw [show 8 * (0 + (m : Int)) + (k : Int) = ((8 * m + k : Nat) : Int) from by omega]
    exact itD_nat (ix k hk)
  refine ⟨_, _, _, _, _, _, _, _, ?_, it 0 (by omega), it 1 (by omega), it 2 (by omega), it 3 (by omega), it 4 (by omega), it 5 (by omega), it 6 (by omega), it 7 (by omega)⟩
  rw [show 8 * (m + 1) = 8 * m + 7 + 1 from by omega, take_succ_get (ix 7 (by omega)), take_succ_get (ix 6 (by omega)), take_succ_get (ix 5 (by omega)), take_succ_get (ix 4 (by omega)), take_succ_get (ix 3 (by omega)), take_succ_get (ix 2 (by omega)), take_succ_get (ix 1 (by omega)), take_succ_get (ix 0 (by omega))]
  rfl
def octB (B : List Int) (m : Nat) : Int := List.sum ((List.range 8).map fun (j : Nat) => itD B (8 * (0 + (m : Int)) + (0 + (j : Int))) * 2 ^ Int.toNat (7 - (0 + (j : Int))))
theorem octB_eq (B : List Int) (m : Nat) : octB B m = itD B (8 * (0 + (m : Int)) + 0) * 128 + itD B (8 * (0 + (m : Int)) + 1) * 64 + itD B (8 * (0 + (m : Int)) + 2) * 32 + itD B (8 * (0 + (m : Int)) + 3) * 16 +
    itD B (8 * (0 + (m : Int)) + 4) * 8 + itD B (8 * (0 + (m : Int)) + 5) * 4 + itD B (8 * (0 + (m : Int)) + 6) * 2 + itD B (8 * (0 + (m : Int)) + 7) := by
  unfold octB
  rw [show List.range 8 = [0, 1, 2, 3, 4, 5, 6, 7] from rfl]
  simp only [List.map_cons, List.map_nil, List.sum_cons, List.sum_nil]
  show itD B (8 * (0 + (m : Int)) + 0) * 128 + (itD B (8 * (0 + (m : Int)) + 1) * 64 + (itD B (8 * (0 + (m : Int)) + 2) * 32 + (itD B (8 * (0 + (m : Int)) + 3) * 16 + (itD B (8 * (0 + (m : Int)) + 4) * 8 + (itD B (8 * (0 + (m : Int)) + 5) * 4 + (itD B (8 * (0 + (m : Int)) + 6) * 2 + (itD B (8 * (0 + (m : Int)) + 7) * 1 + 0))))))) = _
  omega
theorem oct_turn8 {B : List Int} (hB : B01 B) {m : Nat} (h : 8 * (m + 1) ≤ B.length) : nb (B.take (8 * (m + 1))) = nb (B.take (8 * m)) * 256 + octB B m ∧ 0 ≤ octB B m ∧ octB B m ≤ 255 := by
  obtain ⟨a, b, c, d, e, f, g, i, ht, ea, eb, ec, ed, ee, ef, eg, ei⟩ := take8 h
  have hb : ∀ x ∈ [a, b, c, d, e, f, g, i], 0 ≤ x ∧ x ≤ 1 := fun x hx => by
    apply hB x
    apply List.mem_of_mem_take (i := 8 * (m + 1))
    rw [ht]
    simp only [List.mem_cons, List.not_mem_nil, or_false] at hx
    simp only [List.mem_append, List.mem_singleton]
    rcases hx with z | z | z | z | z | z | z | z <;> simp [z]
  simp only [List.mem_cons, List.not_mem_nil, or_false, forall_eq_or_imp, forall_eq] at hb
  rw [octB_eq, ea, eb, ec, ed, ee, ef, eg, ei, ht]
  simp only [nb_snoc]
  omega
theorem num_pack {B : List Int} (hB : B01 B) : ∀ m : Nat, 8 * m ≤ B.length → num ((List.range m).map (octB B)) = nb (B.take (8 * m)) ∧ ∀ x ∈ (List.range m).map (octB B), 0 ≤ x ∧ x ≤ 255
  | 0, _ => ⟨rfl, fun x hx => (List.not_mem_nil hx).elim⟩
  | m + 1, h => by
    have ih := num_pack hB m (by omega)
    have t := oct_turn8 hB h
    rw [List.range_succ, List.map_append]
    refine ⟨?_, fun x hx => ?_⟩
    · show num (_ ++ [octB B m]) = _
      rw [num_snoc, ih.1, t.1]
    · rcases List.mem_append.mp hx with z | z
      · exact ih.2 x z
      · rw [show x = octB B m from by simpa using z]
        exact t.2
theorem wr_octets {w : BwS} {bs : List Int} (h : WR w bs) : w.full ++ [(2 * w.rest + 1) * 2 ^ (7 - w.bits).toNat] = packL bs := by
  obtain ⟨m, h1, h2⟩ := padL_len bs
  have hm : (((padL bs).length : Int) / 8).toNat = m := by omega
  have hB := padL_mem h.b
  have p := num_pack hB m (by omega)
  have hpk : packL bs = (List.range m).map (octB (padL bs)) := by
    unfold packL
    rw [hm]
    rfl
  have hl : (packL bs).length = m := by rw [hpk, List.length_map, List.length_range]
  have hl2 : (w.full ++ [(2 * w.rest + 1) * 2 ^ (7 - w.bits).toNat]).length = m := by
    have := h.len
    have := h.g.bits
    rw [List.length_append]
    simp only [List.length_cons, List.length_nil]
    omega
  have a := digs_num (wr_mem h)
  have b := digs_num p.2
  rw [← hpk] at b
  rw [hl] at b
  rw [hl2] at a
  rw [← a, ← b, hpk, p.1, List.take_of_length_le (by omega), pad_nb h, wr_num h]
structure RR (s : BrS) (bs : List Int) : Prop where
  g : BrG s
  b : B01 bs
  len : s.place + (bs.length : Int) = s.stop
  val : num s.octs / 2 ^ (8 * (s.octs.length : Int) - s.stop).toNat % 2 ^ bs.length = nb bs
theorem rr_look {s : BrS} {Z X Y : List Int} (h : RR s (Z ++ X ++ Y)) : lookB s.octs (s.place + (Z.length : Int)) (X.length : Int) = nb X := by
  have hl := h.len
  have hs := h.g.stop
  have hv := h.val
  have hX := nb_lt (bs := X) fun b hb => h.b b (by simp [hb])
  have hY := nb_lt (bs := Y) fun b hb => h.b b (by simp [hb])
  rw [List.length_append, List.length_append] at hl hv
  unfold lookB
  rw [show (8 * (s.octs.length : Int) - (s.place + (Z.length : Int)) - (X.length : Int)).toNat = (8 * (s.octs.length : Int) - s.stop).toNat + Y.length from by omega, Int.pow_add, ← Int.ediv_ediv_of_nonneg (Int.le_of_lt (pow_pos2 _))]
  generalize num s.octs / 2 ^ (8 * (s.octs.length : Int) - s.stop).toNat = q at *
  show q / 2 ^ Y.length % 2 ^ X.length = nb X
  have pY := pow_pos2 Y.length
  have pX := pow_pos2 X.length
  have e : q = 2 ^ (Z.length + X.length + Y.length) * (q / 2 ^ (Z.length + X.length + Y.length)) + nb (Z ++ X ++ Y) := by
    rw [← hv]
    exact (Int.mul_ediv_add_emod _ _).symm
  generalize q / 2 ^ (Z.length + X.length + Y.length) = t at e
  rw [e, nb_app, nb_app, Int.pow_add, Int.pow_add]
  rw [show 2 ^ Z.length * 2 ^ X.length * 2 ^ Y.length * t + ((nb Z * 2 ^ X.length + nb X) * 2 ^ Y.length + nb Y) = nb Y + (nb X + (2 ^ Z.length * t + nb Z) * 2 ^ X.length) * 2 ^ Y.length from by
    simp only [Int.add_mul]
    rw [show 2 ^ Z.length * 2 ^ X.length * 2 ^ Y.length * t = 2 ^ Z.length * t * 2 ^ X.length * 2 ^ Y.length from by ac_rfl]
    omega]
  rw [Int.add_mul_ediv_right _ _ (by omega), Int.ediv_eq_zero_of_lt hY.1 hY.2, Int.zero_add, Int.add_mul_emod_self_right, Int.emod_eq_of_lt hX.1 hX.2]
theorem rr_move {s : BrS} {X Y : List Int} (h : RR s (X ++ Y)) : RR (brMove s (X.length : Int)) Y := by
  have hl := h.len
  have hv := h.val
  rw [List.length_append] at hl hv
  have hY := nb_lt (bs := Y) fun b hb => h.b b (by simp [hb])
  have g := h.g
  refine ⟨⟨g.oct, by show 0 ≤ s.place + (X.length : Int); have := g.place; omega, g.stop⟩, fun b hb => h.b b (by simp [hb]), by show s.place + (X.length : Int) + (Y.length : Int) = s.stop; omega, ?_⟩
  show num s.octs / 2 ^ (8 * (s.octs.length : Int) - s.stop).toNat % 2 ^ Y.length = nb Y
  generalize num s.octs / 2 ^ (8 * (s.octs.length : Int) - s.stop).toNat = q at *
  have hq := mod_mod_mul q (2 ^ Y.length) (2 ^ X.length)
  rw [Int.mul_comm, ← Int.pow_add, hv, nb_app, Int.add_comm, Int.add_mul_emod_self_right, Int.emod_eq_of_lt hY.1 hY.2] at hq
  exact hq.symm
theorem rr_init {w : BwS} {bs : List Int} (h : WR w bs) : RR (brInit (w.full ++ [(2 * w.rest + 1) * 2 ^ (7 - w.bits).toNat])) bs := by
  have hb := h.g.bits
  have hl := h.len
  have lb := wr_last h
  have hn := nb_lt h.b
  have hlen : ((w.full ++ [(2 * w.rest + 1) * 2 ^ (7 - w.bits).toNat]).length : Int) = w.full.length + 1 := by
    rw [List.length_append]
    rfl
  have hst : (brInit (w.full ++ [(2 * w.rest + 1) * 2 ^ (7 - w.bits).toNat])).stop = bs.length := by
    show 8 * ((w.full ++ [(2 * w.rest + 1) * 2 ^ (7 - w.bits).toNat]).length : Int) - lastBit (itD (w.full ++ [(2 * w.rest + 1) * 2 ^ (7 - w.bits).toNat]) (-1)) = _
    rw [itD_end, lb.2, hlen]
    omega
  refine ⟨⟨wr_mem h, Int.le_refl 0, by rw [hst]; show _ ≤ 8 * ((w.full ++ [(2 * w.rest + 1) * 2 ^ (7 - w.bits).toNat]).length : Int); omega⟩, h.b, by rw [hst]; show (0 : Int) + _ = _; omega, ?_⟩
  rw [hst]
  show num (w.full ++ [(2 * w.rest + 1) * 2 ^ (7 - w.bits).toNat]) / 2 ^ (8 * ((w.full ++ [(2 * w.rest + 1) * 2 ^ (7 - w.bits).toNat]).length : Int) - (bs.length : Int)).toNat % 2 ^ bs.length = nb bs
  rw [wr_num h, hlen, show (8 * ((w.full.length : Int) + 1) - (bs.length : Int)).toNat = (7 - w.bits).toNat + 1 from by omega, Int.pow_add, ← Int.ediv_ediv_of_nonneg (Int.le_of_lt (pow_pos2 _)), Int.mul_ediv_cancel _ (by have := pow_pos2 (7 - w.bits).toNat; omega)]
  rw [show (nb bs * 2 + 1) / 2 ^ 1 = nb bs from by omega, Int.emod_eq_of_lt hn.1 hn.2]
theorem rr_zeros {s : BrS} {v : Int} {Y : List Int} (hv : 0 ≤ v) (hv1 : v ≤ 4294967296) (h : RR s (ueL v ++ Y)) :
    ∃ z : Nat, Zeros s z ∧ s.place + (2 * (z : Int) + 1) ≤ s.stop ∧ lookB s.octs s.place (2 * (z : Int) + 1) - 1 = v ∧ 2 * (z : Int) + 1 = ((ueL v).length : Int) := by
  obtain ⟨k, e, lo, hi, e2, hl, hn, hb⟩ := ue_form hv
  have hk : k < 33 := pow_lt_of (Int.lt_of_le_of_lt lo (by show v + 1 < 8589934592; omega))
  have hlen := h.len
  rw [List.length_append, hl] at hlen
  refine ⟨k, ⟨by omega, by omega, fun j hj => ?_, ?_⟩, by omega, ?_, by omega⟩
  · have h2 : RR s (List.replicate j 0 ++ [0] ++ (List.replicate (k - j - 1) 0 ++ bitsL (v + 1) ((k + 1 : Nat) : Int) ++ Y)) := by
      have e3 : List.replicate k (0 : Int) = List.replicate j 0 ++ ([0] ++ List.replicate (k - j - 1) 0) := by
        rw [show [(0 : Int)] = List.replicate 1 0 from rfl, List.replicate_append_replicate, List.replicate_append_replicate]
        congr 1
        omega
      rw [e2, e3] at h
      simpa using h
    have r := rr_look h2
    rw [List.length_replicate] at r
    exact r
  · have e4 : ∃ T : List Int, bitsL (v + 1) ((k + 1 : Nat) : Int) = [1] ++ T := by
      refine ⟨(bitsL (v + 1) ((k + 1 : Nat) : Int)).drop 1, ?_⟩
      unfold bitsL
      rw [show (((k + 1 : Nat) : Int)).toNat = k + 1 from rfl, List.range_succ_eq_map, List.map_cons, List.drop_one, List.tail_cons, List.singleton_append]
      congr 1
      rw [bit_mod, show Int.toNat (((k + 1 : Nat) : Int) - 1 - (0 + ((0 : Nat) : Int))) = k from by omega]
      have p := pow_pos2 k
      rw [Int.pow_succ] at hi
      have q1 : (v + 1) / 2 ^ k = 1 := by
        apply Int.le_antisymm
        · have : (v + 1) / 2 ^ k < 2 := Int.ediv_lt_of_lt_mul p (by omega)
          omega
        · exact Int.le_ediv_of_mul_le p (by omega)
      rw [q1]
      rfl
    obtain ⟨T, e5⟩ := e4
    have h2 : RR s (List.replicate k 0 ++ [1] ++ (T ++ Y)) := by
      rw [e2, e5] at h
      simpa using h
    have r := rr_look h2
    rw [List.length_replicate] at r
    exact r
  · have h2 : RR s ([] ++ ueL v ++ Y) := by
      rw [List.nil_append]
      exact h
    have r := rr_look h2
    rw [hl, hn] at r
    rw [show s.place + (([] : List Int).length : Int) = s.place from Int.add_zero _] at r
    rw [show (2 * (k : Int) + 1) = ((2 * k + 1 : Nat) : Int) from by omega, r]
    omega
theorem se_back (v : Int) : seBack (seCode v) = v := by
  unfold seBack seCode
  rw [bit_mod]
  by_cases h : 0 < v
  · rw [if_pos h, if_pos (by rw [show (2 * v - 1) % 2 = 1 from by omega]; rfl)]
    omega
  · rw [if_neg h, if_neg (by rw [show -2 * v % 2 = 0 from by omega]; decide)]
    omega
structure GetOk (s : BrS) (it : Int × Int × Int) : Prop where
  g : BrG s
  get0 : it.1 = 0 → (0 ≤ it.2.2 ∧ it.2.2 ≤ 64) ∧ s.place + it.2.2 ≤ s.stop ∧ lookB s.octs s.place it.2.2 = it.2.1 ∧ it.2.2 = ((itBits it).length : Int)
  get1 : it.1 = 1 → ∃ z : Nat, Zeros s z ∧ s.place + (2 * (z : Int) + 1) ≤ s.stop ∧ lookB s.octs s.place (2 * (z : Int) + 1) - 1 = it.2.1 ∧ 2 * (z : Int) + 1 = ((itBits it).length : Int)
  get2 : ¬ it.1 = 0 → ¬ it.1 = 1 → ∃ z : Nat, Zeros s z ∧ s.place + (2 * (z : Int) + 1) ≤ s.stop ∧ seBack (lookB s.octs s.place (2 * (z : Int) + 1) - 1) = it.2.1 ∧ 2 * (z : Int) + 1 = ((itBits it).length : Int)
theorem rr_get {s : BrS} {it : Int × Int × Int} {Y : List Int} (hi : ItOk it) (h : RR s (itBits it ++ Y)) : GetOk s it := by
  refine ⟨h.g, fun a => ?_, fun a => ?_, fun a b => ?_⟩
  · have e : itBits it = bitsL it.2.1 it.2.2 := if_pos a
    rw [e] at h ⊢
    rcases hi with ⟨_, b, c⟩ | ⟨z, _⟩ | ⟨z, _⟩
    · obtain ⟨n, hn⟩ := Int.eq_ofNat_of_zero_le b.1
      have hl := h.len
      rw [List.length_append, bitsL_len] at hl
      rw [bitsL_len]
      refine ⟨b, by omega, ?_, by omega⟩
      have h2 : RR s ([] ++ bitsL it.2.1 it.2.2 ++ Y) := by
        rw [List.nil_append]
        exact h
      have r := rr_look h2
      rw [bitsL_len, show ((it.2.2.toNat : Nat) : Int) = it.2.2 from by omega, show s.place + (([] : List Int).length : Int) = s.place from Int.add_zero _] at r
      rw [r]
      rw [hn] at c ⊢
      exact nb_bitsL n c
    · omega
    · omega
  · have e : itBits it = ueL it.2.1 := by
      unfold itBits
      rw [if_neg (by omega), if_pos a]
    rw [e] at h ⊢
    rcases hi with ⟨z, _⟩ | ⟨_, b⟩ | ⟨z, _⟩
    · omega
    · exact rr_zeros b.1 b.2 h
    · omega
  · have e : itBits it = ueL (seCode it.2.1) := by
      unfold itBits
      rw [if_neg a, if_neg b]
    rw [e] at h ⊢
    rcases hi with ⟨z, _⟩ | ⟨z, _⟩ | ⟨_, c⟩
    · omega
    · omega
    · obtain ⟨z, z1, z2, z3, z4⟩ := rr_zeros (se_in c).1 (se_in c).2 h
      exact ⟨z, z1, z2, by rw [z3]; exact se_back _, z4⟩
end Pb
namespace Pb
theorem big_in {x : Int} (h0 : -1000000 ≤ x) (h1 : x ≤ 1000000) : -(2 ^ 4096) < x ∧ x < 2 ^ 4096 := by
  have k : (2 : Int) ^ 20 ≤ 2 ^ 4096 := pow_mono (by omega)
  have k2 : (2 : Int) ^ 20 = 1048576 := rfl
  generalize (2 : Int) ^ 4096 = b at *
  omega
theorem last_eq {o : Int} (h : 0 < o ∧ o ≤ 255) : F__last_bit o = .ok (lastBit o) := by
  unfold F__last_bit
  refine Gv.get (Gv.bind (Gv.whileR (P := fun b : Int => (1 ≤ b ∧ b ≤ 8) ∧ o % 2 ^ (b - 1).toNat = 0) (R := fun b => lastBit o = b) (fun b => (9 - b).toNat) (fun b p => ?_) ⟨by decide, by show o % 1 = 0; omega⟩ (by decide)) fun l hl => ?_)
  · unfold F__last_bit_b1
    refine Gv.grd (by omega) (Gv.ite (fun hc => Gv.bnd fun b2 hb2 => .ok (Or.inl ⟨_, rfl, ?_, ?_⟩)) fun hc => .ok (Or.inr ⟨_, rfl, lb_end h p.1.1 p.1.2 p.2 hc⟩))
    · subst hb2
      have t := lb_turn h p.1.1 p.1.2 p.2 hc
      exact ⟨⟨t.1, t.2.1⟩, t.2.2⟩
    · omega
  · obtain ⟨s, rfl, hs⟩ := hl
    exact .ok hs.symm
theorem init_eq {o : List Int} (h : o ≠ []) (hz : ¬ itD o (-1) = 0) (ho : ∀ x ∈ o, 0 ≤ x ∧ x ≤ 255) : F_BitReader___init__ o = .ok (brInit o) := by
  have hin := last_in h
  unfold F_BitReader___init__
  rw [if_neg h, grd_pos hin, if_neg hz, grd_pos hin, last_eq (last_oct h hz ho)]
  rfl
theorem look_ok {s : BrS} {p c : Int} (h : BrG s) (hp : 0 ≤ p) (hc : 0 ≤ c ∧ c ≤ 65) (hs : p + c ≤ s.stop) : F_BitReader__look s p c = .ok (lookB s.octs p c) := by
  unfold F_BitReader__look
  have hi1 := big_in (x := 1) (by omega) (by omega)
  refine Gv.get (Gv.bnd fun e he => ?_)
  subst he
  refine Gv.neg (by omega) (Gv.bind (Gv.forS (P := fun i v => v = num ((sliceB s.octs p c).take i)) rfl fun i x v hx pv => ?_) fun v hv => ?_)
  · have sm := slice_small h hp hc hs i
    have hb : -(2 ^ 4096) < v ∧ v < 2 ^ 4096 := by
      rw [pv]
      refine ⟨?_, sm.2⟩
      have k : (0 : Int) < 2 ^ 4096 := pow_pos2 4096
      have := sm.1
      generalize (2 : Int) ^ 4096 = b at *
      omega
    have ox := slice_oct h.oct hx
    have e : PySem.Builtin.bitOr (v * 2 ^ Int.toNat 8) x = v * 256 + x := or_lowN (n := 8) (by rw [pv]; exact sm.1) ox.1 (by omega)
    unfold F_BitReader__look_b1
    refine Gv.grd ⟨by decide, by decide, hb.1, hb.2⟩ (Gv.bnd fun y hy => .ok ?_)
    rw [hy, e, pv]
    exact num_take (xs := sliceB s.octs p c) hx
  · unfold F_BitReader__look_r1
    refine Gv.grd (and7_nn _) (Gv.grd ⟨hc.1, by omega, hi1.1, hi1.2⟩ (.ok ?_))
    rw [hv, look_eq h hp hc hs]
    unfold sliceB
    rw [List.take_length]
theorem take_ok {s : BrS} {c : Int} (h : BrG s) (hc : 0 ≤ c ∧ c ≤ 65) (hs : s.place + c ≤ s.stop) : F_BitReader__take s c = .ok (lookB s.octs s.place c, brMove s c) := by
  unfold F_BitReader__take
  rw [look_ok h h.place hc hs]
  rfl
theorem zeros_ok {s : BrS} {z : Nat} (h : BrG s) (hz : Zeros s z) : F_BitReader__zeros s = .ok (z : Int) := by
  have hm := hz.most
  have hf := hz.fit
  have hp := h.place
  unfold F_BitReader__zeros
  refine Gv.get (Gv.bind (Gv.whileR (P := fun q : Int => 0 ≤ q ∧ q ≤ (z : Int)) (R := fun q => q = (z : Int)) (fun q => (33 - q).toNat) (fun q p => ?_) ⟨by omega, by omega⟩ (by decide)) fun l hl => ?_)
  · unfold F_BitReader__zeros_b1
    refine Gv.bind_eq (look_ok h (by omega) ⟨by decide, by decide⟩ (by omega)) (Gv.ite (fun hc => ?_) fun hc => .ok (Or.inr ⟨_, rfl, zeros_eq hz p.1 p.2 hc⟩))
    have ne := zeros_ne hz p.1 p.2 hc
    refine Gv.bnd fun q2 hq => ?_
    subst hq
    exact Gv.neg (by omega) (.ok (Or.inl ⟨_, rfl, ⟨by omega, by omega⟩, by omega⟩))
  · obtain ⟨s, rfl, hs⟩ := hl
    exact .ok hs
theorem rr_ue_ok {s : BrS} {v : Int} {Y : List Int} (hv : 0 ≤ v ∧ v ≤ 4294967296) (h : RR s (ueL v ++ Y)) : ∃ s', F_BitReader_get_ue s = .ok (v, s') ∧ RR s' Y := by
  obtain ⟨z, hz, hs, e, hl⟩ := rr_zeros hv.1 hv.2 h
  have hm := hz.most
  have m := rr_move h
  rw [← hl] at m
  refine ⟨_, ?_, m⟩
  unfold F_BitReader_get_ue
  rw [zeros_ok h.g hz, bind_ok, take_ok h.g ⟨by omega, by omega⟩ hs, bind_ok]
  show Rx.ok (lookB s.octs s.place (2 * (z : Int) + 1) - 1, _) = _
  rw [e]
theorem rng_map {β : Type} (n : Nat) (g : Int → β) : (rng 0 n).map g = (List.range n).map fun (j : Nat) => g (0 + (j : Int)) := by
  unfold rng
  rw [List.map_map]
  rfl
theorem lbits_eq {v c : Int} (hc : 0 ≤ c ∧ c ≤ 1000) : F__law_bits v c = .ok (bitsL v c) := by
  unfold F__law_bits
  rw [grd_pos ⟨by omega, by omega⟩, mapA_pure0 (g := fun j => PySem.Builtin.bitAnd (v / 2 ^ Int.toNat (c - 1 - j)) 1) (fun j hj => ?_) (by rw [rng_len]; omega), bind_ok]
  · congr 1
    unfold bitsL
    exact rng_map _ _
  · have hj := rng_mem hj
    unfold F__law_bits_c1
    rw [grd_pos (by omega)]
    rfl
theorem wr_of {bs : List Int} (h : B01 bs) : ∃ w, WR w bs := by
  have := wr_add (X := bs) (v := nb bs) (c := (bs.length : Int)) wr_nil (by omega) h rfl rfl
  exact ⟨_, this⟩
theorem init_pack {bs : List Int} (h : B01 bs) : ∃ s, F_BitReader___init__ (packL bs) = .ok s ∧ RR s bs := by
  obtain ⟨w, hw⟩ := wr_of h
  have e := wr_octets hw
  have l := wr_last hw
  have m := wr_mem hw
  refine ⟨_, init_eq ?_ ?_ ?_, ?_⟩
  · rw [← e]
    simp
  · rw [← e, itD_end]
    omega
  · rw [← e]
    exact m
  · rw [← e]
    exact rr_init hw
theorem rr_end {s : BrS} (h : RR s []) : s.stop - s.place = 0 := by
  have := h.len
  simp at this
  omega
theorem get_ok {s : BrS} {c : Int} (h : BrG s) (hc : 0 ≤ c ∧ c ≤ 64) (hs : s.place + c ≤ s.stop) : F_BitReader_get s c = .ok (lookB s.octs s.place c, brMove s c) := by
  unfold F_BitReader_get
  rw [if_pos hc.1, if_pos hc.2, take_ok h ⟨hc.1, by omega⟩ hs]
  rfl
end Pb
namespace Pb
theorem lb_all : ∀ k : Fin 256, 0 < k.val → (1 ≤ lastBit (k.val : Int) ∧ lastBit (k.val : Int) ≤ 8) ∧ (k.val : Int) % 2 ^ (lastBit (k.val : Int)).toNat = 2 ^ (lastBit (k.val : Int) - 1).toNat := by decide +kernel
theorem lb_in {o : Int} (h : 0 < o ∧ o ≤ 255) : (1 ≤ lastBit o ∧ lastBit o ≤ 8) ∧ o % 2 ^ (lastBit o).toNat = 2 ^ (lastBit o - 1).toNat := by
  obtain ⟨n, rfl⟩ := Int.eq_ofNat_of_zero_le (Int.le_of_lt h.1)
  exact lb_all ⟨n, by omega⟩ (by show 0 < n; omega)
/-- any octets that end otherwise than with 0 are bits packed -/
theorem pack_any {o : List Int} (hne : o ≠ []) (hz : ¬ itD o (-1) = 0) (ho : ∀ x ∈ o, 0 ≤ x ∧ x ≤ 255) : ∃ bs, B01 bs ∧ packL bs = o ∧ (bs.length : Int) = 8 * (o.length : Int) - lastBit (itD o (-1)) := by
  obtain ⟨A, z, rfl⟩ : ∃ A z, o = A ++ [z] := ⟨o.dropLast, o.getLast hne, (List.dropLast_concat_getLast hne).symm⟩
  rw [itD_end] at hz ⊢
  have hz2 := ho z (by simp)
  have hp : 0 < z ∧ z ≤ 255 := by omega
  obtain ⟨hl, hm⟩ := lb_in hp
  generalize lastBit z = lb at *
  have hlen : ((A ++ [z]).length : Int) = A.length + 1 := by simp
  obtain ⟨n, hn⟩ := Int.eq_ofNat_of_zero_le (show 0 ≤ 8 * ((A ++ [z]).length : Int) - lb by omega)
  have nl := num_lt ho
  rw [pow256] at nl
  have e2 : 8 * (A ++ [z]).length = n + lb.toNat := by omega
  have pl := pow_pos2 lb.toNat
  have hv : 0 ≤ num (A ++ [z]) / 2 ^ lb.toNat ∧ num (A ++ [z]) / 2 ^ lb.toNat < 2 ^ n := by
    refine ⟨Int.ediv_nonneg nl.1 (Int.le_of_lt pl), Int.ediv_lt_of_lt_mul pl ?_⟩
    rw [← Int.pow_add, ← e2]
    exact nl.2
  have nv := nb_bitsL n hv
  refine ⟨bitsL (num (A ++ [z]) / 2 ^ lb.toNat) (n : Int), bitsL_01 _ _, ?_, by rw [bitsL_len]; omega⟩
  generalize hbs : bitsL (num (A ++ [z]) / 2 ^ lb.toNat) (n : Int) = bs at *
  have hb : B01 bs := by rw [← hbs]; exact bitsL_01 _ _
  have hbl : bs.length = n := by rw [← hbs, bitsL_len]; rfl
  obtain ⟨m, h1, h2⟩ := padL_len bs
  have hB := padL_mem hb
  have hmn : m = (A ++ [z]).length := by omega
  have p := num_pack hB m (by omega)
  have hpk : packL bs = (List.range m).map (octB (padL bs)) := by
    unfold packL
    rw [show (((padL bs).length : Int) / 8).toNat = m from by omega]
    rfl
  have hpl : (packL bs).length = m := by rw [hpk, List.length_map, List.length_range]
  have q := digs_num p.2
  rw [← hpk, hpl] at q
  have r := digs_num ho
  rw [← q, ← r, hmn]
  congr 1
  rw [hpk, p.1, List.take_of_length_le (by omega)]
  unfold padL
  rw [nb_app, rep_zeros, nb_zeros, nb_snoc, List.length_replicate, nv]
  have hlz : ((8 - ((bs ++ [1]).length : Int) % 8) % 8).toNat = (lb - 1).toNat := by
    rw [List.length_append]
    simp only [List.length_cons, List.length_nil]
    omega
  rw [hlz]
  have hmod : num (A ++ [z]) % 2 ^ lb.toNat = 2 ^ (lb - 1).toNat := by
    rw [num_snoc, ← hm]
    have : (256 : Int) = 2 ^ (8 - lb).toNat * 2 ^ lb.toNat := by
      rw [← Int.pow_add, show (8 - lb).toNat + lb.toNat = 8 from by omega]
      rfl
    rw [this, ← Int.mul_assoc, Int.add_comm, Int.add_mul_emod_self_right]
  have hdm := Int.mul_ediv_add_emod (num (A ++ [z])) (2 ^ lb.toNat)
  rw [hmod] at hdm
  have hpw : (2 : Int) ^ lb.toNat = 2 * 2 ^ (lb - 1).toNat := by
    rw [show lb.toNat = (lb - 1).toNat + 1 from by omega, Int.pow_succ, Int.mul_comm]
  generalize num (A ++ [z]) / 2 ^ lb.toNat = v at *
  rw [Int.add_zero, Int.add_mul, Int.one_mul, ← hdm, hpw]
  have : v * 2 * 2 ^ (lb - 1).toNat = 2 * 2 ^ (lb - 1).toNat * v := by ac_rfl
  omega
theorem look_er {s : BrS} {p c : Int} (h : s.stop < p + c) : F_BitReader__look s p c = .er obE := by
  unfold F_BitReader__look
  rw [bnd_eq, if_pos h]
/-- any count of bits, asked of a reader that stands before bs -/
theorem get_any {s : BrS} {bs : List Int} {c : Int} (hc : 0 ≤ c ∧ c ≤ 65) (h : RR s bs) :
    ((bs.length : Int) < c ∧ F_BitReader__take s c = .er obE) ∨ (c ≤ (bs.length : Int) ∧ ∃ s', F_BitReader__take s c = .ok (nb (bs.take c.toNat), s') ∧ RR s' (bs.drop c.toNat)) := by
  have hl := h.len
  rcases (by omega : (bs.length : Int) < c ∨ c ≤ (bs.length : Int)) with q | q
  · refine .inl ⟨q, ?_⟩
    unfold F_BitReader__take
    rw [look_er (by omega)]
    rfl
  · refine .inr ⟨q, ?_⟩
    have h2 : RR s (bs.take c.toNat ++ bs.drop c.toNat) := by rw [List.take_append_drop]; exact h
    have lt : (bs.take c.toNat).length = c.toNat := by rw [List.length_take]; omega
    have m := rr_move h2
    have r := rr_look (Z := []) (X := bs.take c.toNat) (Y := bs.drop c.toNat) (by rw [List.nil_append]; exact h2)
    rw [lt, show ((c.toNat : Nat) : Int) = c from by omega] at m r
    rw [show s.place + (([] : List Int).length : Int) = s.place from Int.add_zero _] at r
    exact ⟨_, by rw [take_ok h.g hc (by omega), r], m⟩
/-- how a code begins: k noughts and a one, too many noughts, or nothing but noughts -/
theorem heads_any : ∀ (bs : List Int), B01 bs → (∃ (k : Nat) (r : List Int), k ≤ 32 ∧ bs = List.replicate k 0 ++ 1 :: r) ∨ (∃ r, bs = List.replicate 33 0 ++ r) ∨ (bs = List.replicate bs.length 0 ∧ bs.length ≤ 32) := by
  intro bs hb
  have aux : ∀ (n : Nat) (bs : List Int), B01 bs → (∃ (k : Nat) (r : List Int), k < n ∧ bs = List.replicate k 0 ++ 1 :: r) ∨ (∃ r, bs = List.replicate n 0 ++ r) ∨ (bs = List.replicate bs.length 0 ∧ bs.length < n) := by
    intro n
    induction n with
    | zero => exact fun bs _ => .inr (.inl ⟨bs, rfl⟩)
    | succ n ih =>
      intro bs hb
      cases bs with
      | nil => exact .inr (.inr ⟨rfl, Nat.succ_pos n⟩)
      | cons x r =>
        have hx := hb x (by simp)
        rcases (by omega : x = 0 ∨ x = 1) with rfl | rfl
        · rcases ih r (fun y hy => hb y (by simp [hy])) with ⟨k, t, hk, rfl⟩ | ⟨t, rfl⟩ | ⟨e, hl⟩
          · exact .inl ⟨k + 1, t, by omega, rfl⟩
          · exact .inr (.inl ⟨t, rfl⟩)
          · refine .inr (.inr ⟨?_, by simp; omega⟩)
            rw [List.length_cons, List.replicate_succ, ← e]
        · exact .inl ⟨0, r, Nat.succ_pos n, rfl⟩
  rcases aux 33 bs hb with ⟨k, r, hk, e⟩ | ⟨r, e⟩ | ⟨e, hl⟩
  · exact .inl ⟨k, r, by omega, e⟩
  · exact .inr (.inl ⟨r, e⟩)
  · exact .inr (.inr ⟨e, by omega⟩)
theorem whl_go {σ ρ : Type} {n : Nat} {s s' : σ} {f : σ → Rx (Lp σ ρ)} (h : f s = .ok (.go s')) : whileR (n + 1) s f = whileR n s' f := by
  show (f s).bind _ = _
  rw [h]
  rfl
theorem whl_er {σ ρ : Type} {n e : Nat} {s : σ} {f : σ → Rx (Lp σ ρ)} (h : f s = .er e) : whileR (n + 1) s f = .er e := by
  show (f s).bind _ = _
  rw [h]
  rfl
theorem look_at {s : BrS} {Z X Y : List Int} (h : RR s (Z ++ X ++ Y)) (hx : X.length ≤ 65) : F_BitReader__look s (s.place + (Z.length : Int)) (X.length : Int) = .ok (nb X) := by
  have hl := h.len
  have hp := h.g.place
  simp only [List.length_append] at hl
  rw [look_ok h.g (by omega) ⟨by omega, by omega⟩ (by omega), rr_look h]
theorem zrun {s : BrS} : ∀ z : Nat, z ≤ 32 → (∀ j : Nat, j < z → F_BitReader__look s (s.place + (j : Int)) 1 = .ok 0) → (whileR 1000000 (0 : Int) (fun q => F_BitReader__zeros_b1 s q) : Rx (Lp Int Int)) = whileR (1000000 - z) (z : Int) (fun q => F_BitReader__zeros_b1 s q)
  | 0, _, _ => rfl
  | z + 1, hz, h => by
    rw [zrun z (by omega) fun j hj => h j (by omega), show 1000000 - z = (1000000 - (z + 1)) + 1 from by omega]
    refine whl_go ?_
    unfold F_BitReader__zeros_b1
    rw [h z (by omega), bind_ok, if_pos rfl, bnd_eq, if_neg (by omega)]
    rfl
theorem zeros_app {j z : Nat} (h : j < z) (r : List Int) : List.replicate z (0 : Int) ++ r = List.replicate j 0 ++ [0] ++ (List.replicate (z - j - 1) 0 ++ r) := by
  have e : List.replicate z (0 : Int) = List.replicate j 0 ++ ([0] ++ List.replicate (z - j - 1) 0) := by
    rw [show [(0 : Int)] = List.replicate 1 0 from rfl, List.replicate_append_replicate, List.replicate_append_replicate]
    congr 1
    omega
  rw [e]
  simp
theorem look_zero {s : BrS} {z j : Nat} {r : List Int} (h : RR s (List.replicate z 0 ++ r)) (hj : j < z) : F_BitReader__look s (s.place + (j : Int)) 1 = .ok 0 := by
  rw [zeros_app hj] at h
  have := look_at h (by simp)
  rw [List.length_replicate] at this
  exact this
/-- any code, asked of a reader that stands before bs -/
theorem ue_any {s : BrS} {bs : List Int} (h : RR s bs) :
    (∃ (k : Nat) (r : List Int), k ≤ 32 ∧ bs = List.replicate k 0 ++ 1 :: r ∧ ((bs.length < 2 * k + 1 ∧ F_BitReader_get_ue s = .er obE) ∨ (2 * k + 1 ≤ bs.length ∧ ∃ s', F_BitReader_get_ue s = .ok (nb (bs.take (2 * k + 1)) - 1, s') ∧ RR s' (bs.drop (2 * k + 1))))) ∨
    (∃ r, bs = List.replicate 33 0 ++ r ∧ F_BitReader_get_ue s = .er boE) ∨ ((bs = List.replicate bs.length 0 ∧ bs.length ≤ 32) ∧ F_BitReader_get_ue s = .er obE) := by
  have hl := h.len
  rcases heads_any bs h.b with ⟨k, r, hk, e⟩ | ⟨r, e⟩ | ⟨e, hb⟩
  · refine .inl ⟨k, r, hk, e, ?_⟩
    have h2 := h
    rw [e] at h2
    have z0 := zrun (s := s) k hk fun j hj => look_zero h2 hj
    have h3 : RR s (List.replicate k 0 ++ [1] ++ r) := by simpa using h2
    have l1 := look_at h3 (by simp)
    rw [List.length_replicate] at l1
    have z1 : F_BitReader__zeros s = .ok (k : Int) := by
      unfold F_BitReader__zeros
      rw [z0, show 1000000 - k = (999999 - k) + 1 from by omega]
      have b1 : F_BitReader__zeros_b1 s (k : Int) = .ok (.bk (k : Int)) := by
        unfold F_BitReader__zeros_b1
        rw [show ((1 : Int)) = (([1] : List Int).length : Int) from rfl, l1, bind_ok]
        rfl
      show ((F_BitReader__zeros_b1 s (k : Int)).bind _).bind _ = _
      rw [b1]
      rfl
    have g : F_BitReader_get_ue s = (F_BitReader__take s (2 * (k : Int) + 1)).bind fun v => .ok (v.1 - 1, v.2) := by
      unfold F_BitReader_get_ue
      rw [z1]
      rfl
    rcases get_any (c := 2 * (k : Int) + 1) ⟨by omega, by omega⟩ h with ⟨q, t⟩ | ⟨q, s', t, hr⟩
    · exact .inl ⟨by omega, by rw [g, t]; rfl⟩
    · rw [show (2 * (k : Int) + 1).toNat = 2 * k + 1 from by omega] at t hr
      exact .inr ⟨by omega, s', by rw [g, t]; rfl, hr⟩
  · refine .inr (.inl ⟨r, e, ?_⟩)
    rw [e] at h
    have z0 := zrun (s := s) 32 (by omega) fun j hj => look_zero h (by omega)
    unfold F_BitReader_get_ue F_BitReader__zeros
    rw [z0]
    have b1 : F_BitReader__zeros_b1 s ((32 : Nat) : Int) = .er boE := by
      unfold F_BitReader__zeros_b1
      rw [look_zero h (j := 32) (by omega), bind_ok, if_pos rfl, bnd_eq, if_pos (by decide)]
    rw [show 1000000 - 32 = 999967 + 1 from rfl, whl_er b1]
    rfl
  · refine .inr (.inr ⟨⟨e, hb⟩, ?_⟩)
    have h2 : RR s (List.replicate bs.length 0 ++ []) := by rw [List.append_nil, ← e]; exact h
    have z0 := zrun (s := s) bs.length hb fun j hj => look_zero h2 hj
    unfold F_BitReader_get_ue F_BitReader__zeros
    rw [z0]
    have b1 : F_BitReader__zeros_b1 s (bs.length : Int) = .er obE := by
      unfold F_BitReader__zeros_b1
      rw [look_er (by omega)]
      rfl
    rw [show 1000000 - bs.length = (999999 - bs.length) + 1 from by omega, whl_er b1]
    rfl
end Pb
open Pb in
section
theorem nb_inj : ∀ (n : Nat) {xs ys : List Int}, B01 xs → B01 ys → xs.length = n → ys.length = n → nb xs = nb ys → xs = ys := by
  intro n
  induction n with
  | zero =>
    intro xs ys _ _ hx hy _
    rw [List.length_eq_zero_iff.mp hx, List.length_eq_zero_iff.mp hy]
  | succ n ih =>
    intro xs ys bx by_ hx hy he
    obtain ⟨A, a, rfl⟩ : ∃ A a, xs = A ++ [a] := ⟨xs.dropLast, xs.getLast (by intro z; rw [z] at hx; cases hx), (List.dropLast_concat_getLast _).symm⟩
    obtain ⟨B, b, rfl⟩ : ∃ B b, ys = B ++ [b] := ⟨ys.dropLast, ys.getLast (by intro z; rw [z] at hy; cases hy), (List.dropLast_concat_getLast _).symm⟩
    rw [nb_snoc, nb_snoc] at he
    have ha := bx a (by simp)
    have hb := by_ b (by simp)
    simp at hx hy
    rw [ih (fun x h => bx x (by simp [h])) (fun x h => by_ x (by simp [h])) hx hy (by omega), show a = b by omega]
def allB (o : List Int) : List Int := (o.map fun x => bitsL x 8).flatten
theorem allB_snoc (o : List Int) (x : Int) : allB (o ++ [x]) = allB o ++ bitsL x 8 := by
  unfold allB
  rw [List.map_append, List.flatten_append]
  simp
theorem allB_facts {o : List Int} (ho : ∀ x ∈ o, 0 ≤ x ∧ x ≤ 255) : B01 (allB o) ∧ (allB o).length = 8 * o.length ∧ nb (allB o) = num o := by
  refine snocInd (motive := fun o => (∀ x ∈ o, 0 ≤ x ∧ x ≤ 255) → B01 (allB o) ∧ (allB o).length = 8 * o.length ∧ nb (allB o) = num o) (fun _ => ⟨fun x h => (List.not_mem_nil h).elim, rfl, rfl⟩) (fun ys y ih h => ?_) o ho
  obtain ⟨a, b, c⟩ := ih fun x hx => h x (by simp [hx])
  have hy := h y (by simp)
  have l8 : (bitsL y 8).length = 8 := bitsL_len _ _
  rw [allB_snoc]
  refine ⟨b01_app a (bitsL_01 _ _), by rw [List.length_append, b, l8]; simp; omega, ?_⟩
  have n8 : nb (bitsL y 8) = y := nb_bitsL 8 (v := y) ⟨hy.1, by show y < 256; omega⟩
  rw [nb_app, c, l8, num_snoc, n8]
  rfl
theorem allB_pack {bs : List Int} (hb : B01 bs) : allB (packL bs) = padL bs := by
  obtain ⟨m, h1, h2⟩ := padL_len bs
  have hB := padL_mem hb
  have p := num_pack hB m (by omega)
  have hpk : packL bs = (List.range m).map (octB (padL bs)) := by
    unfold packL
    rw [show (((padL bs).length : Int) / 8).toNat = m from by omega]
    rfl
  have f := allB_facts (o := packL bs) (by rw [hpk]; exact p.2)
  have hl : (packL bs).length = m := by rw [hpk, List.length_map, List.length_range]
  refine nb_inj (8 * m) f.1 hB (by rw [f.2.1, hl]) (by omega) ?_
  rw [f.2.2, hpk, p.1, List.take_of_length_le (by omega)]
theorem bits_loop : ∀ (o acc : List Int), acc.length + 8 * o.length ≤ 900000 → forS o acc (fun s x => F__law_all_bits_b1 s x) = .ok (acc ++ allB o)
  | [], acc, _ => by show Rx.ok acc = _; rw [show allB [] = [] from rfl, List.append_nil]
  | x :: r, acc, h => by
    have h' : acc.length + 8 * (r.length + 1) ≤ 900000 := h
    have l8 : (bitsL x 8).length = 8 := bitsL_len _ _
    show Rx.bind (F__law_all_bits_b1 acc x) (fun s => forS r s fun s x => F__law_all_bits_b1 s x) = _
    unfold F__law_all_bits_b1
    rw [lbits_eq (by decide), bind_ok, grd_pos (by omega), bind_ok]
    refine (bits_loop r _ (by rw [List.length_append]; omega)).trans ?_
    unfold allB
    rw [List.map_cons, List.flatten_cons, List.append_assoc]
theorem number_eq {bs : List Int} (hb : B01 bs) (hl : bs.length ≤ 4000) : F__law_number bs = .ok (nb bs) := by
  unfold F__law_number
  rw [grd_pos ⟨by omega, by omega⟩, mapA_pure0 (g := fun k => itD bs k * 2 ^ Int.toNat ((bs.length : Int) - 1 - k)) (fun k hk => ?_) (by rw [rng_len]; omega), bind_ok]
  · congr 1
    have aux : ∀ xs : List Int, List.sum ((rng 0 xs.length).map fun k => itD xs k * 2 ^ Int.toNat ((xs.length : Int) - 1 - k)) = nb xs := by
      intro xs
      induction xs with
      | nil => rfl
      | cons x r ih =>
        have e : nb (x :: r) = x * 2 ^ r.length + nb r := by
          have := nb_app [x] r
          simpa [nb] using this
        rw [e, ← ih]
        unfold rng
        rw [List.map_map, List.map_map, List.length_cons, List.range_succ_eq_map, List.map_cons, List.sum_cons, List.map_map]
        congr 1
        · show itD (x :: r) (0 + ((0 : Nat) : Int)) * 2 ^ Int.toNat (((r.length + 1 : Nat) : Int) - 1 - (0 + ((0 : Nat) : Int))) = _
          rw [show Int.toNat (((r.length + 1 : Nat) : Int) - 1 - (0 + ((0 : Nat) : Int))) = r.length by omega, show itD (x :: r) (0 + ((0 : Nat) : Int)) = x from itD_nat (k := 0) rfl]
        · congr 1
          apply List.map_congr_left
          intro j hj
          have hj := List.mem_range.mp hj
          show itD (x :: r) (0 + ((j + 1 : Nat) : Int)) * 2 ^ Int.toNat (((r.length + 1 : Nat) : Int) - 1 - (0 + ((j + 1 : Nat) : Int))) = itD r (0 + (j : Int)) * 2 ^ Int.toNat ((r.length : Int) - 1 - (0 + (j : Int)))
          rw [show Int.toNat (((r.length + 1 : Nat) : Int) - 1 - (0 + ((j + 1 : Nat) : Int))) = Int.toNat ((r.length : Int) - 1 - (0 + (j : Int))) by omega, Int.zero_add, Int.zero_add,
            itD_nat (e := x :: r) (k := j + 1) (x := r[j]) (by simp), itD_nat (e := r) (k := j) (x := r[j]) (by simp)]
    exact aux bs
  · have hk := rng_mem hk
    have hin : -((bs.length : Int)) ≤ k ∧ k < (bs.length : Int) := by omega
    have b := hb _ (itD_mem hin)
    have bi := big_in (x := itD bs k) (by omega) (by omega)
    unfold F__law_number_c1
    rw [grd_pos hin, grd_pos ⟨by omega, by omega, bi.1, bi.2⟩]
    rfl
theorem forR_find {f : Unit → Int → Rx (Lp Unit ρ)} {r : ρ} : ∀ (xs : List Int) (k : Nat), k < xs.length → (∀ (j : Nat) (x : Int), j < k → xs[j]? = some x → f () x = .ok (.go ())) → (∀ x, xs[k]? = some x → f () x = .ok (.rt r)) → forR xs () f = .ok (.rt r)
  | [], k, h, _, _ => by cases h
  | x :: t, 0, _, _, h => by
    show (f () x).bind _ = _
    rw [h x rfl]
    rfl
  | x :: t, k + 1, hk, g, h => by
    show (f () x).bind _ = _
    rw [g 0 x (Nat.succ_pos k) rfl]
    exact forR_find t k (by simpa using hk) (fun j y hj hy => g (j + 1) y (by omega) (by simpa using hy)) fun y hy => h y (by simpa using hy)
theorem all_bits_ok {bs : List Int} (hb : B01 bs) (hl : (packL bs).length ≤ 1000) : F__law_all_bits (packL bs) = .ok bs := by
  unfold F__law_all_bits
  have e := bits_loop (packL bs) [] (by show 0 + 8 * (packL bs).length ≤ 900000; omega)
  rw [e, bind_ok, List.nil_append, allB_pack hb]
  unfold F__law_all_bits_r1
  have hk : ((8 - ((bs ++ [1]).length : Int) % 8) % 8).toNat ≤ 7 := by omega
  have hp : padL bs = bs ++ [1] ++ List.replicate ((8 - ((bs ++ [1]).length : Int) % 8) % 8).toNat 0 := by
    unfold padL
    rw [rep_zeros]
  rw [hp]
  generalize ((8 - ((bs ++ [1]).length : Int) % 8) % 8).toNat = k at hk
  have ln : ((bs ++ [1] ++ List.replicate k (0 : Int)).length : Int) = bs.length + 1 + k := by simp; omega
  have at0 : ∀ j : Nat, j < k → itD (bs ++ [1] ++ List.replicate k (0 : Int)) ((((bs ++ [1] ++ List.replicate k (0 : Int)).length : Int) - 1) - (0 + (j : Int))) = 0 := fun j hj => by
    rw [ln, show (bs.length : Int) + 1 + k - 1 - (0 + (j : Int)) = ((bs.length + k - j : Nat) : Int) by omega]
    refine itD_nat ?_
    rw [List.getElem?_append_right (by simp; omega), List.getElem?_replicate, if_pos (by simp; omega)]
  have at1 : itD (bs ++ [1] ++ List.replicate k (0 : Int)) ((((bs ++ [1] ++ List.replicate k (0 : Int)).length : Int) - 1) - (0 + (k : Int))) = 1 := by
    rw [ln, show (bs.length : Int) + 1 + k - 1 - (0 + (k : Int)) = ((bs.length : Nat) : Int) by omega]
    refine itD_nat ?_
    simp
  have fd := forR_find (ρ := List Int) (r := bs) (f := fun s x => F__law_all_bits_b2 (bs ++ [1] ++ List.replicate k (0 : Int)) x) (rng 0 (Int.toNat 8)) k (by rw [rng_len]; show k < 8; omega) (fun j x hj hx => by
    obtain ⟨rfl, hi⟩ := rng_at hx
    show F__law_all_bits_b2 _ _ = _
    unfold F__law_all_bits_b2
    rw [grd_pos ⟨by omega, by omega⟩, at0 j hj, if_neg (by decide)]) (fun x hx => by
    obtain ⟨rfl, hi⟩ := rng_at hx
    show F__law_all_bits_b2 _ _ = _
    unfold F__law_all_bits_b2
    rw [grd_pos ⟨by omega, by omega⟩, at1, if_pos rfl, ln, show (bs.length : Int) + 1 + k - 1 - (0 + (k : Int)) = ((bs.length : Nat) : Int) by omega]
    have : cutL (bs ++ [1] ++ List.replicate k (0 : Int)) none (some ((bs.length : Nat) : Int)) = bs := by
      unfold cutL
      rw [HT.sIx_nat, HT.sIx_none]
      simp
    rw [this])
  rw [fd]
  rfl
theorem cut_tk (bs : List Int) (n : Nat) : cutL bs none (some (n : Int)) = bs.take n := by
  unfold cutL
  rw [HT.sIx_nat, HT.sIx_none]
  simp [List.take_eq_take_iff]
theorem cut_dr (bs : List Int) (n : Nat) : cutL bs (some (n : Int)) none = bs.drop n := by
  unfold cutL
  rw [HT.sIx_nat]
  simp [HT.sIx_none]
  rcases Nat.le_total n bs.length with h | h
  · rw [Nat.min_eq_left h]
    exact List.take_of_length_le (by rw [List.length_drop]; exact Nat.le_refl _)
  · rw [Nat.min_eq_right h, List.drop_length, List.drop_eq_nil_of_le h]
    exact List.take_nil
theorem cut_md (bs : List Int) (k n : Nat) (h : k ≤ n) (hn : n ≤ bs.length) : cutL bs (some (k : Int)) (some (n : Int)) = (bs.take n).drop k := by
  unfold cutL
  rw [HT.sIx_nat, HT.sIx_nat, Nat.min_eq_left hn, Nat.min_eq_left (show k ≤ bs.length by omega), List.drop_take]
def Rf (c : Int) : PyData := encT2 PyData.str PyData.int (("refused" : Str), c)
theorem it_zero {k j : Nat} {r : List Int} (h : j < k) : itD (List.replicate k (0 : Int) ++ r) (j : Int) = 0 := by
  refine itD_nat ?_
  rw [List.getElem?_append_left (by simp; omega), List.getElem?_replicate, if_pos h]
theorem it_one {k : Nat} {r : List Int} : itD (List.replicate k (0 : Int) ++ 1 :: r) (k : Int) = 1 := by
  refine itD_nat ?_
  rw [List.getElem?_append_right (by simp)]
  simp
theorem mn33 (n : Nat) : Int.toNat (if (n : Int) < 33 then (n : Int) else 33) = min n 33 := by
  split <;> omega
theorem code_one {bs : List Int} {k : Nat} {r : List Int} (hb : B01 bs) (hl : bs.length ≤ 4000) (hk : k ≤ 32) (e : bs = List.replicate k 0 ++ 1 :: r) :
    (bs.length < 2 * k + 1 → F__law_code bs = .ok (Rf 1, 0)) ∧ (2 * k + 1 ≤ bs.length → F__law_code bs = .ok (.int (nb (bs.take (2 * k + 1)) - 1), 2 * (k : Int) + 1)) := by
  have ln : bs.length = k + (r.length + 1) := by rw [e]; simp
  have go : ∀ R, F__law_code_b1 bs (k : Int) = .ok (.rt R) → F__law_code bs = .ok R := fun R hR => by
    unfold F__law_code
    rw [grd_pos ⟨by split <;> omega, by split <;> omega⟩, mn33]
    have fd := forR_find (ρ := PyData × Int) (r := R) (f := fun s x => F__law_code_b1 bs x) (rng 0 (min bs.length 33)) k (by rw [rng_len]; omega) (fun j x hj hx => by
      obtain ⟨rfl, hi⟩ := rng_at hx
      show F__law_code_b1 _ _ = _
      unfold F__law_code_b1
      have z : itD bs (0 + (j : Int)) = 0 := by
        rw [Int.zero_add, e]
        exact it_zero hj
      rw [grd_pos ⟨by omega, by omega⟩, z, if_neg (by decide)]) (fun x hx => by
      obtain ⟨rfl, hi⟩ := rng_at hx
      rw [Int.zero_add]
      exact hR)
    rw [fd]
    rfl
  have one : itD bs (k : Int) = 1 := by rw [e]; exact it_one
  constructor
  · intro h
    refine go _ ?_
    unfold F__law_code_b1
    rw [grd_pos ⟨by omega, by omega⟩, one, if_pos rfl, if_pos (by omega)]
    rfl
  · intro h
    refine go _ ?_
    have cm := cut_md bs k (2 * k + 1) (by omega) h
    have tk : bs.take (2 * k + 1) = List.replicate k 0 ++ (bs.take (2 * k + 1)).drop k := by
      have : (bs.take (2 * k + 1)).take k = List.replicate k 0 := by
        rw [List.take_take, Nat.min_eq_left (by omega), e, List.take_left' (by simp)]
      rw [← this, List.take_append_drop]
    unfold F__law_code_b1
    rw [grd_pos ⟨by omega, by omega⟩, one, if_pos rfl, if_neg (by omega), show (2 * (k : Int) + 1) = ((2 * k + 1 : Nat) : Int) by omega, cm,
      number_eq (fun x hx => hb x (List.mem_of_mem_take (List.mem_of_mem_drop hx))) (by rw [List.length_drop, List.length_take]; omega), bind_ok]
    have : nb (bs.take (2 * k + 1)) = nb ((bs.take (2 * k + 1)).drop k) := by
      have h2 := congrArg nb tk
      rw [nb_app, nb_zeros, Int.zero_mul, Int.zero_add] at h2
      exact h2
    rw [this]
theorem code_none {bs : List Int} (hl : bs.length ≤ 4000) (z : ∀ j : Nat, j < min bs.length 33 → itD bs (j : Int) = 0) : F__law_code bs = .ok (if 33 ≤ (bs.length : Int) then (Rf 2, 0) else (Rf 1, 0)) := by
  unfold F__law_code
  rw [grd_pos ⟨by split <;> omega, by split <;> omega⟩, mn33, forR_unit (fun x hx => by
    have hx := rng_mem hx
    obtain ⟨j, rfl⟩ := Int.eq_ofNat_of_zero_le hx.1
    show F__law_code_b1 _ _ = _
    unfold F__law_code_b1
    rw [grd_pos ⟨by omega, by omega⟩, z j (by omega), if_neg (by decide)])]
  show F__law_code_r1 bs = _
  unfold F__law_code_r1
  by_cases h : 33 ≤ (bs.length : Int)
  · rw [if_pos h, if_pos h]
    rfl
  · rw [if_neg h, if_neg h]
    rfl
/-- what the law says of a code, and what the reader does -/
theorem code_any {s : BrS} {bs : List Int} (h : RR s bs) (hl : bs.length ≤ 4000) :
    (∃ v n s', F__law_code bs = .ok (.int v, n) ∧ F_BitReader_get_ue s = .ok (v, s') ∧ RR s' (bs.drop n.toNat) ∧ 0 ≤ n) ∨ (F__law_code bs = .ok (Rf 1, 0) ∧ F_BitReader_get_ue s = .er obE) ∨ (F__law_code bs = .ok (Rf 2, 0) ∧ F_BitReader_get_ue s = .er boE) := by
  rcases ue_any h with ⟨k, r, hk, e, ⟨q, g⟩ | ⟨q, s', g, h'⟩⟩ | ⟨r, e, g⟩ | ⟨⟨e, hb⟩, g⟩
  · exact .inr (.inl ⟨(code_one h.b hl hk e).1 q, g⟩)
  · refine .inl ⟨_, _, s', (code_one h.b hl hk e).2 q, g, ?_, by omega⟩
    rw [show (2 * (k : Int) + 1).toNat = 2 * k + 1 by omega]
    exact h'
  · refine .inr (.inr ⟨?_, g⟩)
    have c := code_none hl (fun j hj => by rw [e]; exact it_zero (by omega))
    rw [if_pos (by rw [e]; simp; omega)] at c
    exact c
  · refine .inr (.inl ⟨?_, g⟩)
    have c := code_none hl (fun j hj => by
      have : itD (List.replicate bs.length (0 : Int) ++ []) (j : Int) = 0 := it_zero (by omega)
      rw [List.append_nil, ← e] at this
      exact this)
    rw [if_neg (by omega)] at c
    exact c
def Nice (d : PyData) : Prop := dBool d = false ∧ SeqAt.shaped d = true ∧ PyData.eqv d d = true
theorem nice_i (v : Int) : Nice (.int v) := ⟨rfl, shaped_of encOk_int (by decide) v, by rw [show PyData.eqv (.int v) (.int v) = decide (v = v) from encOk_int.eqv v v]; simp⟩
theorem nice_R (c : Int) : Nice (Rf c) := by
  refine ⟨rfl, ?_, ?_⟩
  · unfold SeqAt.shaped Rf encT2
    simp [PyData.canLay0, PyData.canLayAll0, PyData.depth, PyData.depthAll]
    decide +kernel
  · unfold Rf encT2
    simp [PyData.eqv, PyData.eqvAll]
theorem se_same (x : Int) : (if (PySem.Builtin.bitAnd x 1 != 0) = true then (x + 1) / 2 else -(x / 2)) = (if PySem.Builtin.bitAnd x 1 = 1 then (x + 1) / 2 else -x / 2) := by
  rw [bit_mod]
  rcases (by omega : x % 2 = 0 ∨ x % 2 = 1) with h | h
  · rw [h, if_neg (by decide), if_neg (by decide)]
    omega
  · rw [h, if_pos (by decide), if_pos rfl]
theorem step_ok {s : BrS} {bs : List Int} {kind count : Int} (h : RR s bs) (hl : bs.length ≤ 4000) (hk : kind = 0 ∨ kind = 1 ∨ kind = 2) (hc : 0 ≤ count ∧ count ≤ 64) :
    ∃ d n s', F__law_due bs kind count = .ok (d, n) ∧ F__law_read s kind count = .ok (d, s') ∧ RR s' (bs.drop n.toNat) ∧ 0 ≤ n ∧ Nice d := by
  unfold F__law_due F__law_read
  have r1 : ∀ (A B : Rx (PyData × BrS)), (if (2 : Nat) = 2 then A else B) = A := fun A B => if_pos rfl
  have r2 : ∀ (A B : Rx (PyData × BrS)), (if (3 : Nat) = 2 then A else B) = B := fun A B => if_neg (by decide)
  rcases hk with rfl | rfl | rfl
  · rw [if_pos rfl, if_pos rfl]
    have g : F_BitReader_get s count = F_BitReader__take s count := by
      unfold F_BitReader_get
      rw [if_pos hc.1, if_pos hc.2]
      cases F_BitReader__take s count <;> rfl
    rw [g]
    rcases get_any (c := count) ⟨hc.1, by omega⟩ h with ⟨q, t⟩ | ⟨q, s', t, h'⟩
    · refine ⟨Rf 1, 0, s, ?_, ?_, h, Int.le_refl 0, nice_R 1⟩
      · rw [if_pos q]
        rfl
      · rw [t, tryR_er (by simp)]
        rfl
    · refine ⟨.int (nb (bs.take count.toNat)), count, s', ?_, ?_, h', hc.1, nice_i _⟩
      · rw [if_neg (by omega), show count = ((count.toNat : Nat) : Int) by omega, cut_tk, number_eq (fun x hx => h.b x (List.mem_of_mem_take hx)) (by rw [List.length_take]; omega), bind_ok]
        rw [show ((count.toNat : Nat) : Int).toNat = count.toNat by omega]
      · rw [t, tryR_ok]
  · rw [if_neg (by decide), if_neg (by decide), if_pos rfl]
    rcases code_any h hl with ⟨v, n, s', e, g, h', hn⟩ | ⟨e, g⟩ | ⟨e, g⟩
    · exact ⟨.int v, n, s', by rw [e, bind_ok, if_pos rfl], by rw [g, tryR_ok], h', hn, nice_i _⟩
    · exact ⟨Rf 1, 0, s, by rw [e, bind_ok, if_pos rfl], by rw [g, tryR_er (by simp)]; rfl, h, Int.le_refl 0, nice_R 1⟩
    · exact ⟨Rf 2, 0, s, by rw [e, bind_ok, if_pos rfl], by rw [g, tryR_er (by simp)]; rfl, h, Int.le_refl 0, nice_R 2⟩
  · rw [if_neg (by decide), if_neg (by decide), if_neg (by decide)]
    have gs : F_BitReader_get_se s = (F_BitReader_get_ue s).bind fun v => .ok ((if (PySem.Builtin.bitAnd v.1 1 != 0) = true then (v.1 + 1) / 2 else -(v.1 / 2)), v.2) := rfl
    rw [gs]
    rcases code_any h hl with ⟨v, n, s', e, g, h', hn⟩ | ⟨e, g⟩ | ⟨e, g⟩
    · refine ⟨.int (if PySem.Builtin.bitAnd v 1 = 1 then (v + 1) / 2 else -v / 2), n, s', ?_, ?_, h', hn, nice_i _⟩
      · rw [e, bind_ok, if_neg (by decide)]
        show (if dTup (.int v) = true then _ else grd ((cI).ok (.int v) = true) (if PySem.Builtin.bitAnd v 1 = 1 then Rx.ok (PyData.int ((v + 1) / 2), n) else Rx.ok (PyData.int (-v / 2), n))) = _
        rw [if_neg (by show ¬ (false = true); decide), grd_pos (show (cI).ok (.int v) = true from rfl)]
        split <;> rfl
      · rw [g, bind_ok, tryR_ok]
        show Rx.ok (PyData.int (if (PySem.Builtin.bitAnd v 1 != 0) = true then (v + 1) / 2 else -(v / 2)), s') = _
        rw [se_same]
    · exact ⟨Rf 1, 0, s, by rw [e, bind_ok, if_neg (by decide)]; rfl, by rw [g, bind_er, tryR_er (by simp)]; rfl, h, Int.le_refl 0, nice_R 1⟩
    · exact ⟨Rf 2, 0, s, by rw [e, bind_ok, if_neg (by decide)]; rfl, by rw [g, bind_er, tryR_er (by simp)]; rfl, h, Int.le_refl 0, nice_R 2⟩
theorem left_eq {s : BrS} {bs : List Int} (h : RR s bs) : F_BitReader_left s = .ok (bs.length : Int) := by
  have := h.len
  unfold F_BitReader_left
  rw [show s.stop - s.place = (bs.length : Int) by omega]
def Inv7 (q : BrS × List Int) : Prop := RR q.1 q.2 ∧ q.2.length ≤ 4000
theorem k4_gv {s : BrS} {bs : List Int} {kind count : Int} (h : Inv7 (s, bs)) (hk : kind = 0 ∨ kind = 1 ∨ kind = 2) (hc : 0 ≤ count ∧ count ≤ 64) : Gv (F_law_k4 s bs count kind) (fun l => ∃ q, l = .go q ∧ Inv7 q) := by
  obtain ⟨d, n, s', e1, e2, h', hn, nd, ns, ne⟩ := step_ok h.1 h.2 hk hc
  have hd : cutL bs (some n) none = bs.drop n.toNat := by
    rw [show n = ((n.toNat : Nat) : Int) by omega, cut_dr]
    rfl
  unfold F_law_k4
  refine Gv.bind_eq e1 (Gv.bind_eq e2 (Gv.neg (by rw [nd]; decide) (Gv.grd ⟨ns, ns⟩ (Gv.neg (by rw [ne]; decide) (Gv.bind_eq (a := (((bs.drop n.toNat).length : Nat) : Int)) (by rw [left_eq h']; rfl) (Gv.pos (by rw [hd]) (.ok ⟨_, rfl, ?_, ?_⟩)))))))
  · show RR s' (cutL bs (some n) none)
    rw [hd]
    exact h'
  · show (cutL bs (some n) none).length ≤ 4000
    rw [hd, List.length_drop]
    have := h.2
    show bs.length - n.toNat ≤ 4000
    have : bs.length ≤ 4000 := h.2
    omega
theorem b2_gv {q : BrS × List Int} (x : Int) (h : Inv7 q) : Gv (F_law_b2 q.1 q.2 x) (fun l => ∃ q, l = .go q ∧ Inv7 q) := by
  unfold F_law_b2
  refine Gv.bind (draws_gv x _ (by decide) (by decide)) fun D hD => ?_
  obtain ⟨d0, r0, rfl, a0, b0, hD⟩ := hD.cons
  obtain ⟨d1, r1, rfl, a1, b1, hD⟩ := hD.cons
  obtain ⟨d2, r2, rfl, a2, b2, hD⟩ := hD.cons
  obtain rfl := hD.nil
  have e0 : itD [d0, d1, d2] 0 = d0 := rfl
  have e1 : itD [d0, d1, d2] 1 = d1 := rfl
  have e2 : itD [d0, d1, d2] 2 = d2 := rfl
  rw [e0, e1, e2]
  refine Gv.grd (ixg (n := 3) rfl (by decide)) (Gv.bnd fun kind hkind => Gv.grd (ixg (n := 3) rfl (by decide)) (Gv.bnd fun count hcount => ?_))
  have hk : kind = 0 ∨ kind = 1 ∨ kind = 2 := by rw [hkind]; split <;> omega
  refine Gv.bind (P := fun c => 0 ≤ c ∧ c ≤ 64) (Gv.grd (ixg (n := 3) rfl (by decide)) (Gv.ite (fun _ => Gv.grd (ixg (n := 3) rfl (by decide)) (Gv.bnd fun c hc => .ok ⟨by omega, by omega⟩)) fun _ => .ok ⟨by omega, by omega⟩)) fun c hc => ?_
  unfold F_law_k3
  rw [e0, e2]
  refine Gv.bind (P := fun k => k = 0 ∨ k = 1 ∨ k = 2) (Gv.grd (ixg (n := 3) rfl (by decide)) (Gv.ite (fun _ => Gv.grd (ixg (n := 3) rfl (by decide)) (Gv.ite (fun _ => .ok (.inl rfl)) fun _ => .ok hk)) fun _ => .ok hk)) fun k hk2 => k4_gv h hk2 hc
theorem octets_gv (c m : Int) : Gv (F__law_octets c m) (fun o => o ≠ [] ∧ ¬ itD o (-1) = 0 ∧ (∀ x ∈ o, 0 ≤ x ∧ x ≤ 255) ∧ o.length ≤ 40) := by
  have h0 := Int.emod_nonneg c (show (40 : Int) ≠ 0 by decide)
  have h1 := Int.emod_lt_of_pos c (show (0 : Int) < 40 by decide)
  unfold F__law_octets
  refine Gv.bnd fun z hz => Gv.grd ⟨by omega, by omega, by show 1 * z.toNat ≤ _; omega⟩ ?_
  have hlr : (repL [(256 : Int)] z).length = z.toNat := len_rep1 _ _
  refine Gv.bind (draws_gv m _ (fun x hx => by rw [mem_rep1 hx]; decide) (by omega)) fun v hv => ?_
  have hvl := hv.len
  have hvm : ∀ x ∈ v, 0 ≤ x ∧ x ≤ 255 := by
    have aux : ∀ (ls v : List Int), Inb v ls → (∀ l ∈ ls, l = 256) → ∀ x ∈ v, 0 ≤ x ∧ x ≤ 255 := by
      intro ls
      induction ls with
      | nil => intro v h _ x hx; rw [h.nil] at hx; cases hx
      | cons l ls ih =>
        intro v h hl x hx
        obtain ⟨a, r, rfl, a0, a1, hr⟩ := h.cons
        have := hl l (by simp)
        rcases List.mem_cons.mp hx with rfl | hx
        · omega
        · exact ih r hr (fun y hy => hl y (by simp [hy])) x hx
    exact aux _ v hv fun l hl => mem_rep1 hl
  refine Gv.bind (P := fun o => o.length = v.length ∧ ∀ x ∈ o, 0 ≤ x ∧ x ≤ 255) (Gv.ite (fun _ => ?_) fun _ => .ok ⟨rfl, hvm⟩) fun o ho => ?_
  · have mp := mapA_pure0 (xs := v) (f := fun x => noEr (F__law_octets_c2 x)) (g := fun x => (if decide (235 < x) = true then 1 else 0) * x) (fun x hx => by
      have hx := hvm x hx
      unfold F__law_octets_c2
      rw [grd_pos (.inr ⟨by omega, by omega⟩)]
      rfl) (by omega)
    refine Gv.bind_eq mp (.ok ⟨List.length_map _, fun y hy => ?_⟩)
    obtain ⟨x, hx, rfl⟩ := List.mem_map.mp hy
    have hx := hvm x hx
    show 0 ≤ (if decide (235 < x) = true then 1 else 0) * x ∧ (if decide (235 < x) = true then 1 else 0) * x ≤ 255
    split <;> omega
  · have hol : 1 ≤ o.length := by omega
    have hin : -(o.length : Int) ≤ -1 ∧ -1 < (o.length : Int) := by omega
    unfold F__law_octets_k1
    refine Gv.grd hin (Gv.grd hin (Gv.bnd fun y hy => .ok ?_))
    obtain ⟨A, z2, rfl⟩ : ∃ A z, o = A ++ [z] := ⟨o.dropLast, o.getLast (by intro e; rw [e] at hol; cases hol), (List.dropLast_concat_getLast _).symm⟩
    have hz2 := ho.2 z2 (by simp)
    rw [itD_end] at hy
    have st : setL (A ++ [z2]) (-1) (if z2 > 1 then z2 else 1) = A ++ [if z2 > 1 then z2 else 1] := by
      unfold setL
      have : ixN (A ++ [z2]).length (-1) = some A.length := by
        unfold ixN
        rw [if_neg (by decide), if_pos (by simp; omega)]
        simp
        omega
      rw [this]
      simp
    rw [hy, st]
    refine ⟨by simp, ?_, fun x hx => ?_, ?_⟩
    · rw [itD_end]
      split <;> omega
    · rcases List.mem_append.mp hx with q | q
      · exact ho.2 x (by simp [q])
      · rw [List.mem_singleton.mp q]
        split <;> omega
    · have := ho.1
      simp at this ⊢
      omega
theorem law_true (xs : List Int) (h : xs.length ≤ 63) : F_law xs = .ok true := by
  refine Gv.get ?_
  unfold F_law
  refine Gv.bind (cell_gv _ _ (by decide)) fun c _ => Gv.bind (cell_gv _ _ (by decide)) fun m _ => Gv.bind (octets_gv c m) fun o ho => ?_
  obtain ⟨hne, hz, hm, hl⟩ := ho
  obtain ⟨bs, hb, hp, hbl⟩ := pack_any hne hz hm
  obtain ⟨s0, e0, R0⟩ := init_pack hb
  have ab := all_bits_ok hb (by rw [hp]; omega)
  rw [hp] at e0 ab
  have lb := (lb_in (last_oct hne hz hm)).1
  refine Gv.bind_eq e0 (Gv.pos rfl (Gv.bind_eq ab (Gv.grd ⟨by omega, by omega⟩ (Gv.bind (Gv.forS (P := fun _ q => q.length = o.length) rfl fun i x q hx hq => ?_) fun q hq => ?_))))
  · obtain ⟨rfl, hi⟩ := rng_at hx
    have hi : i < o.length := by simpa using hi
    unfold F_law_b1
    refine Gv.grd ⟨by omega, by omega⟩ (Gv.grd ⟨by omega, by omega⟩ (Gv.bnd fun y hy => .ok ?_))
    rw [hy]
    unfold setL
    rw [List.length_set]
    exact hq
  · unfold F_law_r1
    refine Gv.grd (by omega) (Gv.bnd fun _ _ => Gv.bind (Gv.forR (P := fun _ q => Inv7 q) ⟨R0, by show bs.length ≤ 4000; omega⟩ fun i x q _ hq => b2_gv x hq) fun l hl2 => ?_)
    obtain ⟨q2, rfl, h2⟩ := hl2
    rw [aft_go]
    unfold F_law_r2
    refine Gv.bind_eq (a := (q2.2.length : Int)) (by rw [left_eq h2.1]; rfl) (.ok (decide_eq_true rfl))
end

end Vx
namespace Vx
open PySem PySem.Spec PyProof.Rows L2
def topS (i : Nat) : Stmt := PySem.Challenge.pw_thaumatrope_k07_any_octets_read_as_bits.main.body.getD i (.Pass ⟨0, 0, 0, 0⟩)
abbrev s__law_draws : Stmt := topS 12
abbrev s__law_octets : Stmt := topS 17
abbrev s__last_bit : Stmt := topS 9
abbrev s_BitReader___init__ : Stmt := inClass (topS 8) 0
abbrev s__law_bits : Stmt := topS 13
abbrev s__law_all_bits : Stmt := topS 18
abbrev s__law_cell : Stmt := topS 11
abbrev s__law_number : Stmt := topS 19
abbrev s__law_code : Stmt := topS 20
abbrev s__law_due : Stmt := topS 21
abbrev s_BitReader__look : Stmt := inClass (topS 8) 7
abbrev s_BitReader__zeros : Stmt := inClass (topS 8) 5
abbrev s_BitReader__take : Stmt := inClass (topS 8) 6
abbrev s_BitReader_get_ue : Stmt := inClass (topS 8) 3
abbrev s_BitReader_get_se : Stmt := inClass (topS 8) 4
abbrev s_BitReader_get : Stmt := inClass (topS 8) 2
abbrev s__law_read : Stmt := topS 22
abbrev s_BitReader_left : Stmt := inClass (topS 8) 1
abbrev s_law : Stmt := topS 23
structure Ads where
  c_BitReader : Addr
  x_CodecError : Addr
  x_OutOfRange : Addr
  x_OutOfBits : Addr
  x_BadOctets : Addr
  z0 : Addr
def excA (AD : Ads) : Nat → Addr
  | 0 => AD.x_CodecError
  | 1 => AD.x_OutOfRange
  | 2 => AD.x_OutOfBits
  | 3 => AD.x_BadOctets
  | _ => AD.z0
structure Txt (w : World) (K : PySem.W.Frag) (mg : Str → Option Value) (AD : Ads) : Prop where
  b_abs : mg "abs" = none
  b_int : mg "int" = none
  b_max : mg "max" = none
  b_list : mg "list" = none
  b_len : mg "len" = none
  b_range : mg "range" = none
  b_sum : mg "sum" = none
  b_min : mg "min" = none
  b_isinstance : mg "isinstance" = none
  b_tuple : mg "tuple" = none
  g_MOST_ZEROS : ∃ u, mg "MOST_ZEROS" = some u ∧ RelV (V.int 32) u
  g_MOST_BITS : ∃ u, mg "MOST_BITS" = some u ∧ RelV (V.int 64) u
  b_bool : mg "bool" = none
  cl_BitReader : Cls K AD.c_BitReader
  n_BitReader__octets : NoAttr K AD.c_BitReader "_octets"
  n_BitReader__place : NoAttr K AD.c_BitReader "_place"
  n_BitReader__end : NoAttr K AD.c_BitReader "_end"
  xg_BadOctets : mg "BadOctets" = some (.ref AD.x_BadOctets)
  xx_BadOctets : PySem.W.excIn K AD.x_BadOctets [.type "ValueError", .type "Exception", .type "BaseException", .type "object"] "ValueError.__new__" = true
  xk_BadOctets : PySem.W.keepIn K (.ref AD.x_BadOctets) = true
  xb_BadOctets : PySem.W.subIn K (.ref AD.x_BadOctets) (.type "BaseException") = some true
  xt_BadOctets : PySem.W.typeIn K (.ref AD.x_BadOctets) = some (.type "type")
  xg_OutOfBits : mg "OutOfBits" = some (.ref AD.x_OutOfBits)
  xx_OutOfBits : PySem.W.excIn K AD.x_OutOfBits [.type "ValueError", .type "Exception", .type "BaseException", .type "object"] "ValueError.__new__" = true
  xk_OutOfBits : PySem.W.keepIn K (.ref AD.x_OutOfBits) = true
  xb_OutOfBits : PySem.W.subIn K (.ref AD.x_OutOfBits) (.type "BaseException") = some true
  xt_OutOfBits : PySem.W.typeIn K (.ref AD.x_OutOfBits) = some (.type "type")
  xg_OutOfRange : mg "OutOfRange" = some (.ref AD.x_OutOfRange)
  xx_OutOfRange : PySem.W.excIn K AD.x_OutOfRange [.type "ValueError", .type "Exception", .type "BaseException", .type "object"] "ValueError.__new__" = true
  xk_OutOfRange : PySem.W.keepIn K (.ref AD.x_OutOfRange) = true
  xb_OutOfRange : PySem.W.subIn K (.ref AD.x_OutOfRange) (.type "BaseException") = some true
  xt_OutOfRange : PySem.W.typeIn K (.ref AD.x_OutOfRange) = some (.type "type")
  xg_CodecError : mg "CodecError" = some (.ref AD.x_CodecError)
  xx_CodecError : PySem.W.excIn K AD.x_CodecError [.type "ValueError", .type "Exception", .type "BaseException", .type "object"] "ValueError.__new__" = true
  xk_CodecError : PySem.W.keepIn K (.ref AD.x_CodecError) = true
  xb_CodecError : PySem.W.subIn K (.ref AD.x_CodecError) (.type "BaseException") = some true
  xt_CodecError : PySem.W.typeIn K (.ref AD.x_CodecError) = some (.type "type")
  xm_OutOfBits_OutOfBits : PySem.W.exmOne K (.ref AD.x_OutOfBits) (.ref AD.x_OutOfBits) = some true
  xm_BadOctets_BadOctets : PySem.W.exmOne K (.ref AD.x_BadOctets) (.ref AD.x_BadOctets) = some true
  xmf_BadOctets_OutOfBits : PySem.W.exmOne K (.ref AD.x_BadOctets) (.ref AD.x_OutOfBits) = some false
  xo_OutOfBits_CodecError : PySem.W.kitOne K (.ref AD.x_OutOfBits) (.ref AD.x_CodecError) = some true
  xo_BadOctets_CodecError : PySem.W.kitOne K (.ref AD.x_BadOctets) (.ref AD.x_CodecError) = some true
  xn_OutOfBits_BadOctets : PySem.W.kitOne K (.ref AD.x_OutOfBits) (.ref AD.x_BadOctets) = some false
  xn_BadOctets_OutOfBits : PySem.W.kitOne K (.ref AD.x_BadOctets) (.ref AD.x_OutOfBits) = some false
  xc_OutOfBits : ExcC K AD.x_OutOfBits
  xc_BadOctets : ExcC K AD.x_BadOctets
abbrev pat__law_draws_0 : Pat := (2, [], fun vs _ => vs)
abbrev pats__law_draws : List Pat := [pat__law_draws_0]
abbrev pat__law_octets_0 : Pat := (2, [], fun vs _ => vs)
abbrev pats__law_octets : List Pat := [pat__law_octets_0]
abbrev pat__last_bit_0 : Pat := (1, [], fun vs _ => vs)
abbrev pats__last_bit : List Pat := [pat__last_bit_0]
abbrev pat_BitReader___init___0 : Pat := (2, [], fun vs _ => vs)
abbrev pats_BitReader___init__ : List Pat := [pat_BitReader___init___0]
abbrev pat__law_bits_0 : Pat := (2, [], fun vs _ => vs)
abbrev pats__law_bits : List Pat := [pat__law_bits_0]
abbrev pat__law_all_bits_0 : Pat := (1, [], fun vs _ => vs)
abbrev pats__law_all_bits : List Pat := [pat__law_all_bits_0]
abbrev pat__law_cell_0 : Pat := (2, [], fun vs _ => vs)
abbrev pats__law_cell : List Pat := [pat__law_cell_0]
abbrev pat__law_number_0 : Pat := (1, [], fun vs _ => vs)
abbrev pats__law_number : List Pat := [pat__law_number_0]
abbrev pat__law_code_0 : Pat := (1, [], fun vs _ => vs)
abbrev pats__law_code : List Pat := [pat__law_code_0]
abbrev pat__law_due_0 : Pat := (3, [], fun vs _ => vs)
abbrev pats__law_due : List Pat := [pat__law_due_0]
abbrev pat_BitReader__look_0 : Pat := (3, [], fun vs _ => vs)
abbrev pats_BitReader__look : List Pat := [pat_BitReader__look_0]
abbrev pat_BitReader__zeros_0 : Pat := (1, [], fun vs _ => vs)
abbrev pats_BitReader__zeros : List Pat := [pat_BitReader__zeros_0]
abbrev pat_BitReader__take_0 : Pat := (2, [], fun vs _ => vs)
abbrev pats_BitReader__take : List Pat := [pat_BitReader__take_0]
abbrev pat_BitReader_get_ue_0 : Pat := (1, [], fun vs _ => vs)
abbrev pats_BitReader_get_ue : List Pat := [pat_BitReader_get_ue_0]
abbrev pat_BitReader_get_se_0 : Pat := (1, [], fun vs _ => vs)
abbrev pats_BitReader_get_se : List Pat := [pat_BitReader_get_se_0]
abbrev pat_BitReader_get_0 : Pat := (2, [], fun vs _ => vs)
abbrev pats_BitReader_get : List Pat := [pat_BitReader_get_0]
abbrev pat__law_read_0 : Pat := (3, [], fun vs _ => vs)
abbrev pats__law_read : List Pat := [pat__law_read_0]
abbrev pats_BitReader_left : List Pat := []
abbrev pats_law : List Pat := []
def sp__law_draws (K : PySem.W.Frag) (AD : Ads) : Sp := fun vs H Q E => ∃ (G : Hp) (cell' : Int) (a_limits : Addr) (limits' : List Int), vs = [.int cell', .ref a_limits] ∧ Same G H ∧ (hideL [] H) a_limits = some (.lst ((limits' : List Int).map V.int)) ∧ cW (F__law_draws cell' limits') (fun v => ∀ p H', H p = none → Same H H' → H' p = some (.lst (v.map V.int)) → Q (.ref p) H') (fun e => ∀ H', Same H H' → E (.ref (excA AD e)) none H')
def sp__law_octets (K : PySem.W.Frag) (AD : Ads) : Sp := fun vs H Q E => ∃ (G : Hp) (cell' : Int) (more' : Int), vs = [.int cell', .int more'] ∧ Same G H ∧ cW (F__law_octets cell' more') (fun v => ∀ p H', H p = none → Same H H' → H' p = some (.lst (v.map V.int)) → Q (.ref p) H') (fun e => ∀ H', Same H H' → E (.ref (excA AD e)) none H')
def sp__last_bit (K : PySem.W.Frag) (AD : Ads) : Sp := fun vs H Q E => ∃ (G : Hp) (octet' : Int), vs = [.int octet'] ∧ Same G H ∧ cW (F__last_bit octet') (fun v => ∀ H', Same H H' → Q (.int v) H') (fun e => ∀ H', Same H H' → E (.ref (excA AD e)) none H')
def sp_BitReader___init__ (K : PySem.W.Frag) (AD : Ads) : Sp := fun vs H Q E => ∃ (G : Hp) (p_self dx_self : Addr) (a_octets : Addr) (octets' : List Int), vs = [.ref p_self, .ref a_octets] ∧ Same G H ∧ (∀ a ∈ [p_self], G a = none) ∧ H p_self = some (.ins AD.c_BitReader dx_self []) ∧ (hideL [p_self] H) a_octets = some (.lst ((octets' : List Int).map V.int)) ∧ cW (F_BitReader___init__ octets') (fun v => ∀ (H' : Hp) (l_octs : Addr), SameX p_self H H' → H l_octs = none → H' p_self = some (.ins AD.c_BitReader dx_self [("_octets", V.ref l_octs), ("_place", V.int v.place), ("_end", V.int v.stop)]) → H' l_octs = some (.lst (v.octs.map V.int)) → Q .non H') (fun e => ∀ H', SameX p_self H H' → E (.ref (excA AD e)) none H')
def sp__law_bits (K : PySem.W.Frag) (AD : Ads) : Sp := fun vs H Q E => ∃ (G : Hp) (value' : Int) (count' : Int), vs = [.int value', .int count'] ∧ Same G H ∧ cW (F__law_bits value' count') (fun v => ∀ p H', H p = none → Same H H' → H' p = some (.lst (v.map V.int)) → Q (.ref p) H') (fun e => ∀ H', Same H H' → E (.ref (excA AD e)) none H')
def sp__law_all_bits (K : PySem.W.Frag) (AD : Ads) : Sp := fun vs H Q E => ∃ (G : Hp) (a_octets : Addr) (octets' : List Int), vs = [.ref a_octets] ∧ Same G H ∧ (hideL [] H) a_octets = some (.lst ((octets' : List Int).map V.int)) ∧ cW (F__law_all_bits octets') (fun v => ∀ p H', H p = none → Same H H' → H' p = some (.lst (v.map V.int)) → Q (.ref p) H') (fun e => ∀ H', Same H H' → E (.ref (excA AD e)) none H')
def sp__law_cell (K : PySem.W.Frag) (AD : Ads) : Sp := fun vs H Q E => ∃ (G : Hp) (a_script : Addr) (script' : List Int) (k' : Int), vs = [.ref a_script, .int k'] ∧ Same G H ∧ SqL K H a_script ((script' : List Int).map V.int) ∧ cW (F__law_cell script' k') (fun v => Q (.int v) H) (fun e => E (.ref (excA AD e)) none H)
def sp__law_number (K : PySem.W.Frag) (AD : Ads) : Sp := fun vs H Q E => ∃ (G : Hp) (a_bits : Addr) (bits' : List Int), vs = [.ref a_bits] ∧ Same G H ∧ (hideL [] H) a_bits = some (.lst ((bits' : List Int).map V.int)) ∧ cW (F__law_number bits') (fun v => ∀ H', Same H H' → Q (.int v) H') (fun e => ∀ H', Same H H' → E (.ref (excA AD e)) none H')
def sp__law_code (K : PySem.W.Frag) (AD : Ads) : Sp := fun vs H Q E => ∃ (G : Hp) (a_bits : Addr) (bits' : List Int), vs = [.ref a_bits] ∧ Same G H ∧ (hideL [] H) a_bits = some (.lst ((bits' : List Int).map V.int)) ∧ cW (F__law_code bits') (fun v => ∀ u H' G', Same H H' → Same G G' → Same G' H' → (∀ b, H b ≠ none → G b = none → G' b = none) → Rp G' u ((encT2 encD PyData.int) v) → Q u H') (fun e => ∀ H', Same H H' → E (.ref (excA AD e)) none H')
def sp__law_due (K : PySem.W.Frag) (AD : Ads) : Sp := fun vs H Q E => ∃ (G : Hp) (a_bits : Addr) (bits' : List Int) (kind' : Int) (count' : Int), vs = [.ref a_bits, .int kind', .int count'] ∧ Same G H ∧ (hideL [] H) a_bits = some (.lst ((bits' : List Int).map V.int)) ∧ cW (F__law_due bits' kind' count') (fun v => ∀ u H' G', Same H H' → Same G G' → Same G' H' → (∀ b, H b ≠ none → G b = none → G' b = none) → Rp G' u ((encT2 encD PyData.int) v) → Q u H') (fun e => ∀ H', Same H H' → E (.ref (excA AD e)) none H')
def sp_BitReader__look (K : PySem.W.Frag) (AD : Ads) : Sp := fun vs H Q E => ∃ (G : Hp) (p_self l_self_octs dx_self : Addr) (self' : St_BitReader) (place' : Int) (count' : Int), vs = [.ref p_self, .int place', .int count'] ∧ Same G H ∧ (hideL [] H) p_self = some (.ins AD.c_BitReader dx_self [("_octets", V.ref l_self_octs), ("_place", V.int self'.place), ("_end", V.int self'.stop)]) ∧ (hideL [] H) l_self_octs = some (.lst ((self'.octs : (List Int)).map V.int)) ∧ cW (F_BitReader__look self' place' count') (fun v => ∀ H', Same H H' → Q (.int v) H') (fun e => ∀ H', Same H H' → E (.ref (excA AD e)) none H')
def sp_BitReader__zeros (K : PySem.W.Frag) (AD : Ads) : Sp := fun vs H Q E => ∃ (G : Hp) (p_self l_self_octs dx_self : Addr) (self' : St_BitReader), vs = [.ref p_self] ∧ Same G H ∧ (hideL [] H) p_self = some (.ins AD.c_BitReader dx_self [("_octets", V.ref l_self_octs), ("_place", V.int self'.place), ("_end", V.int self'.stop)]) ∧ (hideL [] H) l_self_octs = some (.lst ((self'.octs : (List Int)).map V.int)) ∧ cW (F_BitReader__zeros self') (fun v => ∀ H', Same H H' → Q (.int v) H') (fun e => ∀ H', Same H H' → E (.ref (excA AD e)) none H')
def sp_BitReader__take (K : PySem.W.Frag) (AD : Ads) : Sp := fun vs H Q E => ∃ (G : Hp) (p_self l_self_octs dx_self : Addr) (self' : St_BitReader) (count' : Int), vs = [.ref p_self, .int count'] ∧ Same G H ∧ (∀ a ∈ [p_self, l_self_octs], G a = none) ∧ H p_self = some (.ins AD.c_BitReader dx_self [("_octets", V.ref l_self_octs), ("_place", V.int self'.place), ("_end", V.int self'.stop)]) ∧ H l_self_octs = some (.lst ((self'.octs : (List Int)).map V.int)) ∧ cW (F_BitReader__take self' count') (fun v => ∀ (H' : Hp), SameXs [p_self, l_self_octs] H H' → H' p_self = some (.ins AD.c_BitReader dx_self [("_octets", V.ref l_self_octs), ("_place", V.int v.2.place), ("_end", V.int v.2.stop)]) → H' l_self_octs = some (.lst ((v.2.octs : (List Int)).map V.int)) → Q (.int v.1) H') (fun e => ∀ H', Same H H' → E (.ref (excA AD e)) none H')
def sp_BitReader_get_ue (K : PySem.W.Frag) (AD : Ads) : Sp := fun vs H Q E => ∃ (G : Hp) (p_self l_self_octs dx_self : Addr) (self' : St_BitReader), vs = [.ref p_self] ∧ Same G H ∧ (∀ a ∈ [p_self, l_self_octs], G a = none) ∧ H p_self = some (.ins AD.c_BitReader dx_self [("_octets", V.ref l_self_octs), ("_place", V.int self'.place), ("_end", V.int self'.stop)]) ∧ H l_self_octs = some (.lst ((self'.octs : (List Int)).map V.int)) ∧ cW (F_BitReader_get_ue self') (fun v => ∀ (H' : Hp), SameXs [p_self, l_self_octs] H H' → H' p_self = some (.ins AD.c_BitReader dx_self [("_octets", V.ref l_self_octs), ("_place", V.int v.2.place), ("_end", V.int v.2.stop)]) → H' l_self_octs = some (.lst ((v.2.octs : (List Int)).map V.int)) → Q (.int v.1) H') (fun e => ∀ H', Same H H' → E (.ref (excA AD e)) none H')
def sp_BitReader_get_se (K : PySem.W.Frag) (AD : Ads) : Sp := fun vs H Q E => ∃ (G : Hp) (p_self l_self_octs dx_self : Addr) (self' : St_BitReader), vs = [.ref p_self] ∧ Same G H ∧ (∀ a ∈ [p_self, l_self_octs], G a = none) ∧ H p_self = some (.ins AD.c_BitReader dx_self [("_octets", V.ref l_self_octs), ("_place", V.int self'.place), ("_end", V.int self'.stop)]) ∧ H l_self_octs = some (.lst ((self'.octs : (List Int)).map V.int)) ∧ cW (F_BitReader_get_se self') (fun v => ∀ (H' : Hp), SameXs [p_self, l_self_octs] H H' → H' p_self = some (.ins AD.c_BitReader dx_self [("_octets", V.ref l_self_octs), ("_place", V.int v.2.place), ("_end", V.int v.2.stop)]) → H' l_self_octs = some (.lst ((v.2.octs : (List Int)).map V.int)) → Q (.int v.1) H') (fun e => ∀ H', Same H H' → E (.ref (excA AD e)) none H')
def sp_BitReader_get (K : PySem.W.Frag) (AD : Ads) : Sp := fun vs H Q E => ∃ (G : Hp) (p_self l_self_octs dx_self : Addr) (self' : St_BitReader) (count' : Int), vs = [.ref p_self, .int count'] ∧ Same G H ∧ (∀ a ∈ [p_self, l_self_octs], G a = none) ∧ H p_self = some (.ins AD.c_BitReader dx_self [("_octets", V.ref l_self_octs), ("_place", V.int self'.place), ("_end", V.int self'.stop)]) ∧ H l_self_octs = some (.lst ((self'.octs : (List Int)).map V.int)) ∧ cW (F_BitReader_get self' count') (fun v => ∀ (H' : Hp), SameXs [p_self, l_self_octs] H H' → H' p_self = some (.ins AD.c_BitReader dx_self [("_octets", V.ref l_self_octs), ("_place", V.int v.2.place), ("_end", V.int v.2.stop)]) → H' l_self_octs = some (.lst ((v.2.octs : (List Int)).map V.int)) → Q (.int v.1) H') (fun e => ∀ H', Same H H' → E (.ref (excA AD e)) none H')
def sp__law_read (K : PySem.W.Frag) (AD : Ads) : Sp := fun vs H Q E => ∃ (G : Hp) (p_reader l_reader_octs dx_reader : Addr) (reader' : St_BitReader) (kind' : Int) (count' : Int), vs = [.ref p_reader, .int kind', .int count'] ∧ Same G H ∧ (∀ a ∈ [p_reader, l_reader_octs], G a = none) ∧ H p_reader = some (.ins AD.c_BitReader dx_reader [("_octets", V.ref l_reader_octs), ("_place", V.int reader'.place), ("_end", V.int reader'.stop)]) ∧ H l_reader_octs = some (.lst ((reader'.octs : (List Int)).map V.int)) ∧ cW (F__law_read reader' kind' count') (fun v => ∀ (H' : Hp), SameXs [p_reader, l_reader_octs] H H' → H' p_reader = some (.ins AD.c_BitReader dx_reader [("_octets", V.ref l_reader_octs), ("_place", V.int v.2.place), ("_end", V.int v.2.stop)]) → H' l_reader_octs = some (.lst ((v.2.octs : (List Int)).map V.int)) → ∀ u G', Same G G' → Same G' H' → (∀ b, H b ≠ none → G b = none → G' b = none) → Rp G' u (encD v.1) → Q u H') (fun e => ∀ H', Same H H' → E (.ref (excA AD e)) none H')
def sp_BitReader_left (K : PySem.W.Frag) (AD : Ads) : Sp := fun vs H Q E => ∃ (G : Hp) (p_self l_self_octs dx_self : Addr) (self' : St_BitReader), vs = [.ref p_self] ∧ Same G H ∧ (hideL [] H) p_self = some (.ins AD.c_BitReader dx_self [("_octets", V.ref l_self_octs), ("_place", V.int self'.place), ("_end", V.int self'.stop)]) ∧ (hideL [] H) l_self_octs = some (.lst ((self'.octs : (List Int)).map V.int)) ∧ cW (F_BitReader_left self') (fun v => ∀ H', Same H H' → Q (.int v) H') (fun e => ∀ H', Same H H' → E (.ref (excA AD e)) none H')
def sp_law (K : PySem.W.Frag) (AD : Ads) : Sp := fun vs H Q E => ∃ (a_script : Addr) (script : List Int), vs = [.ref a_script] ∧ SqL K H a_script (script.map V.int) ∧ cW (F_law script) (fun v => v = true) (fun _ => False) ∧ ∀ H', Q (.bl true) H'
section
variable {P : Program} {w : World} {K : PySem.W.Frag} {mg : Str → Option Value} {base : Heap} {AD : Ads}
abbrev N__law_draws : List Str := ["cell", "limits", "found", "rest", "state", "free", "limit"]
theorem sc__law_draws : FnScope N__law_draws ["cell", "limits"] (defScope s__law_draws) := ⟨rfl, rfl, rfl, by decide +kernel, rfl, by decide +kernel, by decide +kernel⟩
theorem ok__law_draws (D : DefX K mg "_law_draws" s__law_draws ["cell", "limits"] pats__law_draws) (T : Txt w K mg AD)  : CalX P w K mg base 1 "_law_draws" (sp__law_draws K AD) pats__law_draws := by
  refine D.ok sc__law_draws (fun vs H Q E h => ?_) (fun f cdv A_ outer s H vs Q E hr h => ?_)
  · obtain ⟨G, cell', a_limits, limits', rfl, _⟩ := h
    rfl
  · obtain ⟨G, cell', a_limits, limits', rfl, sG, q_limits, hw⟩ := h
    refine ⟨_, (pss_cons (ps_set (i := 2) sc__law_draws.nd rfl (Or.inl rfl) (pe_lst pa_nil))
      (pss_cons (ps_set (i := 3) sc__law_draws.nd rfl (Or.inl rfl) (pe_callB call_abs (by rfl) T.b_abs (by decide +kernel) (pa_cons (pe_callTy call_int1 (by rfl) T.b_int (by decide +kernel) (pa_cons (pv 0) pa_nil)) pa_nil)))
      (pss_cons (ps_set (i := 4) sc__law_draws.nd rfl (Or.inl rfl) (pe_op op_mod (pe_callTy call_int1 (by rfl) T.b_int (by decide +kernel) (pa_cons (pv 3) pa_nil)) pe_int))
      (pss_cons (ps_set (i := 5) sc__law_draws.nd rfl (Or.inl rfl) (pe_or (pe_cmp (pc_lt (pv 0) pe_int)) (pe_one (pe_cmp (pc_ge (pv 0) (pe_op op_pow pe_int pe_int))))))
      (pss_cons (ps_for (passes_of rfl) rfl (pi_listK (K := K) (pv 1)) (pg_name (i := 6) sc__law_draws.nd rfl (Or.inl rfl)) (pss_one (ps_if (PW.pt (pw_and (pt_val (pv 5)) (pw_and1 (pt_cmp (pc_gt (pv 3) pe_int))))) (pss_cons (ps_expr (pe_bm PySem.F.plainAttrs_list PySem.F.slot_list_append PySem.F.type_list_append mt_append (pv 2) (pa_cons (pe_op op_mod (pe_callTy call_int1 (by rfl) T.b_int (by decide +kernel) (pa_cons (pv 3) pa_nil)) (pv 6)) pa_nil)))
      (pss_one (ps_set (i := 3) sc__law_draws.nd rfl (Or.inl rfl) (pe_op op_fdivW (pv 3) (pv 6))))) (pss_cons (ps_set (i := 4) sc__law_draws.nd rfl (Or.inl rfl) (pe_op op_mod (pe_callTy call_int1 (by rfl) T.b_int (by decide +kernel) (pa_cons (pe_op op_add (pe_op op_mul (pv 4) pe_int) pe_int) pa_nil)) pe_int))
      (pss_cons (ps_set (i := 4) sc__law_draws.nd rfl (Or.inl rfl) (pe_op op_mod (pe_callTy call_int1 (by rfl) T.b_int (by decide +kernel) (pa_cons (pe_op op_add (pe_op op_mul (pv 4) pe_int) pe_int) pa_nil)) pe_int))
      (pss_one (ps_expr (pe_bm PySem.F.plainAttrs_list PySem.F.slot_list_append PySem.F.type_list_append mt_append (pv 2) (pa_cons (pe_op op_mod (pe_callTy call_int1 (by rfl) T.b_int (by decide +kernel) (pa_cons (pe_op op_fdivW (pv 4) pe_int) pa_nil)) (pv 6)) pa_nil)))))))))
      (pss_one (ps_ret (pv 2)))))))), ?_⟩
    obtain ⟨KK, EE, hK0, hE, hw⟩ := cW_gen hw
    have S0 := Sep.startG sG
    unfold F__law_draws at hw
    refine ⟨(by show 0 ≤ sizeLine; decide), fun p1 n2 => ?_⟩
    generalize g3 : upd H p1 _ = H4
    obtain ⟨e5, h6⟩ := gen_new n2 g3
    have h7 : H4 p1 = some (.lst ((([] : (List Int)) : (List Int)).map V.int)) := h6
    have fr8 := S0.free n2
    have S9 := S0.new n2 e5 h7 fr8
    refine ⟨_, rfl, .inl ⟨_, rfl, ?_⟩⟩
    refine ⟨_, rfl, ?_⟩
    have hw := cW_bnd hw
    refine ⟨_, rfl, .inl ⟨_, rfl, ?_⟩⟩
    refine ⟨_, _, rfl, rfl, (show (0 : Int) < 2147483647 by decide), ?_⟩
    have hw := cW_bnd hw
    refine vv_or (ta := (tLt (tVar 0) (tC (V.int 0)))) (tb := (tGe (tVar 0) (tOp (rI CPow fun i j => V.int (i ^ j.toNat)) (tC (V.int 10)) (tC (V.int 18))))) (a := decide (cell' < 0)) (b := decide (((10 : Int) ^ Int.toNat 18) ≤ cell')) ?ha12 ?hb13 _ ?_
    case ha12 => exact (vv_cmp (val_var rfl) val_c (fun Q q => ⟨_, _, rfl, rfl, q⟩))
    case hb13 => exact (vv_cmp (val_var rfl) (val_op val_c val_c (fun Q q => ⟨_, _, rfl, rfl, ⟨by decide, by decide, by decide⟩, q⟩)) (fun Q q => ⟨_, _, rfl, rfl, q⟩))
    have hw := cW_bnd hw
    obtain ⟨K16, hK17, hw⟩ := cW_push hw
    refine ⟨_, rfl, _, rfl, ⟨_, (SqL.of (S9.bM _ _ q_limits))⟩, for_list (K := K) (a := a_limits) (xs := (limits' : List Int).map V.int) (fun i σ H' => ∃ (found_18 : (List Int)) (rest_19 : Int) (state_20 : Int) (u21 : Option V) (G' : Hp), σ = [some (V.int (cell')), some (V.ref a_limits), some (V.ref p1), some (V.int rest_19), some (V.int state_20), some (V.bl ((decide (cell' < 0) || decide (((10 : Int) ^ Int.toNat 18) ≤ cell')))), u21] ∧ Same G G' ∧ Sep [] H G G' H' [p1] ∧ H' p1 = some (.lst ((found_18 : (List Int)).map V.int)) ∧ cW (forS (List.drop i (limits')) (found_18, rest_19, state_20) (fun s x => F__law_draws_b1 ((decide (cell' < 0) || decide (((10 : Int) ^ Int.toNat 18) ≤ cell'))) (s.1) (s.2.1) (s.2.2) x)) K16 EE) ?_ ?_ ?_ ?_⟩
    · exact ⟨(([] : (List Int))), ((if cell' < 0 then -cell' else cell')), (((if cell' < 0 then -cell' else cell') % 2147483647)), _, _, rfl, (Same.refl _), S9, h7, hw⟩
    · intro i σ H22 _ hw
      obtain ⟨found_18, rest_19, state_20, u21, G25, rfl, eG26, S23, h24, hw⟩ := hw
      exact (SqL.of (S23.bM _ _ q_limits))
    · intro i x σ H27 hj hw
      obtain ⟨found_18, rest_19, state_20, u21, G30, rfl, eG31, S28, h29, hw⟩ := hw
      obtain ⟨x32, hx, rfl⟩ := map_get hj
      have hw := cW_forS hx hw
      have hw : cW (F__law_draws_b1 ((decide (cell' < 0) || decide (((10 : Int) ^ Int.toNat 18) ≤ cell'))) (found_18) (rest_19) (state_20) (x32)) _ EE := hw
      unfold F__law_draws_b1 at hw
      obtain ⟨K36, hK37, hw⟩ := cW_name hw
      refine ⟨_, rfl, _, rfl, ?_⟩
      refine iteB (fun c39 => ?_) (fun c39 => ?_)
      · have hw := cW_pos c39 hw
        refine ⟨_, rfl, _, _, rfl, rfl, _, rfl, ?_⟩
        refine iteD (fun c40 => ?_) (fun c40 => ?_)
        · have hw := cW_pos c40 hw
          refine ⟨_, rfl, (.inl ⟨rfl, _, SqL.of h29⟩), _, rfl, .inl ⟨_, rfl, ?_⟩⟩
          obtain ⟨g41, hw⟩ := cW_grd hw
          obtain ⟨g42, hw⟩ := cW_grd hw
          refine ⟨_, rfl, _, _, rfl, rfl, g41, _, _, _, rfl, rfl, h29, (app_lenM g42), ?_⟩
          generalize g43 : upd H27 p1 _ = H44
          obtain ⟨x45, h46⟩ := gen_mut g43
          have h47 : H44 p1 = some (.lst (((found_18) ++ [(rest_19 % x32)] : (List Int)).map V.int)) := snoc_map h46
          have S48 := S28.mut1 x45 (.head _) h47
          have hw := cW_bnd hw
          obtain ⟨g50, hw⟩ := cW_grd hw
          refine ⟨_, rfl, _, rfl, _, _, rfl, rfl, (divW_small g50.1 g50.2), ?_⟩
          have hw := cW_bnd hw
          have hw := cW_ok hw
          have hw := hK37 _ hw
          exact ⟨((found_18) ++ [(rest_19 % x32)]), ((rest_19 / x32)), (state_20), _, _, rfl, eG31, S48, h47, hw⟩
        · have hw := cW_neg c40 hw
          refine ⟨_, rfl, _, _, rfl, rfl, (.inr ⟨by decide, by decide⟩), _, _, rfl, rfl, .inl ⟨_, rfl, ?_⟩⟩
          refine ⟨_, _, rfl, rfl, (show (0 : Int) < 2147483647 by decide), ?_⟩
          have hw := cW_bnd hw
          refine ⟨_, rfl, _, _, rfl, rfl, (.inr ⟨by decide, by decide⟩), _, _, rfl, rfl, .inl ⟨_, rfl, ?_⟩⟩
          refine ⟨_, _, rfl, rfl, (show (0 : Int) < 2147483647 by decide), ?_⟩
          have hw := cW_bnd hw
          refine ⟨_, rfl, (.inl ⟨rfl, _, SqL.of h29⟩), _, rfl, _, _, rfl, rfl, (divW_lit (by decide) (by decide)), .inl ⟨_, rfl, ?_⟩⟩
          obtain ⟨g54, hw⟩ := cW_grd hw
          obtain ⟨g55, hw⟩ := cW_grd hw
          refine ⟨_, rfl, _, _, rfl, rfl, g54, _, _, _, rfl, rfl, h29, (app_lenM g55), ?_⟩
          generalize g56 : upd H27 p1 _ = H57
          obtain ⟨x58, h59⟩ := gen_mut g56
          have h60 : H57 p1 = some (.lst (((found_18) ++ [((((((((state_20 * 48271) + 11) % 2147483647) * 69621) + 7) % 2147483647) / 13) % x32)] : (List Int)).map V.int)) := snoc_map h59
          have S61 := S28.mut1 x58 (.head _) h60
          have hw := cW_bnd hw
          have hw := cW_ok hw
          have hw := hK37 _ hw
          exact ⟨((found_18) ++ [((((((((state_20 * 48271) + 11) % 2147483647) * 69621) + 7) % 2147483647) / 13) % x32)]), (rest_19), (((((((state_20 * 48271) + 11) % 2147483647) * 69621) + 7) % 2147483647)), _, _, rfl, eG31, S61, h60, hw⟩
      · have hw := cW_negB c39 hw
        refine iteF ?_
        refine ⟨_, rfl, _, _, rfl, rfl, (.inr ⟨by decide, by decide⟩), _, _, rfl, rfl, .inl ⟨_, rfl, ?_⟩⟩
        refine ⟨_, _, rfl, rfl, (show (0 : Int) < 2147483647 by decide), ?_⟩
        have hw := cW_bnd hw
        refine ⟨_, rfl, _, _, rfl, rfl, (.inr ⟨by decide, by decide⟩), _, _, rfl, rfl, .inl ⟨_, rfl, ?_⟩⟩
        refine ⟨_, _, rfl, rfl, (show (0 : Int) < 2147483647 by decide), ?_⟩
        have hw := cW_bnd hw
        refine ⟨_, rfl, (.inl ⟨rfl, _, SqL.of h29⟩), _, rfl, _, _, rfl, rfl, (divW_lit (by decide) (by decide)), .inl ⟨_, rfl, ?_⟩⟩
        obtain ⟨g65, hw⟩ := cW_grd hw
        obtain ⟨g66, hw⟩ := cW_grd hw
        refine ⟨_, rfl, _, _, rfl, rfl, g65, _, _, _, rfl, rfl, h29, (app_lenM g66), ?_⟩
        generalize g67 : upd H27 p1 _ = H68
        obtain ⟨x69, h70⟩ := gen_mut g67
        have h71 : H68 p1 = some (.lst (((found_18) ++ [((((((((state_20 * 48271) + 11) % 2147483647) * 69621) + 7) % 2147483647) / 13) % x32)] : (List Int)).map V.int)) := snoc_map h70
        have S72 := S28.mut1 x69 (.head _) h71
        have hw := cW_bnd hw
        have hw := cW_ok hw
        have hw := hK37 _ hw
        exact ⟨((found_18) ++ [((((((((state_20 * 48271) + 11) % 2147483647) * 69621) + 7) % 2147483647) / 13) % x32)]), (rest_19), (((((((state_20 * 48271) + 11) % 2147483647) * 69621) + 7) % 2147483647)), _, _, rfl, eG31, S72, h71, hw⟩
    · intro σ H74 hw
      obtain ⟨found_18, rest_19, state_20, u21, G77, rfl, eG78, S75, h76, hw⟩ := hw
      have hw := hK17 _ (cW_forS0 (by rw [List.length_map]) hw)
      have hw : cW (F__law_draws_r1  (found_18) (rest_19) (state_20)) _ EE := hw
      unfold F__law_draws_r1 at hw
      refine ⟨_, rfl, ?_⟩
      have hw := cW_ok hw
      exact hK0 _ hw _ _ fr8 S75.b0 h76

abbrev N__law_octets : List Str := ["cell", "more", "size", "octets", "octet"]
theorem sc__law_octets : FnScope N__law_octets ["cell", "more"] (defScope s__law_octets) := ⟨rfl, rfl, rfl, by decide +kernel, rfl, by decide +kernel, by decide +kernel⟩
theorem ok__law_octets (D : DefX K mg "_law_octets" s__law_octets ["cell", "more"] pats__law_octets) (T : Txt w K mg AD) (c__law_draws : CalX P w K mg base 1 "_law_draws" (sp__law_draws K AD) pats__law_draws) : CalX P w K mg base 2 "_law_octets" (sp__law_octets K AD) pats__law_octets := by
  refine D.ok sc__law_octets (fun vs H Q E h => ?_) (fun f cdv A_ outer s H vs Q E hr h => ?_)
  · obtain ⟨G, cell', more', rfl, _⟩ := h
    rfl
  · obtain ⟨G, cell', more', rfl, sG, hw⟩ := h
    refine ⟨_, (pss_cons (ps_set (i := 2) sc__law_octets.nd rfl (Or.inl rfl) (pe_op op_add pe_int (pe_op op_mod (pe_callTy call_int1 (by rfl) T.b_int (by decide +kernel) (pa_cons (pv 0) pa_nil)) pe_int)))
      (pss_cons (ps_set (i := 3) sc__law_octets.nd rfl (Or.inl rfl) (vx_callX c__law_draws pat__law_draws_0 (.head _) hr (by decide) (takes_of rfl rfl rfl rfl) rfl (pa_cons (pv 1) (pa_cons (pe_op op_rep (pe_lst (pa_cons pe_int pa_nil)) (pv 2)) pa_nil)) pk_nil))
      (C8.pss_cut (ps_if (pt_cmp (pc_eqI (pe_op op_mod (pe_op op_fdivW (pe_callTy call_int1 (by rfl) T.b_int (by decide +kernel) (pa_cons (pv 0) pa_nil)) pe_int) pe_int) pe_int)) (pss_one (ps_setLc (i := 3) (y := "octets") rfl sc__law_octets.nd rfl rfl (sw_true rfl rfl rfl (by decide +kernel)) (own := [("octet", 4)]) (g := gName 4) (pi_listK (K := K) (pv 3)) (blkOk_by (own := [("octet", 4)]) (N := N__law_octets) (sc := defScope s__law_octets) (by decide +kernel)) (fun _ _ _ _ _ => (pg_name (i := 4) sc__law_octets.nd rfl (Or.inl rfl))) (fun _ _ _ _ _ => pts_nil) (fun _ _ _ _ _ => (pe_op op_mul (pe_callTy call_int1 (by rfl) T.b_int (by decide +kernel) (pa_cons (pe_cmp (pc_gt (pv 4) pe_int)) pa_nil)) (pv 4))))) pss_nil)
      (pss_cons (ps_asg (pe_callB (call_max2 rfl) (by rfl) T.b_max (by decide +kernel) (pa_cons pe_int (pa_cons (pe_ix (ix_listK (K := K)) (pv 3) (pe_un un_neg pe_int) (fun _ _ => rfl)) pa_nil))) (pg_sub (pv 3) (pe_un un_neg pe_int) set_list))
      (pss_one (ps_ret (pv 3))))))), ?_⟩
    obtain ⟨KK, EE, hK0, hE, hw⟩ := cW_gen hw
    have S0 := Sep.startG sG
    unfold F__law_octets at hw
    refine ⟨_, rfl, .inl ⟨_, rfl, ?_⟩⟩
    refine ⟨_, _, rfl, rfl, (show (0 : Int) < 40 by decide), _, _, rfl, rfl, ?_⟩
    have hw := cW_bnd hw
    refine ⟨_, rfl, (by show 1 ≤ sizeLine; decide), fun p83 n84 => ?_⟩
    generalize g85 : upd H p83 _ = H86
    obtain ⟨e87, h88⟩ := gen_new n84 g85
    have h89 : H86 p83 = some (.lst (([256] : (List Int)).map V.int)) := h88
    have fr90 := S0.free n84
    have S91 := S0.new n84 e87 h89 fr90
    obtain ⟨g92, hw⟩ := cW_grd hw
    refine ⟨_, rfl, _, _, _, rfl, rfl, h89, g92.1, g92.2.1, (rep_lenM g92.2.2), fun p93 n94 => ?_⟩
    generalize g95 : upd H86 p93 _ = H96
    obtain ⟨e97, h98⟩ := gen_new n94 g95
    have h99 : H96 p93 = some (.lst ((repL ([256]) ((1 + (cell' % 40))) : (List Int)).map V.int)) := rep_map h98
    have fr100 := S91.free n94
    have S101 := S91.new n94 e97 h99 fr100
    refine ⟨rfl, rfl, G, _, _, _, rfl, S101.sG, (hide_nil h99), cW_call hw (fun v102 hw p105 H103 n106 e104 h107 => ?_) (fun e he H2 e2 => hE e he H2 (Same.trans S101.b0 e2))⟩
    have h108 : H103 p105 = some (.lst ((v102 : (List Int)).map V.int)) := h107
    have fr109 := S101.free n106
    have S110 := S101.new n106 e104 h108 fr109
    refine ⟨fun σ H' => ∃ (p113 : Addr) (octets_112 : (List Int)) (G' : Hp), σ = [some (V.int (cell')), some (V.int (more')), some (V.int ((1 + (cell' % 40)))), some (V.ref p113), none] ∧ Same G G' ∧ Sep [] H G G' H' [p113] ∧ H' p113 = some (.lst ((octets_112 : (List Int)).map V.int)) ∧ H p113 = none ∧ cW (F__law_octets_k1  octets_112) KK EE, ?_, ?_⟩
    · obtain ⟨K114, hK115, hw⟩ := cW_push hw
      refine ⟨_, rfl, .inl ⟨_, rfl, ?_⟩⟩
      refine ⟨_, _, rfl, rfl, (divW_lit (by decide) (by decide)), _, _, rfl, rfl, (show (0 : Int) < 3 by decide), _, _, rfl, rfl, _, rfl, ?_⟩
      refine iteD (fun c116 => ?_) (fun c116 => ?_)
      · have hw := cW_pos c116 hw
        obtain ⟨K118, hK119, hw⟩ := cW_push hw
        refine ⟨_, rfl, _, rfl, ⟨_, (SqL.of h108)⟩, fun D120 n121 => lc_list (K := K) (a := p105) (xs := (v102 : (List Int)).map V.int) (fun i H' => ∃ (G' : Hp) (acc123 : (List Int)), Same G G' ∧ Sep [] H G G' H' [D120, p105] ∧ H' p105 = some (.lst ((v102 : (List Int)).map V.int)) ∧ H' D120 = some (.lst ((acc123 : (List Int)).map V.int)) ∧ Same H103 H' ∧ cW (mapA (List.drop i (v102)) acc123 (fun x => noEr (F__law_octets_c2  x))) K118 EE) ?_ ?_ ?_ ?_⟩
        · generalize g125 : upd H103 D120 _ = H126
          obtain ⟨e127, h128⟩ := gen_new n121 g125
          have fr129 := S110.free n121
          have S130 := S110.new n121 e127 h128 fr129
          have h131 := (e127 _ _ h108)
          exact ⟨_, [], Same.refl _, (S130.sub (all_cons (.head _) (all_cons (.tail _ (.head _)) all_nil))), h131, h128, e127, hw⟩
        · intro i H132 _ hw
          obtain ⟨G135, acc137, eG136, S133, h144, h134, eo143, hw⟩ := hw
          exact (SqL.of h144)
        · intro i x H145 hj hw
          obtain ⟨G148, acc150, eG149, S146, h157, h147, eo156, hw⟩ := hw
          obtain ⟨x158, hx, rfl⟩ := map_get hj
          obtain ⟨z159, hw⟩ := cW_mapA hx hw
          have hw := cW_noEr hw
          have hw : cW (F__law_octets_c2  (x158)) _ (fun _ => False) := hw
          unfold F__law_octets_c2 at hw
          refine ⟨rfl, ?_⟩
          refine tyes_go ?_
          refine ⟨_, rfl, _, _, rfl, rfl, .inr ⟨_, rfl, ?_⟩⟩
          obtain ⟨g161, hw⟩ := cW_grd hw
          refine ⟨_, rfl, _, _, rfl, rfl, g161, _, h147, (app_lenM z159), ?_⟩
          generalize g162 : upd H145 D120 _ = H163
          obtain ⟨x164, h165⟩ := gen_mut g162
          have S166 := S146.mut1 x164 (.head _) h165
          have hw := cW_ok hw
          have h167 := (x164 _ _ h157 (ne_of_none h108 n121))
          exact ⟨_, (acc150 ++ [((if decide (235 < x158) = true then 1 else 0) * x158)]), eG149, S166, h167, (snoc_map h165), (same_mut eo156 x164 n121), hw⟩
        intro H168 hw
        obtain ⟨G171, acc173, eG172, S169, h180, h170, eo179, hw⟩ := hw
        have hw := hK119 _ (cW_mapA0 (by rw [List.length_map]) hw)
        have fr181 := S110.free n121
        have hw := cW_ok hw
        have hw := hK115 _ hw
        exact ⟨_, (acc173), _, rfl, eG172, (S169.sub (all_cons (.head _) all_nil)), h170, fr181, hw⟩
      · have hw := cW_neg c116 hw
        have hw := cW_ok hw
        have hw := hK115 _ hw
        exact ⟨_, (v102), _, rfl, (Same.refl _), (S110.sub (all_cons (.head _) all_nil)), h108, fr109, hw⟩
    · intro σ H182 hw
      obtain ⟨p113, octets_112, G186, rfl, eG187, S183, h184, fr185, hw⟩ := hw
      unfold F__law_octets_k1 at hw
      obtain ⟨g188, hw⟩ := cW_grd hw
      obtain ⟨g189, hw⟩ := cW_grd hw
      refine ⟨_, rfl, _, rfl, _, _, _, _, rfl, rfl, (SqL.of h184), (atI_map g188), _, _, rfl, _, rfl, _, rfl, _, _, _, _, rfl, rfl, h184, (ixN_map g189), ?_⟩
      generalize g190 : upd H182 p113 _ = H191
      obtain ⟨x192, h193⟩ := gen_mut g190
      have h194 : H191 p113 = some (.lst ((setL (octets_112) ((-1)) ((if (itD (octets_112) ((-1))) > 1 then (itD (octets_112) ((-1))) else 1)) : (List Int)).map V.int)) := set_map h193
      have S195 := S183.mut1 x192 (.head _) h194
      have hw := cW_bnd hw
      refine ⟨_, rfl, ?_⟩
      have hw := cW_ok hw
      exact hK0 _ hw _ _ fr185 S195.b0 h194

abbrev N__last_bit : List Str := ["octet", "bits"]
theorem sc__last_bit : FnScope N__last_bit ["octet"] (defScope s__last_bit) := ⟨rfl, rfl, rfl, by decide +kernel, rfl, by decide +kernel, by decide +kernel⟩
theorem ok__last_bit (D : DefX K mg "_last_bit" s__last_bit ["octet"] pats__last_bit) (T : Txt w K mg AD)  : CalX P w K mg base 1 "_last_bit" (sp__last_bit K AD) pats__last_bit := by
  refine D.ok sc__last_bit (fun vs H Q E h => ?_) (fun f cdv A_ outer s H vs Q E hr h => ?_)
  · obtain ⟨G, octet', rfl, _⟩ := h
    rfl
  · obtain ⟨G, octet', rfl, sG, hw⟩ := h
    refine ⟨_, (pss_cons (ps_set (i := 1) sc__last_bit.nd rfl (Or.inl rfl) pe_int)
      (pss_cons (ps_while (passes_of rfl) (pt_cmp (pc_eqI (pe_op op_and (pe_op op_shr (pv 0) (pe_op op_sub (pv 1) pe_int)) pe_int) pe_int)) (pss_one (ps_aug (i := 1) sc__last_bit.nd rfl (Or.inl rfl) pe_int (pip iop_add))))
      (pss_one (ps_ret (pv 1))))), ?_⟩
    obtain ⟨KK, EE, hK0, hE, hw⟩ := cW_gen hw
    have S0 := Sep.startG sG
    unfold F__last_bit at hw
    obtain ⟨K198, hK199, hw⟩ := cW_push hw
    refine ⟨fun m σ H' => ∃ (bits_200 : Int) (G' : Hp), σ = [some (V.int (octet')), some (V.int bits_200)] ∧ Same G G' ∧ Sep [] H G G' H' [] ∧ cW (whileR m bits_200 (fun s => F__last_bit_b1 (octet') s)) K198 EE, ?_, ?_⟩
    · exact ⟨_, ⟨(1), _, rfl, (Same.refl _), S0, hw⟩⟩
    · intro m σ H201 hw
      obtain ⟨bits_200, G203, rfl, eG204, S202, hw⟩ := hw
      obtain ⟨m205, rfl, hw2⟩ := cW_whileR hw
      have hw := hw2
      have hw : cW (F__last_bit_b1 (octet') (bits_200)) _ EE := hw
      unfold F__last_bit_b1 at hw
      obtain ⟨K207, hK208, hw⟩ := cW_name hw
      obtain ⟨g209, hw⟩ := cW_grd hw
      refine ⟨_, rfl, _, rfl, _, _, rfl, rfl, _, _, rfl, rfl, g209, _, _, rfl, rfl, _, _, rfl, rfl, _, rfl, ?_⟩
      refine iteD (fun c210 => ?_) (fun c210 => ?_)
      · have hw := cW_pos c210 hw
        refine ⟨(fun σ H' => ∃ m, (∃ (bits_200 : Int) (G' : Hp), σ = [some (V.int (octet')), some (V.int bits_200)] ∧ Same G G' ∧ Sep [] H G G' H' [] ∧ cW (whileR m bits_200 (fun s => F__last_bit_b1 (octet') s)) K198 EE) ∧ m < m205 + 1), (fun _ _ ⟨m', a, b⟩ => ⟨m', b, a⟩), ?_⟩
        refine ⟨_, rfl, _, _, rfl, rfl, ?_⟩
        have hw := cW_bnd hw
        have hw := cW_ok hw
        have hw := hK208 _ hw
        exact ⟨m205, ⟨((bits_200 + 1)), _, rfl, eG204, S202, hw⟩, Nat.lt_succ_self _⟩
      · have hw := cW_neg c210 hw
        have hw := cW_ok hw
        have hw := hK208 _ hw
        have hw := cW_aftgo (hK199 (.go _) hw)
        have hw : cW (F__last_bit_r1  (bits_200)) _ EE := hw
        unfold F__last_bit_r1 at hw
        refine ⟨_, rfl, ?_⟩
        have hw := cW_ok hw
        exact hK0 _ hw _ S202.b0

abbrev N_BitReader___init__ : List Str := ["self", "octets"]
theorem sc_BitReader___init__ : FnScope N_BitReader___init__ ["self", "octets"] (defScope s_BitReader___init__) := ⟨rfl, rfl, rfl, by decide +kernel, rfl, by decide +kernel, by decide +kernel⟩
theorem ok_BitReader___init__ (D : InitX K mg AD.c_BitReader "BitReader" "BitReader.__init__" s_BitReader___init__ ["self", "octets"] pats_BitReader___init__) (T : Txt w K mg AD) (c__last_bit : CalX P w K mg base 1 "_last_bit" (sp__last_bit K AD) pats__last_bit) : MakX P w K mg base 2 "BitReader" AD.c_BitReader (sp_BitReader___init__ K AD) pats_BitReader___init__ := by
  refine D.ok sc_BitReader___init__ (fun vs H Q E h => ?_) (fun f cdv A_ outer s H vs Q E hr h => ?_)
  · obtain ⟨G, p_self, dx_self, a_octets, octets', rfl, _⟩ := h
    rfl
  · obtain ⟨G, p_self, dx_self, a_octets, octets', rfl, sG, gM, h_self, q_octets, hw⟩ := h
    refine ⟨_, (pss_cons (ps_if (PW.pt (pw_or (pt_not (pt_truth (pv 1) (fun _ => rfl))) (pw_or1 (pt_cmp (pc_eqI (pe_ix (ix_listK (K := K)) (pv 1) (pe_un un_neg pe_int) (fun _ _ => rfl)) pe_int))))) (pss_one (ps_raise rfl (takes_of rfl rfl rfl rfl) (pmk_own PySem.F.excBase_ValueError T.xx_BadOctets T.xg_BadOctets T.xk_BadOctets (raises_own T.xb_BadOctets T.xt_BadOctets) rfl))) pss_nil)
      (pss_cons (ps_fld (pv 0) (pe_callTy (call_listLK (K := K)) (by rfl) T.b_list (by decide +kernel) (pa_cons (pv 1) pa_nil)) rfl)
      (pss_cons (ps_fld (pv 0) pe_int rfl)
      (pss_one (ps_fld (pv 0) (pe_op op_sub (pe_op op_mul pe_int (pe_callB (call_lenLiK (K := K)) (by rfl) T.b_len (by decide +kernel) (pa_cons (pv 1) pa_nil))) (vx_callX c__last_bit pat__last_bit_0 (.head _) hr (by decide) (takes_of rfl rfl rfl rfl) rfl (pa_cons (pe_ix (ix_listK (K := K)) (pv 1) (pe_un un_neg pe_int) (fun _ _ => rfl)) pa_nil) pk_nil)) rfl))))), ?_⟩
    obtain ⟨KK, EE, hK0, hE, hw⟩ := cW_gen hw
    have S0 := Sep.startM (M := [p_self]) sG (all_cons (some_ne h_self) all_nil) gM
    unfold F_BitReader___init__ at hw
    refine ⟨_, rfl, _, (.inl ⟨_, (SqL.of (S0.bM _ _ q_octets)), tru_map⟩), ?_⟩
    refine iteNN ?_
    refine iteD (fun c213 => ?_) (fun c213 => ?_)
    · have hw := cW_pos c213 hw
      refine iteT ?_
      exact hE 3 (cW_er hw) _ (sameX_of S0.base)
    · have hw := cW_neg c213 hw
      obtain ⟨g214, hw⟩ := cW_grd hw
      refine ⟨_, rfl, _, rfl, _, _, _, _, rfl, rfl, (SqL.of (S0.bM _ _ q_octets)), (atI_map g214), _, _, rfl, rfl, _, rfl, ?_⟩
      refine iteD (fun c215 => ?_) (fun c215 => ?_)
      · have hw := cW_pos c215 hw
        exact hE 3 (cW_er hw) _ (sameX_of S0.base)
      · have hw := cW_neg c215 hw
        refine ⟨_, rfl, _, _, rfl, (SqL.of (S0.bM _ _ q_octets)), fun p216 n217 => ?_⟩
        generalize g218 : upd H p216 _ = H219
        obtain ⟨e220, h221⟩ := gen_new n217 g218
        have h222 : H219 p216 = some (.lst ((octets' : (List Int)).map V.int)) := h221
        have fr223 := S0.free n217
        have S224 := S0.new n217 e220 h222 fr223
        have h225 := (e220 _ _ h_self)
        refine ⟨_, rfl, _, _, _, _, rfl, h225, T.cl_BitReader, T.n_BitReader__octets, (by show 0 < 1000; decide), ?_⟩
        generalize g226 : upd H219 p_self _ = H227
        obtain ⟨x228, h229⟩ := gen_mut g226
        have h230 : H227 p_self = some (.ins AD.c_BitReader dx_self [("_octets", V.ref p216)]) := h229
        have S231 := S224.mut1 x228 (.tail _ (.head _)) h230
        refine ⟨_, rfl, _, _, _, _, rfl, h230, T.cl_BitReader, T.n_BitReader__place, (by show 1 < 1000; decide), ?_⟩
        generalize g232 : upd H227 p_self _ = H233
        obtain ⟨x234, h235⟩ := gen_mut g232
        have h236 : H233 p_self = some (.ins AD.c_BitReader dx_self [("_octets", V.ref p216), ("_place", V.int (0))]) := h235
        have S237 := S231.mut1 x234 (.tail _ (.head _)) h236
        obtain ⟨g238, hw⟩ := cW_grd hw
        refine ⟨_, rfl, _, _, rfl, (SqL.of (S237.bM _ _ q_octets)), _, _, rfl, rfl, (.inl ⟨by decide, by decide⟩), _, rfl, _, rfl, _, _, _, _, rfl, rfl, (SqL.of (S237.bM _ _ q_octets)), (atI_map g238), rfl, rfl, G, _, rfl, S237.sG, cW_call hw (fun v239 hw H240 e241 => ?_) (fun e he H2 e2 => hE e he H2 (fun b o h n => e2 _ _ ((sameX_of S237.base) b o h n)))⟩
        have S242 := S237.same e241
        have h243 := (e241 _ _ h236)
        have hw := cW_bnd hw
        refine ⟨_, _, rfl, rfl, _, rfl, _, _, _, _, rfl, h243, T.cl_BitReader, T.n_BitReader__end, (by show 2 < 1000; decide), ?_⟩
        generalize g245 : upd H240 p_self _ = H246
        obtain ⟨x247, h248⟩ := gen_mut g245
        have h249 : H246 p_self = some (.ins AD.c_BitReader dx_self [("_octets", V.ref p216), ("_place", V.int (0)), ("_end", V.int (((8 * (((octets') : (List Int)).length : Int)) - v239)))]) := h248
        have S250 := S242.mut1 x247 (.tail _ (.head _)) h249
        have h251 := (x247 _ _ (e241 _ _ (x234 _ _ (x228 _ _ h222 (ne_of_none h_self n217).symm) (ne_of_none h_self n217).symm)) (ne_of_none h_self n217).symm)
        have hw := cW_ok hw
        exact hK0 _ hw _ _ (sameX_of S250.base) fr223 h249 h251

abbrev N__law_bits : List Str := ["value", "count", "k"]
theorem sc__law_bits : FnScope N__law_bits ["value", "count"] (defScope s__law_bits) := ⟨rfl, rfl, rfl, by decide +kernel, rfl, by decide +kernel, by decide +kernel⟩
theorem ok__law_bits (D : DefX K mg "_law_bits" s__law_bits ["value", "count"] pats__law_bits) (T : Txt w K mg AD)  : CalX P w K mg base 1 "_law_bits" (sp__law_bits K AD) pats__law_bits := by
  refine D.ok sc__law_bits (fun vs H Q E h => ?_) (fun f cdv A_ outer s H vs Q E hr h => ?_)
  · obtain ⟨G, value', count', rfl, _⟩ := h
    rfl
  · obtain ⟨G, value', count', rfl, sG, hw⟩ := h
    refine ⟨_, (pss_one (ps_ret (pe_lc (own := [("k", 2)]) (g := gName 2) (by rfl) sc__law_bits.nd (pi_range1 rfl T.b_range (pa_cons (pv 1) pa_nil)) (blkOk_by (own := [("k", 2)]) (N := N__law_bits) (sc := defScope s__law_bits) (by decide +kernel)) (fun _ _ _ _ _ => (pg_name (i := 2) sc__law_bits.nd rfl (Or.inl rfl))) (fun _ _ _ _ _ => pts_nil) (fun _ _ _ _ _ => (pe_op op_and (pe_op op_shr (pv 0) (pe_op op_sub (pe_op op_sub (pv 1) pe_int) (pv 2))) pe_int))))), ?_⟩
    obtain ⟨KK, EE, hK0, hE, hw⟩ := cW_gen hw
    have S0 := Sep.startG sG
    unfold F__law_bits at hw
    obtain ⟨g252, hw⟩ := cW_grd hw
    obtain ⟨K256, hK257, hw⟩ := cW_push hw
    refine ⟨_, rfl, _, rfl, g252.1, g252.2, fun D258 n259 => lc_range (lo := 0) (n := Int.toNat (count')) (fun i H' => ∃ (G' : Hp) (acc261 : (List Int)), Same G G' ∧ Sep [] H G G' H' [D258] ∧ H' D258 = some (.lst ((acc261 : (List Int)).map V.int)) ∧ Same H H' ∧ cW (mapA (List.drop i (rng (0) (Int.toNat (count')))) acc261 (fun x => noEr (F__law_bits_c1 (value') (count') x))) K256 EE) ?_ ?_ ?_⟩
    · generalize g263 : upd H D258 _ = H264
      obtain ⟨e265, h266⟩ := gen_new n259 g263
      have fr267 := S0.free n259
      have S268 := S0.new n259 e265 h266 fr267
      exact ⟨_, [], Same.refl _, S268, h266, e265, hw⟩
    · intro i H269 hi hw
      obtain ⟨G272, acc274, eG273, S270, h271, eo280, hw⟩ := hw
      obtain ⟨z281, hw⟩ := cW_mapA (rng_get hi) hw
      generalize (0 + (i : Int)) = x282 at hw ⊢
      have hw := cW_noEr hw
      have hw : cW (F__law_bits_c1 (value') (count') (x282)) _ (fun _ => False) := hw
      unfold F__law_bits_c1 at hw
      refine ⟨rfl, ?_⟩
      refine tyes_go ?_
      obtain ⟨g284, hw⟩ := cW_grd hw
      refine ⟨_, rfl, _, rfl, _, _, rfl, rfl, _, rfl, _, _, rfl, rfl, _, _, rfl, rfl, g284, _, _, rfl, rfl, _, h271, (app_lenM z281), ?_⟩
      generalize g285 : upd H269 D258 _ = H286
      obtain ⟨x287, h288⟩ := gen_mut g285
      have S289 := S270.mut1 x287 (.head _) h288
      have hw := cW_ok hw
      exact ⟨_, (acc274 ++ [(PySem.Builtin.bitAnd ((value' / 2 ^ Int.toNat (((count' - 1) - x282)))) (1))]), eG273, S289, (snoc_map h288), (same_mut eo280 x287 n259), hw⟩
    intro H290 hw
    obtain ⟨G293, acc295, eG294, S291, h292, eo301, hw⟩ := hw
    have hw := hK257 _ (cW_mapA0 (rng_len _ _).symm hw)
    have fr302 := S0.free n259
    have hw := cW_ok hw
    exact hK0 _ hw _ _ fr302 S291.b0 h292

abbrev N__law_all_bits : List Str := ["octets", "bits", "octet", "k"]
theorem sc__law_all_bits : FnScope N__law_all_bits ["octets"] (defScope s__law_all_bits) := ⟨rfl, rfl, rfl, by decide +kernel, rfl, by decide +kernel, by decide +kernel⟩
theorem ok__law_all_bits (D : DefX K mg "_law_all_bits" s__law_all_bits ["octets"] pats__law_all_bits) (T : Txt w K mg AD) (c__law_bits : CalX P w K mg base 1 "_law_bits" (sp__law_bits K AD) pats__law_bits) : CalX P w K mg base 2 "_law_all_bits" (sp__law_all_bits K AD) pats__law_all_bits := by
  refine D.ok sc__law_all_bits (fun vs H Q E h => ?_) (fun f cdv A_ outer s H vs Q E hr h => ?_)
  · obtain ⟨G, a_octets, octets', rfl, _⟩ := h
    rfl
  · obtain ⟨G, a_octets, octets', rfl, sG, q_octets, hw⟩ := h
    refine ⟨_, (pss_cons (ps_set (i := 1) sc__law_all_bits.nd rfl (Or.inl rfl) (pe_lst pa_nil))
      (pss_cons (ps_for (passes_of rfl) rfl (pi_listK (K := K) (pv 0)) (pg_name (i := 2) sc__law_all_bits.nd rfl (Or.inl rfl)) (pss_one (ps_set (i := 1) sc__law_all_bits.nd rfl (Or.inl rfl) (pe_op op_cat (pv 1) (vx_callX c__law_bits pat__law_bits_0 (.head _) hr (by decide) (takes_of rfl rfl rfl rfl) rfl (pa_cons (pv 2) (pa_cons pe_int pa_nil)) pk_nil)))))
      (pss_cons (ps_for (passes_of rfl) rfl (pi_range1 rfl T.b_range (pa_cons pe_int pa_nil)) (pg_name (i := 3) sc__law_all_bits.nd rfl (Or.inl rfl)) (pss_one (ps_if (pt_cmp (pc_eqI (pe_ix (ix_listK (K := K)) (pv 1) (pe_op op_sub (pe_op op_sub (pe_callB (call_lenLiK (K := K)) (by rfl) T.b_len (by decide +kernel) (pa_cons (pv 1) pa_nil)) pe_int) (pv 3)) (fun _ _ => rfl)) pe_int)) (pss_one (ps_ret (pe_slice (sl_listK (K := K)) (pv 1) po_none (po_some (pe_op op_sub (pe_op op_sub (pe_callB (call_lenLiK (K := K)) (by rfl) T.b_len (by decide +kernel) (pa_cons (pv 1) pa_nil)) pe_int) (pv 3)))))) pss_nil)))
      (pss_one (ps_ret (pv 1)))))), ?_⟩
    obtain ⟨KK, EE, hK0, hE, hw⟩ := cW_gen hw
    have S0 := Sep.startG sG
    unfold F__law_all_bits at hw
    refine ⟨(by show 0 ≤ sizeLine; decide), fun p303 n304 => ?_⟩
    generalize g305 : upd H p303 _ = H306
    obtain ⟨e307, h308⟩ := gen_new n304 g305
    have h309 : H306 p303 = some (.lst ((([] : (List Int)) : (List Int)).map V.int)) := h308
    have fr310 := S0.free n304
    have S311 := S0.new n304 e307 h309 fr310
    obtain ⟨K312, hK313, hw⟩ := cW_push hw
    refine ⟨_, rfl, _, rfl, ⟨_, (SqL.of (S311.bM _ _ q_octets))⟩, for_list (K := K) (a := a_octets) (xs := (octets' : List Int).map V.int) (fun i σ H' => ∃ (p315 : Addr) (bits_314 : (List Int)) (u316 : Option V) (G' : Hp), σ = [some (V.ref a_octets), some (V.ref p315), u316, none] ∧ Same G G' ∧ Sep [] H G G' H' [p315] ∧ H' p315 = some (.lst ((bits_314 : (List Int)).map V.int)) ∧ H p315 = none ∧ cW (forS (List.drop i (octets')) bits_314 (fun s x => F__law_all_bits_b1  s x)) K312 EE) ?_ ?_ ?_ ?_⟩
    · exact ⟨_, (([] : (List Int))), _, _, rfl, (Same.refl _), S311, h309, fr310, hw⟩
    · intro i σ H317 _ hw
      obtain ⟨p315, bits_314, u316, G321, rfl, eG322, S318, h319, fr320, hw⟩ := hw
      exact (SqL.of (S318.bM _ _ q_octets))
    · intro i x σ H323 hj hw
      obtain ⟨p315, bits_314, u316, G327, rfl, eG328, S324, h325, fr326, hw⟩ := hw
      obtain ⟨x329, hx, rfl⟩ := map_get hj
      have hw := cW_forS hx hw
      have hw : cW (F__law_all_bits_b1  (bits_314) (x329)) _ EE := hw
      unfold F__law_all_bits_b1 at hw
      obtain ⟨K331, hK332, hw⟩ := cW_name hw
      refine ⟨_, rfl, _, rfl, rfl, rfl, G327, _, _, rfl, S324.sG, cW_call hw (fun v334 hw p337 H335 n338 e336 h339 => ?_) (fun e he H2 e2 => hE e he H2 (Same.trans S324.b0 e2))⟩
      have h340 : H335 p337 = some (.lst ((v334 : (List Int)).map V.int)) := h339
      have fr341 := S324.free n338
      have S342 := S324.new n338 e336 h340 fr341
      obtain ⟨g343, hw⟩ := cW_grd hw
      have h344 := (e336 _ _ h325)
      refine ⟨_, _, _, _, rfl, rfl, h344, h340, (cat_lenM g343), fun p345 n346 => ?_⟩
      generalize g347 : upd H335 p345 _ = H348
      obtain ⟨e349, h350⟩ := gen_new n346 g347
      have h351 : H348 p345 = some (.lst (((bits_314) ++ (v334) : (List Int)).map V.int)) := cat_map h350
      have fr352 := S342.free n346
      have S353 := S342.new n346 e349 h351 fr352
      have hw := cW_ok hw
      have hw := hK332 _ hw
      exact ⟨_, ((bits_314) ++ (v334)), _, _, rfl, eG328, (S353.sub (all_cons (.head _) all_nil)), h351, fr352, hw⟩
    · intro σ H354 hw
      obtain ⟨p315, bits_314, u316, G358, rfl, eG359, S355, h356, fr357, hw⟩ := hw
      have hw := hK313 _ (cW_forS0 (by rw [List.length_map]) hw)
      have hw : cW (F__law_all_bits_r1  (bits_314)) _ EE := hw
      unfold F__law_all_bits_r1 at hw
      obtain ⟨K363, hK364, hw⟩ := cW_push hw
      refine ⟨_, rfl, (by decide), (by decide), for_range (lo := 0) (n := Int.toNat (8)) (fun i σ H' => ∃ (u365 : Option V) (G' : Hp), σ = [some (V.ref a_octets), some (V.ref p315), u316, u365] ∧ Same G358 G' ∧ Sep [] H G G' H' [p315] ∧ H' p315 = some (.lst ((bits_314 : (List Int)).map V.int)) ∧ cW (forR (List.drop i (rng (0) (Int.toNat (8)))) () (fun s x => F__law_all_bits_b2 (bits_314)  x)) K363 EE) ?_ ?_ ?_⟩
      · exact ⟨_, _, rfl, (Same.refl _), S355, h356, hw⟩
      · intro i σ H366 hi hw
        obtain ⟨u365, G369, rfl, eG370, S367, h368, hw⟩ := hw
        have hw := cW_forR (rng_get hi) hw
        generalize (0 + (i : Int)) = x371 at hw ⊢
        have hw : cW (F__law_all_bits_b2 (bits_314)  (x371)) _ EE := hw
        unfold F__law_all_bits_b2 at hw
        obtain ⟨K372, hK373, hw⟩ := cW_name hw
        obtain ⟨g375, hw⟩ := cW_grd hw
        refine ⟨_, rfl, _, rfl, _, _, rfl, (SqL.of h368), _, _, rfl, rfl, _, rfl, _, _, rfl, rfl, _, _, _, _, rfl, rfl, (SqL.of h368), (atI_map g375), _, _, rfl, rfl, _, rfl, ?_⟩
        refine iteD (fun c376 => ?_) (fun c376 => ?_)
        · have hw := cW_pos c376 hw
          refine ⟨_, rfl, _, rfl, _, _, rfl, (SqL.of h368), _, _, rfl, rfl, _, rfl, _, _, rfl, rfl, _, rfl, _, _, rfl, (SqL.of h368), fun p377 n378 => ?_⟩
          generalize g379 : upd H366 p377 _ = H380
          obtain ⟨e381, h382⟩ := gen_new n378 g379
          have h383 : H380 p377 = some (.lst ((cutL (bits_314) none (some ((((((bits_314) : (List Int)).length : Int) - 1) - x371))) : (List Int)).map V.int)) := cut_map h382
          have fr384 := S367.free n378
          have S385 := S367.new n378 e381 h383 fr384
          have hw := cW_ok hw
          have hw := hK373 (.rt _) hw
          have hw := hK364 (.rt _) hw
          have hw := cW_ok hw
          exact hK0 _ hw _ _ fr384 S385.b0 h383
        · have hw := cW_neg c376 hw
          have hw := cW_ok hw
          have hw := hK373 _ hw
          exact ⟨_, _, rfl, eG370, S367, h368, hw⟩
      · intro σ H386 hw
        obtain ⟨u365, G389, rfl, eG390, S387, h388, hw⟩ := hw
        have hw := cW_aftgo (hK364 _ (cW_forR0 (rng_len _ _).symm hw))
        have hw : cW (F__law_all_bits_r2 (bits_314) ) _ EE := hw
        unfold F__law_all_bits_r2 at hw
        refine ⟨_, rfl, ?_⟩
        have hw := cW_ok hw
        exact hK0 _ hw _ _ fr357 S387.b0 h388

abbrev N__law_cell : List Str := ["script", "k"]
theorem sc__law_cell : FnScope N__law_cell ["script", "k"] (defScope s__law_cell) := ⟨rfl, rfl, rfl, by decide +kernel, rfl, by decide +kernel, by decide +kernel⟩
theorem ok__law_cell (D : DefX K mg "_law_cell" s__law_cell ["script", "k"] pats__law_cell) (T : Txt w K mg AD)  : CalX P w K mg base 1 "_law_cell" (sp__law_cell K AD) pats__law_cell := by
  refine D.ok sc__law_cell (fun vs H Q E h => ?_) (fun f cdv A_ outer s H vs Q E hr h => ?_)
  · obtain ⟨G, a_script, script', k', rfl, _⟩ := h
    rfl
  · obtain ⟨G, a_script, script', k', rfl, sG, q_script, hw⟩ := h
    refine ⟨_, (pss_cons (ps_if (pt_cmp (pc_lt (pv 1) (pe_callB (call_lenLiK (K := K)) (by rfl) T.b_len (by decide +kernel) (pa_cons (pv 0) pa_nil)))) (pss_one (ps_ret (pe_callTy call_int1 (by rfl) T.b_int (by decide +kernel) (pa_cons (pe_ix (ix_listK (K := K)) (pv 0) (pv 1) (fun _ _ => rfl)) pa_nil)))) pss_nil)
      (pss_one (ps_ret pe_int))), ?_⟩
    obtain ⟨KK, EE, hK0, hE, hw⟩ := cW_gen hw
    have S0 := Sep.startG sG
    unfold F__law_cell at hw
    refine ⟨_, rfl, _, rfl, _, _, rfl, (S0.b0.seq q_script), _, _, rfl, rfl, _, rfl, ?_⟩
    refine iteD (fun c391 => ?_) (fun c391 => ?_)
    · have hw := cW_pos c391 hw
      obtain ⟨g392, hw⟩ := cW_grd hw
      refine ⟨_, rfl, _, rfl, _, _, _, _, rfl, rfl, (S0.b0.seq q_script), (atI_map g392), .inl ⟨_, rfl, ?_⟩⟩
      have hw := cW_ok hw
      exact hK0 _ hw
    · have hw := cW_neg c391 hw
      have hw := cW_ok hw
      exact hK0 _ hw

abbrev N__law_number : List Str := ["bits", "k"]
theorem sc__law_number : FnScope N__law_number ["bits"] (defScope s__law_number) := ⟨rfl, rfl, rfl, by decide +kernel, rfl, by decide +kernel, by decide +kernel⟩
theorem ok__law_number (D : DefX K mg "_law_number" s__law_number ["bits"] pats__law_number) (T : Txt w K mg AD)  : CalX P w K mg base 1 "_law_number" (sp__law_number K AD) pats__law_number := by
  refine D.ok sc__law_number (fun vs H Q E h => ?_) (fun f cdv A_ outer s H vs Q E hr h => ?_)
  · obtain ⟨G, a_bits, bits', rfl, _⟩ := h
    rfl
  · obtain ⟨G, a_bits, bits', rfl, sG, q_bits, hw⟩ := h
    refine ⟨_, (pss_one (ps_ret (pe_callB (cr_sumK (K := K) rfl) (by rfl) T.b_sum (by decide +kernel) (pa_cons (pe_lc (own := [("k", 1)]) (g := gName 1) (by rfl) sc__law_number.nd (pi_range1 rfl T.b_range (pa_cons (pe_callB (call_lenLiK (K := K)) (by rfl) T.b_len (by decide +kernel) (pa_cons (pv 0) pa_nil)) pa_nil)) (blkOk_by (own := [("k", 1)]) (N := N__law_number) (sc := defScope s__law_number) (by decide +kernel)) (fun _ _ _ _ _ => (pg_name (i := 1) sc__law_number.nd rfl (Or.inl rfl))) (fun _ _ _ _ _ => pts_nil) (fun _ _ _ _ _ => (pe_op op_shlW (pe_ix (ix_listK (K := K)) (pv 0) (pv 1) (fun _ _ => rfl)) (pe_op op_sub (pe_op op_sub (pe_callB (call_lenLiK (K := K)) (by rfl) T.b_len (by decide +kernel) (pa_cons (pv 0) pa_nil)) pe_int) (pv 1))))) pa_nil)))), ?_⟩
    obtain ⟨KK, EE, hK0, hE, hw⟩ := cW_gen hw
    have S0 := Sep.startG sG
    unfold F__law_number at hw
    obtain ⟨g393, hw⟩ := cW_grd hw
    obtain ⟨K396, hK397, hw⟩ := cW_push hw
    refine ⟨_, rfl, _, _, rfl, (SqL.of (S0.bM _ _ q_bits)), _, rfl, g393.1, g393.2, fun D398 n399 => lc_range (lo := 0) (n := Int.toNat ((((bits') : (List Int)).length : Int))) (fun i H' => ∃ (G' : Hp) (acc401 : (List Int)), Same G G' ∧ Sep [] H G G' H' [D398] ∧ H' D398 = some (.lst ((acc401 : (List Int)).map V.int)) ∧ Same H H' ∧ cW (mapA (List.drop i (rng (0) (Int.toNat ((((bits') : (List Int)).length : Int))))) acc401 (fun x => noEr (F__law_number_c1 (bits') x))) K396 EE) ?_ ?_ ?_⟩
    · generalize g403 : upd H D398 _ = H404
      obtain ⟨e405, h406⟩ := gen_new n399 g403
      have fr407 := S0.free n399
      have S408 := S0.new n399 e405 h406 fr407
      exact ⟨_, [], Same.refl _, S408, h406, e405, hw⟩
    · intro i H409 hi hw
      obtain ⟨G412, acc414, eG413, S410, h411, eo420, hw⟩ := hw
      obtain ⟨z421, hw⟩ := cW_mapA (rng_get hi) hw
      generalize (0 + (i : Int)) = x422 at hw ⊢
      have hw := cW_noEr hw
      have hw : cW (F__law_number_c1 (bits') (x422)) _ (fun _ => False) := hw
      unfold F__law_number_c1 at hw
      refine ⟨rfl, ?_⟩
      refine tyes_go ?_
      obtain ⟨g424, hw⟩ := cW_grd hw
      obtain ⟨g425, hw⟩ := cW_grd hw
      refine ⟨_, rfl, _, rfl, _, _, _, _, rfl, rfl, (SqL.of (S410.bM _ _ q_bits)), (atI_map g424), _, rfl, _, _, rfl, (SqL.of (S410.bM _ _ q_bits)), _, _, rfl, rfl, _, rfl, _, _, rfl, rfl, _, _, rfl, rfl, (shl_side g425.1 g425.2.1 g425.2.2.1 g425.2.2.2), _, h411, (app_lenM z421), ?_⟩
      generalize g426 : upd H409 D398 _ = H427
      obtain ⟨x428, h429⟩ := gen_mut g426
      have S430 := S410.mut1 x428 (.head _) h429
      have hw := cW_ok hw
      exact ⟨_, (acc414 ++ [((itD (bits') (x422)) * 2 ^ Int.toNat ((((((bits') : (List Int)).length : Int) - 1) - x422)))]), eG413, S430, (snoc_map h429), (same_mut eo420 x428 n399), hw⟩
    intro H431 hw
    obtain ⟨G434, acc436, eG435, S432, h433, eo442, hw⟩ := hw
    have hw := hK397 _ (cW_mapA0 (rng_len _ _).symm hw)
    have fr443 := S0.free n399
    refine ⟨_, _, rfl, (SqL.of h433), ?_⟩
    have hw := cW_ok hw
    exact hK0 _ hw _ S432.b0

abbrev N__law_code : List Str := ["bits", "k"]
theorem sc__law_code : FnScope N__law_code ["bits"] (defScope s__law_code) := ⟨rfl, rfl, rfl, by decide +kernel, rfl, by decide +kernel, by decide +kernel⟩
theorem ok__law_code (D : DefX K mg "_law_code" s__law_code ["bits"] pats__law_code) (T : Txt w K mg AD) (c__law_number : CalX P w K mg base 1 "_law_number" (sp__law_number K AD) pats__law_number) : CalX P w K mg base 2 "_law_code" (sp__law_code K AD) pats__law_code := by
  refine D.ok sc__law_code (fun vs H Q E h => ?_) (fun f cdv A_ outer s H vs Q E hr h => ?_)
  · obtain ⟨G, a_bits, bits', rfl, _⟩ := h
    rfl
  · obtain ⟨G, a_bits, bits', rfl, sG, q_bits, hw⟩ := h
    refine ⟨_, (pss_cons (ps_for (passes_of rfl) rfl (pi_range1 rfl T.b_range (pa_cons (pe_callB (call_min2 rfl) (by rfl) T.b_min (by decide +kernel) (pa_cons pe_int (pa_cons (pe_callB (call_lenLiK (K := K)) (by rfl) T.b_len (by decide +kernel) (pa_cons (pv 0) pa_nil)) pa_nil))) pa_nil)) (pg_name (i := 1) sc__law_code.nd rfl (Or.inl rfl)) (pss_one (ps_if (pt_cmp (pc_eqI (pe_ix (ix_listK (K := K)) (pv 0) (pv 1) (fun _ _ => rfl)) pe_int)) (pss_cons (ps_if (pt_cmp (pc_lt (pe_callB (call_lenLiK (K := K)) (by rfl) T.b_len (by decide +kernel) (pa_cons (pv 0) pa_nil)) (pe_op op_add (pe_op op_mul pe_int (pv 1)) pe_int))) (pss_one (ps_ret (pe_tup (pa_cons (pe_tup (pa_cons pe_str (pa_cons pe_int pa_nil))) (pa_cons pe_int pa_nil))))) pss_nil)
      (pss_one (ps_ret (pe_tup (pa_cons (pe_op op_sub (vx_callX c__law_number pat__law_number_0 (.head _) hr (by decide) (takes_of rfl rfl rfl rfl) rfl (pa_cons (pe_slice (sl_listK (K := K)) (pv 0) (po_some (pv 1)) (po_some (pe_op op_add (pe_op op_mul pe_int (pv 1)) pe_int))) pa_nil) pk_nil) pe_int) (pa_cons (pe_op op_add (pe_op op_mul pe_int (pv 1)) pe_int) pa_nil)))))) pss_nil)))
      (pss_cons (ps_if (pt_cmp (pc_ge (pe_callB (call_lenLiK (K := K)) (by rfl) T.b_len (by decide +kernel) (pa_cons (pv 0) pa_nil)) pe_int)) (pss_one (ps_ret (pe_tup (pa_cons (pe_tup (pa_cons pe_str (pa_cons pe_int pa_nil))) (pa_cons pe_int pa_nil))))) pss_nil)
      (pss_one (ps_ret (pe_tup (pa_cons (pe_tup (pa_cons pe_str (pa_cons pe_int pa_nil))) (pa_cons pe_int pa_nil))))))), ?_⟩
    obtain ⟨KK, EE, hK0, hE, hw⟩ := cW_gen hw
    have S0 := Sep.startG sG
    unfold F__law_code at hw
    obtain ⟨g444, hw⟩ := cW_grd hw
    obtain ⟨K447, hK448, hw⟩ := cW_push hw
    refine ⟨_, rfl, _, _, rfl, (SqL.of (S0.bM _ _ q_bits)), _, _, rfl, _, rfl, g444.1, g444.2, for_range (lo := 0) (n := Int.toNat ((if (((bits') : (List Int)).length : Int) < 33 then (((bits') : (List Int)).length : Int) else 33))) (fun i σ H' => ∃ (u449 : Option V) (G' : Hp), σ = [some (V.ref a_bits), u449] ∧ Same G G' ∧ Sep [] H G G' H' [] ∧ cW (forR (List.drop i (rng (0) (Int.toNat ((if (((bits') : (List Int)).length : Int) < 33 then (((bits') : (List Int)).length : Int) else 33))))) () (fun s x => F__law_code_b1 (bits')  x)) K447 EE) ?_ ?_ ?_⟩
    · exact ⟨_, _, rfl, (Same.refl _), S0, hw⟩
    · intro i σ H450 hi hw
      obtain ⟨u449, G452, rfl, eG453, S451, hw⟩ := hw
      have hw := cW_forR (rng_get hi) hw
      generalize (0 + (i : Int)) = x454 at hw ⊢
      have hw : cW (F__law_code_b1 (bits')  (x454)) _ EE := hw
      unfold F__law_code_b1 at hw
      obtain ⟨K455, hK456, hw⟩ := cW_name hw
      obtain ⟨g458, hw⟩ := cW_grd hw
      refine ⟨_, rfl, _, rfl, _, _, _, _, rfl, rfl, (SqL.of (S451.bM _ _ q_bits)), (atI_map g458), _, _, rfl, rfl, _, rfl, ?_⟩
      refine iteD (fun c459 => ?_) (fun c459 => ?_)
      · have hw := cW_pos c459 hw
        refine ⟨_, rfl, _, _, rfl, (SqL.of (S451.bM _ _ q_bits)), _, rfl, _, _, rfl, rfl, (.inl ⟨by decide, by decide⟩), _, _, rfl, rfl, _, _, rfl, rfl, _, rfl, ?_⟩
        refine iteD (fun c460 => ?_) (fun c460 => ?_)
        · have hw := cW_pos c460 hw
          refine ⟨(by show 2 ≤ sizeLine; decide), fun p461 n462 => ?_⟩
          generalize g463 : upd H450 p461 _ = H464
          obtain ⟨e465, h466⟩ := gen_new n462 g463
          have h467 : H464 p461 = some (.tup [V.str (("refused" : Str)), V.int (1)]) := h466
          have fr468 := S451.free n462
          obtain ⟨G470, eG471, hg472, S469⟩ := S451.grow n462 e465 h467 fr468
          refine ⟨(by show 2 ≤ sizeLine; decide), fun p473 n474 => ?_⟩
          generalize g475 : upd H464 p473 _ = H476
          obtain ⟨e477, h478⟩ := gen_new n474 g475
          have h479 : H476 p473 = some (.tup [V.ref p461, V.int (0)]) := h478
          have fr480 := S469.free n474
          obtain ⟨G482, eG483, hg484, S481⟩ := S469.grow n474 e477 h479 fr480
          have r485 : Rp G482 (V.ref p461) (encD ((encT2 PyData.str PyData.int) ((("refused" : Str), 1)))) := (rp_mk2 (eG483 _ _ hg472) (.str _) (.int _))
          have hw := cW_ok hw
          have hw := hK456 (.rt _) hw
          have hw := hK448 (.rt _) hw
          have hw := cW_ok hw
          exact hK0 _ hw _ _ _ S481.b0 S481.g0 S481.sG S481.gn (rp_mk2 hg484 r485 (.int _))
        · have hw := cW_neg c460 hw
          refine ⟨_, rfl, _, rfl, _, rfl, _, rfl, _, _, rfl, rfl, (.inl ⟨by decide, by decide⟩), _, _, rfl, rfl, _, rfl, _, _, rfl, (SqL.of (S451.bM _ _ q_bits)), fun p486 n487 => ?_⟩
          generalize g488 : upd H450 p486 _ = H489
          obtain ⟨e490, h491⟩ := gen_new n487 g488
          have h492 : H489 p486 = some (.lst ((cutL (bits') (some (x454)) (some (((2 * x454) + 1))) : (List Int)).map V.int)) := cut_map h491
          have fr493 := S451.free n487
          have S494 := S451.new n487 e490 h492 fr493
          refine ⟨rfl, rfl, G452, _, _, rfl, S494.sG, (hide_nil h492), cW_call hw (fun v495 hw H496 e497 => ?_) (fun e he H2 e2 => hE e he H2 (Same.trans S494.b0 e2))⟩
          have S498 := S494.same e497
          refine ⟨_, _, rfl, rfl, _, rfl, _, _, rfl, rfl, (.inl ⟨by decide, by decide⟩), _, _, rfl, rfl, (by show 2 ≤ sizeLine; decide), fun p499 n500 => ?_⟩
          generalize g501 : upd H496 p499 _ = H502
          obtain ⟨e503, h504⟩ := gen_new n500 g501
          have h505 : H502 p499 = some (.tup [V.int ((v495 - 1)), V.int (((2 * x454) + 1))]) := h504
          have fr506 := S498.free n500
          obtain ⟨G508, eG509, hg510, S507⟩ := S498.grow n500 e503 h505 fr506
          have r511 : Rp G508 (V.int ((v495 - 1))) (encD (PyData.int ((v495 - 1)))) := (.int _)
          have hw := cW_ok hw
          have hw := hK456 (.rt _) hw
          have hw := hK448 (.rt _) hw
          have hw := cW_ok hw
          exact hK0 _ hw _ _ _ S507.b0 S507.g0 S507.sG S507.gn (rp_mk2 hg510 r511 (.int _))
      · have hw := cW_neg c459 hw
        have hw := cW_ok hw
        have hw := hK456 _ hw
        exact ⟨_, _, rfl, eG453, S451, hw⟩
    · intro σ H512 hw
      obtain ⟨u449, G514, rfl, eG515, S513, hw⟩ := hw
      have hw := cW_aftgo (hK448 _ (cW_forR0 (rng_len _ _).symm hw))
      have hw : cW (F__law_code_r1 (bits') ) _ EE := hw
      unfold F__law_code_r1 at hw
      refine ⟨_, rfl, _, _, rfl, (SqL.of (S513.bM _ _ q_bits)), _, _, rfl, rfl, _, rfl, ?_⟩
      refine iteD (fun c516 => ?_) (fun c516 => ?_)
      · have hw := cW_pos c516 hw
        refine ⟨(by show 2 ≤ sizeLine; decide), fun p517 n518 => ?_⟩
        generalize g519 : upd H512 p517 _ = H520
        obtain ⟨e521, h522⟩ := gen_new n518 g519
        have h523 : H520 p517 = some (.tup [V.str (("refused" : Str)), V.int (2)]) := h522
        have fr524 := S513.free n518
        obtain ⟨G526, eG527, hg528, S525⟩ := S513.grow n518 e521 h523 fr524
        refine ⟨(by show 2 ≤ sizeLine; decide), fun p529 n530 => ?_⟩
        generalize g531 : upd H520 p529 _ = H532
        obtain ⟨e533, h534⟩ := gen_new n530 g531
        have h535 : H532 p529 = some (.tup [V.ref p517, V.int (0)]) := h534
        have fr536 := S525.free n530
        obtain ⟨G538, eG539, hg540, S537⟩ := S525.grow n530 e533 h535 fr536
        have r541 : Rp G538 (V.ref p517) (encD ((encT2 PyData.str PyData.int) ((("refused" : Str), 2)))) := (rp_mk2 (eG539 _ _ hg528) (.str _) (.int _))
        have hw := cW_ok hw
        exact hK0 _ hw _ _ _ S537.b0 S537.g0 S537.sG S537.gn (rp_mk2 hg540 r541 (.int _))
      · have hw := cW_neg c516 hw
        refine ⟨(by show 2 ≤ sizeLine; decide), fun p542 n543 => ?_⟩
        generalize g544 : upd H512 p542 _ = H545
        obtain ⟨e546, h547⟩ := gen_new n543 g544
        have h548 : H545 p542 = some (.tup [V.str (("refused" : Str)), V.int (1)]) := h547
        have fr549 := S513.free n543
        obtain ⟨G551, eG552, hg553, S550⟩ := S513.grow n543 e546 h548 fr549
        refine ⟨(by show 2 ≤ sizeLine; decide), fun p554 n555 => ?_⟩
        generalize g556 : upd H545 p554 _ = H557
        obtain ⟨e558, h559⟩ := gen_new n555 g556
        have h560 : H557 p554 = some (.tup [V.ref p542, V.int (0)]) := h559
        have fr561 := S550.free n555
        obtain ⟨G563, eG564, hg565, S562⟩ := S550.grow n555 e558 h560 fr561
        have r566 : Rp G563 (V.ref p542) (encD ((encT2 PyData.str PyData.int) ((("refused" : Str), 1)))) := (rp_mk2 (eG564 _ _ hg553) (.str _) (.int _))
        have hw := cW_ok hw
        exact hK0 _ hw _ _ _ S562.b0 S562.g0 S562.sG S562.gn (rp_mk2 hg565 r566 (.int _))

abbrev N__law_due : List Str := ["bits", "kind", "count", "found"]
theorem sc__law_due : FnScope N__law_due ["bits", "kind", "count"] (defScope s__law_due) := ⟨rfl, rfl, rfl, by decide +kernel, rfl, by decide +kernel, by decide +kernel⟩
theorem ok__law_due (D : DefX K mg "_law_due" s__law_due ["bits", "kind", "count"] pats__law_due) (T : Txt w K mg AD) (c__law_number : CalX P w K mg base 1 "_law_number" (sp__law_number K AD) pats__law_number) (c__law_code : CalX P w K mg base 2 "_law_code" (sp__law_code K AD) pats__law_code) : CalX P w K mg base 3 "_law_due" (sp__law_due K AD) pats__law_due := by
  refine D.ok sc__law_due (fun vs H Q E h => ?_) (fun f cdv A_ outer s H vs Q E hr h => ?_)
  · obtain ⟨G, a_bits, bits', kind', count', rfl, _⟩ := h
    rfl
  · obtain ⟨G, a_bits, bits', kind', count', rfl, sG, q_bits, hw⟩ := h
    refine ⟨_, (pss_cons (ps_if (pt_cmp (pc_eqI (pv 1) pe_int)) (pss_cons (ps_if (pt_cmp (pc_lt (pe_callB (call_lenLiK (K := K)) (by rfl) T.b_len (by decide +kernel) (pa_cons (pv 0) pa_nil)) (pv 2))) (pss_one (ps_ret (pe_tup (pa_cons (pe_tup (pa_cons pe_str (pa_cons pe_int pa_nil))) (pa_cons pe_int pa_nil))))) pss_nil)
      (pss_one (ps_ret (pe_tup (pa_cons (vx_callX c__law_number pat__law_number_0 (.head _) hr (by decide) (takes_of rfl rfl rfl rfl) rfl (pa_cons (pe_slice (sl_listK (K := K)) (pv 0) po_none (po_some (pv 2))) pa_nil) pk_nil) (pa_cons (pv 2) pa_nil)))))) pss_nil)
      (pss_cons (ps_set (i := 3) sc__law_due.nd rfl (Or.inl rfl) (vx_callX c__law_code pat__law_code_0 (.head _) hr (by decide) (takes_of rfl rfl rfl rfl) rfl (pa_cons (pv 0) pa_nil) pk_nil))
      (pss_cons (ps_if (PW.pt (pw_or (pt_cmp (pc_eqI (pv 1) pe_int)) (pw_or1 (pt_val (pe_callB (call_isiD kit_dTup) (by rfl) T.b_isinstance (by decide +kernel) (pa_cons (pe_ix (ix_tupK (K := K)) (pv 3) pe_int (fun _ _ => rfl)) (pa_cons (pe_bltn (v := V.ty "tuple") (u := Value.type "tuple") (by rfl) T.b_tuple (by decide +kernel) rfl) pa_nil))))))) (pss_one (ps_ret (pv 3))) pss_nil)
      (pss_cons (ps_if (pt_cmp (pc_eqI (pe_op op_and (pe_ix (ix_tupK (K := K)) (pv 3) pe_int (fun _ _ => rfl)) pe_int) pe_int)) (pss_one (ps_ret (pe_tup (pa_cons (pe_op op_fdivW (pe_op op_add (pe_ix (ix_tupK (K := K)) (pv 3) pe_int (fun _ _ => rfl)) pe_int) pe_int) (pa_cons (pe_ix (ix_tupK (K := K)) (pv 3) pe_int (fun _ _ => rfl)) pa_nil))))) pss_nil)
      (pss_one (ps_ret (pe_tup (pa_cons (pe_op op_fdivW (pe_un un_neg (pe_ix (ix_tupK (K := K)) (pv 3) pe_int (fun _ _ => rfl))) pe_int) (pa_cons (pe_ix (ix_tupK (K := K)) (pv 3) pe_int (fun _ _ => rfl)) pa_nil))))))))), ?_⟩
    obtain ⟨KK, EE, hK0, hE, hw⟩ := cW_gen hw
    have S0 := Sep.startG sG
    unfold F__law_due at hw
    refine ⟨_, rfl, _, _, rfl, rfl, _, rfl, ?_⟩
    refine iteD (fun c567 => ?_) (fun c567 => ?_)
    · have hw := cW_pos c567 hw
      refine ⟨_, rfl, _, _, rfl, (SqL.of (S0.bM _ _ q_bits)), _, rfl, _, _, rfl, rfl, _, rfl, ?_⟩
      refine iteD (fun c568 => ?_) (fun c568 => ?_)
      · have hw := cW_pos c568 hw
        refine ⟨(by show 2 ≤ sizeLine; decide), fun p569 n570 => ?_⟩
        generalize g571 : upd H p569 _ = H572
        obtain ⟨e573, h574⟩ := gen_new n570 g571
        have h575 : H572 p569 = some (.tup [V.str (("refused" : Str)), V.int (1)]) := h574
        have fr576 := S0.free n570
        obtain ⟨G578, eG579, hg580, S577⟩ := S0.grow n570 e573 h575 fr576
        refine ⟨(by show 2 ≤ sizeLine; decide), fun p581 n582 => ?_⟩
        generalize g583 : upd H572 p581 _ = H584
        obtain ⟨e585, h586⟩ := gen_new n582 g583
        have h587 : H584 p581 = some (.tup [V.ref p569, V.int (0)]) := h586
        have fr588 := S577.free n582
        obtain ⟨G590, eG591, hg592, S589⟩ := S577.grow n582 e585 h587 fr588
        have r593 : Rp G590 (V.ref p569) (encD ((encT2 PyData.str PyData.int) ((("refused" : Str), 1)))) := (rp_mk2 (eG591 _ _ hg580) (.str _) (.int _))
        have hw := cW_ok hw
        exact hK0 _ hw _ _ _ S589.b0 S589.g0 S589.sG S589.gn (rp_mk2 hg592 r593 (.int _))
      · have hw := cW_neg c568 hw
        refine ⟨_, rfl, _, rfl, _, rfl, _, _, rfl, (SqL.of (S0.bM _ _ q_bits)), fun p594 n595 => ?_⟩
        generalize g596 : upd H p594 _ = H597
        obtain ⟨e598, h599⟩ := gen_new n595 g596
        have h600 : H597 p594 = some (.lst ((cutL (bits') none (some (count')) : (List Int)).map V.int)) := cut_map h599
        have fr601 := S0.free n595
        have S602 := S0.new n595 e598 h600 fr601
        refine ⟨rfl, rfl, G, _, _, rfl, S602.sG, (hide_nil h600), cW_call hw (fun v603 hw H604 e605 => ?_) (fun e he H2 e2 => hE e he H2 (Same.trans S602.b0 e2))⟩
        have S606 := S602.same e605
        refine ⟨_, rfl, (by show 2 ≤ sizeLine; decide), fun p607 n608 => ?_⟩
        generalize g609 : upd H604 p607 _ = H610
        obtain ⟨e611, h612⟩ := gen_new n608 g609
        have h613 : H610 p607 = some (.tup [V.int (v603), V.int (count')]) := h612
        have fr614 := S606.free n608
        obtain ⟨G616, eG617, hg618, S615⟩ := S606.grow n608 e611 h613 fr614
        have r619 : Rp G616 (V.int (v603)) (encD (PyData.int (v603))) := (.int _)
        have hw := cW_ok hw
        exact hK0 _ hw _ _ _ S615.b0 S615.g0 S615.sG S615.gn (rp_mk2 hg618 r619 (.int _))
    · have hw := cW_neg c567 hw
      refine ⟨_, rfl, rfl, rfl, G, _, _, rfl, S0.sG, (hide_nil (S0.bM _ _ q_bits)), cW_call hw (fun v620 hw v623 H621 G624 e622 eG625 sG626 hn627 r628 => ?_) (fun e he H2 e2 => hE e he H2 (Same.trans S0.b0 e2))⟩
      have S629 := S0.step e622 eG625 sG626 hn627
      obtain ⟨a630, v632, v633, rfl, h631, r634, r635⟩ := rp_tup2 r628
      obtain rfl := rp_int r635
      refine ⟨_, rfl, _, _, rfl, rfl, _, rfl, ?_⟩
      refine iteD (fun c636 => ?_) (fun c636 => ?_)
      · have hw := cW_pos c636 hw
        refine iteT ?_
        refine ⟨_, rfl, ?_⟩
        have hw := cW_ok hw
        exact hK0 _ hw _ _ _ S629.b0 S629.g0 S629.sG S629.gn (rp_mk2 h631 r634 (.int _))
      · have hw := cW_neg c636 hw
        refine ⟨_, rfl, _, _, _, _, rfl, rfl, (SqT.of (S629.sG _ _ h631)), rfl, _, v620.1, rfl, (Rp.mono S629.sG r634), _, rfl, ?_⟩
        refine iteB (fun c637 => ?_) (fun c637 => ?_)
        · have hw := cW_pos c637 hw
          refine ⟨_, rfl, ?_⟩
          have hw := cW_ok hw
          exact hK0 _ hw _ _ _ S629.b0 S629.g0 S629.sG S629.gn (rp_mk2 h631 r634 (.int _))
        · have hw := cW_negB c637 hw
          obtain ⟨g638, hw⟩ := cW_grd hw
          have r639 : Rp G624 v632 (PyData.int ((cI).dec (v620.1))) := rp_dcast cI g638 r634
          obtain rfl := rp_int r639
          refine ⟨_, rfl, _, _, _, _, rfl, rfl, (SqT.of (S629.sG _ _ h631)), rfl, _, _, rfl, rfl, _, _, rfl, rfl, _, rfl, ?_⟩
          refine iteD (fun c640 => ?_) (fun c640 => ?_)
          · have hw := cW_pos c640 hw
            refine ⟨_, rfl, _, _, _, _, rfl, rfl, (SqT.of (S629.sG _ _ h631)), rfl, _, _, rfl, rfl, _, _, rfl, rfl, (divW_lit (by decide) (by decide)), _, rfl, _, _, _, _, rfl, rfl, (SqT.of (S629.sG _ _ h631)), rfl, (by show 2 ≤ sizeLine; decide), fun p641 n642 => ?_⟩
            generalize g643 : upd H621 p641 _ = H644
            obtain ⟨e645, h646⟩ := gen_new n642 g643
            have h647 : H644 p641 = some (.tup [V.int (((((cI).dec (v620.1)) + 1) / 2)), V.int (v620.2)]) := h646
            have fr648 := S629.free n642
            obtain ⟨G650, eG651, hg652, S649⟩ := S629.grow n642 e645 h647 fr648
            have r653 : Rp G650 (V.int (((((cI).dec (v620.1)) + 1) / 2))) (encD (PyData.int (((((cI).dec (v620.1)) + 1) / 2)))) := (.int _)
            have hw := cW_ok hw
            exact hK0 _ hw _ _ _ S649.b0 S649.g0 S649.sG S649.gn (rp_mk2 hg652 r653 (.int _))
          · have hw := cW_neg c640 hw
            refine ⟨_, rfl, _, _, _, _, rfl, rfl, (SqT.of (S629.sG _ _ h631)), rfl, _, rfl, _, _, rfl, rfl, (divW_lit (by decide) (by decide)), _, rfl, _, _, _, _, rfl, rfl, (SqT.of (S629.sG _ _ h631)), rfl, (by show 2 ≤ sizeLine; decide), fun p654 n655 => ?_⟩
            generalize g656 : upd H621 p654 _ = H657
            obtain ⟨e658, h659⟩ := gen_new n655 g656
            have h660 : H657 p654 = some (.tup [V.int (((-((cI).dec (v620.1))) / 2)), V.int (v620.2)]) := h659
            have fr661 := S629.free n655
            obtain ⟨G663, eG664, hg665, S662⟩ := S629.grow n655 e658 h660 fr661
            have r666 : Rp G663 (V.int (((-((cI).dec (v620.1))) / 2))) (encD (PyData.int (((-((cI).dec (v620.1))) / 2)))) := (.int _)
            have hw := cW_ok hw
            exact hK0 _ hw _ _ _ S662.b0 S662.g0 S662.sG S662.gn (rp_mk2 hg665 r666 (.int _))

abbrev N_BitReader__look : List Str := ["self", "place", "count", "end", "value", "octet"]
theorem sc_BitReader__look : FnScope N_BitReader__look ["self", "place", "count"] (defScope s_BitReader__look) := ⟨rfl, rfl, rfl, by decide +kernel, rfl, by decide +kernel, by decide +kernel⟩
theorem ok_BitReader__look (D : MethX K AD.c_BitReader "BitReader._look" "_look" s_BitReader__look ["self", "place", "count"] pats_BitReader__look) (T : Txt w K mg AD)  : MetX P w K mg base 1 AD.c_BitReader "_look" (sp_BitReader__look K AD) pats_BitReader__look := by
  refine D.ok T.cl_BitReader sc_BitReader__look (fun vs H Q E h => ?_) (fun f cdv A_ outer s H vs Q E hr h => ?_)
  · obtain ⟨G, p_self, l_self_octs, dx_self, self', place', count', rfl, _⟩ := h
    rfl
  · obtain ⟨G, p_self, l_self_octs, dx_self, self', place', count', rfl, sG, h_p_self, h_l_self_octs, hw⟩ := h
    refine ⟨_, (pss_cons (ps_set (i := 3) sc_BitReader__look.nd rfl (Or.inl rfl) (pe_op op_add (pv 1) (pv 2)))
      (pss_cons (ps_if (pt_cmp (pc_gt (pv 3) (fldK (K := K) (pv 0)))) (pss_one (ps_raise rfl (takes_of rfl rfl rfl rfl) (pmk_own PySem.F.excBase_ValueError T.xx_OutOfBits T.xg_OutOfBits T.xk_OutOfBits (raises_own T.xb_OutOfBits T.xt_OutOfBits) rfl))) pss_nil)
      (pss_cons (ps_set (i := 4) sc_BitReader__look.nd rfl (Or.inl rfl) pe_int)
      (pss_cons (ps_for (passes_of rfl) rfl (pi_listK (K := K) (pe_slice (sl_listK (K := K)) (fldK (K := K) (pv 0)) (po_some (pe_op op_fdivW (pv 1) pe_int)) (po_some (pe_op op_fdivW (pe_op op_add (pv 3) pe_int) pe_int)))) (pg_name (i := 5) sc_BitReader__look.nd rfl (Or.inl rfl)) (pss_one (ps_set (i := 4) sc_BitReader__look.nd rfl (Or.inl rfl) (pe_op op_or (pe_op op_shlW (pv 4) pe_int) (pv 5)))))
      (pss_one (ps_ret (pe_op op_and (pe_op op_shr (pv 4) (pe_op op_and (pe_un un_neg (pv 3)) pe_int)) (pe_op op_sub (pe_op op_shlW pe_int (pv 2)) pe_int)))))))), ?_⟩
    obtain ⟨KK, EE, hK0, hE, hw⟩ := cW_gen hw
    have S0 := Sep.startG sG
    unfold F_BitReader__look at hw
    refine ⟨_, rfl, _, rfl, _, _, rfl, rfl, ?_⟩
    have hw := cW_bnd hw
    refine ⟨_, rfl, _, rfl, _, _, _, _, _, rfl, (S0.bM _ _ h_p_self), T.cl_BitReader, T.n_BitReader__end, rfl, _, _, rfl, rfl, _, rfl, ?_⟩
    refine iteD (fun c668 => ?_) (fun c668 => ?_)
    · have hw := cW_pos c668 hw
      exact hE 2 (cW_er hw) _ S0.b0
    · have hw := cW_neg c668 hw
      refine ⟨_, rfl, _, _, _, _, _, rfl, (S0.bM _ _ h_p_self), T.cl_BitReader, T.n_BitReader__octets, rfl, _, rfl, _, _, rfl, rfl, (divW_lit (by decide) (by decide)), _, rfl, _, rfl, _, _, rfl, rfl, _, _, rfl, rfl, (divW_lit (by decide) (by decide)), _, rfl, _, _, rfl, (SqL.of (S0.bM _ _ h_l_self_octs)), fun p669 n670 => ?_⟩
      generalize g671 : upd H p669 _ = H672
      obtain ⟨e673, h674⟩ := gen_new n670 g671
      have h675 : H672 p669 = some (.lst ((cutL (self'.octs) (some ((place' / 8))) (some ((((place' + count') + 7) / 8))) : (List Int)).map V.int)) := cut_map h674
      have fr676 := S0.free n670
      have S677 := S0.new n670 e673 h675 fr676
      obtain ⟨K680, hK681, hw⟩ := cW_push hw
      refine ⟨_, rfl, ⟨_, (SqL.of h675)⟩, for_list (K := K) (a := p669) (xs := (cutL (self'.octs) (some ((place' / 8))) (some ((((place' + count') + 7) / 8))) : (List Int)).map V.int) (fun i σ H' => ∃ (value_682 : Int) (u683 : Option V) (G' : Hp), σ = [some (V.ref p_self), some (V.int (place')), some (V.int (count')), some (V.int ((place' + count'))), some (V.int value_682), u683] ∧ Same G G' ∧ Sep [] H G G' H' [p669] ∧ H' p669 = some (.lst ((cutL (self'.octs) (some ((place' / 8))) (some ((((place' + count') + 7) / 8))) : (List Int)).map V.int)) ∧ cW (forS (List.drop i (cutL (self'.octs) (some ((place' / 8))) (some ((((place' + count') + 7) / 8))))) value_682 (fun s x => F_BitReader__look_b1  s x)) K680 EE) ?_ ?_ ?_ ?_⟩
      · exact ⟨(0), _, _, rfl, (Same.refl _), S677, h675, hw⟩
      · intro i σ H684 _ hw
        obtain ⟨value_682, u683, G687, rfl, eG688, S685, h686, hw⟩ := hw
        exact (SqL.of h686)
      · intro i x σ H689 hj hw
        obtain ⟨value_682, u683, G692, rfl, eG693, S690, h691, hw⟩ := hw
        obtain ⟨x694, hx, rfl⟩ := map_get hj
        have hw := cW_forS hx hw
        have hw : cW (F_BitReader__look_b1  (value_682) (x694)) _ EE := hw
        unfold F_BitReader__look_b1 at hw
        obtain ⟨K696, hK697, hw⟩ := cW_name hw
        obtain ⟨g699, hw⟩ := cW_grd hw
        refine ⟨_, rfl, _, _, rfl, rfl, (shl_side g699.1 g699.2.1 g699.2.2.1 g699.2.2.2), _, rfl, _, _, rfl, rfl, ?_⟩
        have hw := cW_bnd hw
        have hw := cW_ok hw
        have hw := hK697 _ hw
        exact ⟨((PySem.Builtin.bitOr ((value_682 * 2 ^ Int.toNat (8))) (x694))), _, _, rfl, eG693, S690, h691, hw⟩
      · intro σ H701 hw
        obtain ⟨value_682, u683, G704, rfl, eG705, S702, h703, hw⟩ := hw
        have hw := hK681 _ (cW_forS0 (by rw [List.length_map]) hw)
        have hw : cW (F_BitReader__look_r1 (count') ((place' + count')) (value_682)) _ EE := hw
        unfold F_BitReader__look_r1 at hw
        obtain ⟨g707, hw⟩ := cW_grd hw
        obtain ⟨g708, hw⟩ := cW_grd hw
        refine ⟨_, rfl, _, rfl, _, rfl, _, _, rfl, rfl, _, _, rfl, rfl, g707, _, rfl, _, _, rfl, rfl, (shl_side g708.1 g708.2.1 g708.2.2.1 g708.2.2.2), _, _, rfl, rfl, _, _, rfl, rfl, ?_⟩
        have hw := cW_ok hw
        exact hK0 _ hw _ S702.b0

abbrev N_BitReader__zeros : List Str := ["self", "zeros"]
theorem sc_BitReader__zeros : FnScope N_BitReader__zeros ["self"] (defScope s_BitReader__zeros) := ⟨rfl, rfl, rfl, by decide +kernel, rfl, by decide +kernel, by decide +kernel⟩
theorem ok_BitReader__zeros (D : MethX K AD.c_BitReader "BitReader._zeros" "_zeros" s_BitReader__zeros ["self"] pats_BitReader__zeros) (T : Txt w K mg AD) (c_BitReader__look : MetX P w K mg base 1 AD.c_BitReader "_look" (sp_BitReader__look K AD) pats_BitReader__look) : MetX P w K mg base 2 AD.c_BitReader "_zeros" (sp_BitReader__zeros K AD) pats_BitReader__zeros := by
  refine D.ok T.cl_BitReader sc_BitReader__zeros (fun vs H Q E h => ?_) (fun f cdv A_ outer s H vs Q E hr h => ?_)
  · obtain ⟨G, p_self, l_self_octs, dx_self, self', rfl, _⟩ := h
    rfl
  · obtain ⟨G, p_self, l_self_octs, dx_self, self', rfl, sG, h_p_self, h_l_self_octs, hw⟩ := h
    refine ⟨_, (pss_cons (ps_set (i := 1) sc_BitReader__zeros.nd rfl (Or.inl rfl) pe_int)
      (pss_cons (ps_while (passes_of rfl) (pt_cmp (pc_eqI (vx_methX c_BitReader__look pat_BitReader__look_0 (.head _) hr (by decide) (takes_of rfl rfl rfl rfl) (pv 0) (pa_cons (pe_op op_add (fldK (K := K) (pv 0)) (pv 1)) (pa_cons pe_int pa_nil)) pk_nil) pe_int)) (pss_cons (ps_aug (i := 1) sc_BitReader__zeros.nd rfl (Or.inl rfl) pe_int (pip iop_add))
      (pss_one (ps_if (pt_cmp (pc_gt (pv 1) (C8.pe_gc rfl T.g_MOST_ZEROS))) (pss_one (ps_raise rfl (takes_of rfl rfl rfl rfl) (pmk_own PySem.F.excBase_ValueError T.xx_BadOctets T.xg_BadOctets T.xk_BadOctets (raises_own T.xb_BadOctets T.xt_BadOctets) rfl))) pss_nil))))
      (pss_one (ps_ret (pv 1))))), ?_⟩
    obtain ⟨KK, EE, hK0, hE, hw⟩ := cW_gen hw
    have S0 := Sep.startG sG
    unfold F_BitReader__zeros at hw
    obtain ⟨K710, hK711, hw⟩ := cW_push hw
    refine ⟨fun m σ H' => ∃ (zeros_712 : Int) (G' : Hp), σ = [some (V.ref p_self), some (V.int zeros_712)] ∧ Same G G' ∧ Sep [] H G G' H' [] ∧ cW (whileR m zeros_712 (fun s => F_BitReader__zeros_b1 (self') s)) K710 EE, ?_, ?_⟩
    · exact ⟨_, ⟨(0), _, rfl, (Same.refl _), S0, hw⟩⟩
    · intro m σ H713 hw
      obtain ⟨zeros_712, G715, rfl, eG716, S714, hw⟩ := hw
      obtain ⟨m717, rfl, hw2⟩ := cW_whileR hw
      have hw := hw2
      have hw : cW (F_BitReader__zeros_b1 (self') (zeros_712)) _ EE := hw
      unfold F_BitReader__zeros_b1 at hw
      obtain ⟨K719, hK720, hw⟩ := cW_name hw
      refine ⟨_, rfl, _, _, _, rfl, (S714.bM _ _ h_p_self), rfl, _, rfl, _, _, _, _, _, rfl, (S714.bM _ _ h_p_self), T.cl_BitReader, T.n_BitReader__place, rfl, _, rfl, _, _, rfl, rfl, rfl, rfl, G715, _, _, _, self', _, _, rfl, S714.sG, (hide_nil (S714.bM _ _ h_p_self)), (hide_nil (S714.bM _ _ h_l_self_octs)), cW_call hw (fun v721 hw H722 e723 => ?_) (fun e he H2 e2 => hE e he H2 (Same.trans S714.b0 e2))⟩
      have S724 := S714.same e723
      refine ⟨_, _, rfl, rfl, _, rfl, ?_⟩
      refine iteD (fun c725 => ?_) (fun c725 => ?_)
      · have hw := cW_pos c725 hw
        refine ⟨(fun σ H' => ∃ m, (∃ (zeros_712 : Int) (G' : Hp), σ = [some (V.ref p_self), some (V.int zeros_712)] ∧ Same G G' ∧ Sep [] H G G' H' [] ∧ cW (whileR m zeros_712 (fun s => F_BitReader__zeros_b1 (self') s)) K710 EE) ∧ m < m717 + 1), (fun _ _ ⟨m', a, b⟩ => ⟨m', b, a⟩), ?_⟩
        refine ⟨_, rfl, _, _, rfl, rfl, ?_⟩
        have hw := cW_bnd hw
        refine ⟨_, rfl, _, _, rfl, rfl, _, rfl, ?_⟩
        refine iteD (fun c727 => ?_) (fun c727 => ?_)
        · have hw := cW_pos c727 hw
          exact hE 3 (cW_er hw) _ S724.b0
        · have hw := cW_neg c727 hw
          have hw := cW_ok hw
          have hw := hK720 _ hw
          exact ⟨m717, ⟨((zeros_712 + 1)), _, rfl, eG716, S724, hw⟩, Nat.lt_succ_self _⟩
      · have hw := cW_neg c725 hw
        have hw := cW_ok hw
        have hw := hK720 _ hw
        have hw := cW_aftgo (hK711 (.go _) hw)
        have hw : cW (F_BitReader__zeros_r1  (zeros_712)) _ EE := hw
        unfold F_BitReader__zeros_r1 at hw
        refine ⟨_, rfl, ?_⟩
        have hw := cW_ok hw
        exact hK0 _ hw _ S724.b0

abbrev N_BitReader__take : List Str := ["self", "count", "value"]
theorem sc_BitReader__take : FnScope N_BitReader__take ["self", "count"] (defScope s_BitReader__take) := ⟨rfl, rfl, rfl, by decide +kernel, rfl, by decide +kernel, by decide +kernel⟩
theorem ok_BitReader__take (D : MethX K AD.c_BitReader "BitReader._take" "_take" s_BitReader__take ["self", "count"] pats_BitReader__take) (T : Txt w K mg AD) (c_BitReader__look : MetX P w K mg base 1 AD.c_BitReader "_look" (sp_BitReader__look K AD) pats_BitReader__look) : MetX P w K mg base 2 AD.c_BitReader "_take" (sp_BitReader__take K AD) pats_BitReader__take := by
  refine D.ok T.cl_BitReader sc_BitReader__take (fun vs H Q E h => ?_) (fun f cdv A_ outer s H vs Q E hr h => ?_)
  · obtain ⟨G, p_self, l_self_octs, dx_self, self', count', rfl, _⟩ := h
    rfl
  · obtain ⟨G, p_self, l_self_octs, dx_self, self', count', rfl, sG, gM, h_p_self, h_l_self_octs, hw⟩ := h
    refine ⟨_, (pss_cons (ps_set (i := 2) sc_BitReader__take.nd rfl (Or.inl rfl) (vx_methX c_BitReader__look pat_BitReader__look_0 (.head _) hr (by decide) (takes_of rfl rfl rfl rfl) (pv 0) (pa_cons (fldK (K := K) (pv 0)) (pa_cons (pv 1) pa_nil)) pk_nil))
      (pss_cons (ps_fldaug (pv 0) (pv 1) (pip iop_add))
      (pss_one (ps_ret (pv 2))))), ?_⟩
    obtain ⟨KK, EE, hK0, hE, hw⟩ := cW_gen hw
    have S0 := Sep.startM (M := [p_self, l_self_octs]) sG (all_cons (some_ne h_p_self) (all_cons (some_ne h_l_self_octs) all_nil)) gM
    unfold F_BitReader__take at hw
    refine ⟨_, rfl, _, _, _, rfl, h_p_self, rfl, _, rfl, _, _, _, _, _, rfl, h_p_self, T.cl_BitReader, T.n_BitReader__place, rfl, _, rfl, rfl, rfl, G, _, _, _, self', _, _, rfl, S0.sG, (hide_nil h_p_self), (hide_nil h_l_self_octs), cW_call hw (fun v729 hw H730 e731 => ?_) (fun e he H2 e2 => hE e he H2 (Same.trans (Same.refl _) e2))⟩
    have S732 := S0.same e731
    have h733 := (e731 _ _ h_p_self)
    have hw := cW_bnd hw
    refine ⟨_, rfl, _, _, _, _, _, rfl, h733, T.cl_BitReader, T.n_BitReader__place, rfl, _, rfl, _, _, rfl, rfl, _, _, h733, (by show 3 < 1000; decide), ?_⟩
    generalize g735 : upd H730 p_self _ = H736
    obtain ⟨x737, h738⟩ := gen_mut g735
    have h739 : H736 p_self = some (.ins AD.c_BitReader dx_self [("_octets", V.ref l_self_octs), ("_place", V.int ((self'.place + count'))), ("_end", V.int (self'.stop))]) := h738
    have S740 := S732.mut1 x737 (.head _) h739
    refine ⟨_, rfl, ?_⟩
    have h741 := (x737 _ _ (e731 _ _ h_l_self_octs) (ne_of h_l_self_octs h_p_self (fun z => nomatch z)))
    have hw := cW_ok hw
    exact hK0 _ hw _ S740.base h739 h741

abbrev N_BitReader_get_ue : List Str := ["self", "zeros"]
theorem sc_BitReader_get_ue : FnScope N_BitReader_get_ue ["self"] (defScope s_BitReader_get_ue) := ⟨rfl, rfl, rfl, by decide +kernel, rfl, by decide +kernel, by decide +kernel⟩
theorem ok_BitReader_get_ue (D : MethX K AD.c_BitReader "BitReader.get_ue" "get_ue" s_BitReader_get_ue ["self"] pats_BitReader_get_ue) (T : Txt w K mg AD) (c_BitReader__zeros : MetX P w K mg base 2 AD.c_BitReader "_zeros" (sp_BitReader__zeros K AD) pats_BitReader__zeros) (c_BitReader__take : MetX P w K mg base 2 AD.c_BitReader "_take" (sp_BitReader__take K AD) pats_BitReader__take) : MetX P w K mg base 3 AD.c_BitReader "get_ue" (sp_BitReader_get_ue K AD) pats_BitReader_get_ue := by
  refine D.ok T.cl_BitReader sc_BitReader_get_ue (fun vs H Q E h => ?_) (fun f cdv A_ outer s H vs Q E hr h => ?_)
  · obtain ⟨G, p_self, l_self_octs, dx_self, self', rfl, _⟩ := h
    rfl
  · obtain ⟨G, p_self, l_self_octs, dx_self, self', rfl, sG, gM, h_p_self, h_l_self_octs, hw⟩ := h
    refine ⟨_, (pss_cons (ps_set (i := 1) sc_BitReader_get_ue.nd rfl (Or.inl rfl) (vx_methX0 c_BitReader__zeros pat_BitReader__zeros_0 (.head _) hr (by decide) (takes_of rfl rfl rfl rfl) (pv 0)))
      (pss_one (ps_ret (pe_op op_sub (vx_methX c_BitReader__take pat_BitReader__take_0 (.head _) hr (by decide) (takes_of rfl rfl rfl rfl) (pv 0) (pa_cons (pe_op op_add (pe_op op_mul pe_int (pv 1)) pe_int) pa_nil) pk_nil) pe_int)))), ?_⟩
    obtain ⟨KK, EE, hK0, hE, hw⟩ := cW_gen hw
    have S0 := Sep.startM (M := [p_self, l_self_octs]) sG (all_cons (some_ne h_p_self) (all_cons (some_ne h_l_self_octs) all_nil)) gM
    unfold F_BitReader_get_ue at hw
    refine ⟨_, rfl, _, _, _, rfl, h_p_self, rfl, rfl, rfl, G, _, _, _, self', rfl, S0.sG, (hide_nil h_p_self), (hide_nil h_l_self_octs), cW_call hw (fun v742 hw H743 e744 => ?_) (fun e he H2 e2 => hE e he H2 (Same.trans (Same.refl _) e2))⟩
    have S745 := S0.same e744
    have h746 := (e744 _ _ h_p_self)
    have h747 := (e744 _ _ h_l_self_octs)
    refine ⟨_, rfl, _, _, _, rfl, h746, rfl, _, rfl, _, _, rfl, rfl, (.inl ⟨by decide, by decide⟩), _, _, rfl, rfl, rfl, rfl, G, _, _, _, self', _, rfl, S745.sG, (S745.gno (all_cons (.head _) (all_cons (.tail _ (.head _)) all_nil))), h746, h747, cW_call hw (fun v748 hw H749 x750 h752 h753  => ?_) (fun e he H2 e2 => hE e he H2 (Same.trans e744 e2))⟩
    have S751 := S745.mut x750 (all_cons (.head _) (all_cons (.tail _ (.head _)) all_nil)) (all_cons (some_ne h752) (all_cons (some_ne h753) all_nil))
    refine ⟨_, _, rfl, rfl, ?_⟩
    have hw := cW_ok hw
    exact hK0 _ hw _ S751.base h752 h753

abbrev N_BitReader_get_se : List Str := ["self", "code"]
theorem sc_BitReader_get_se : FnScope N_BitReader_get_se ["self"] (defScope s_BitReader_get_se) := ⟨rfl, rfl, rfl, by decide +kernel, rfl, by decide +kernel, by decide +kernel⟩
theorem ok_BitReader_get_se (D : MethX K AD.c_BitReader "BitReader.get_se" "get_se" s_BitReader_get_se ["self"] pats_BitReader_get_se) (T : Txt w K mg AD) (c_BitReader_get_ue : MetX P w K mg base 3 AD.c_BitReader "get_ue" (sp_BitReader_get_ue K AD) pats_BitReader_get_ue) : MetX P w K mg base 4 AD.c_BitReader "get_se" (sp_BitReader_get_se K AD) pats_BitReader_get_se := by
  refine D.ok T.cl_BitReader sc_BitReader_get_se (fun vs H Q E h => ?_) (fun f cdv A_ outer s H vs Q E hr h => ?_)
  · obtain ⟨G, p_self, l_self_octs, dx_self, self', rfl, _⟩ := h
    rfl
  · obtain ⟨G, p_self, l_self_octs, dx_self, self', rfl, sG, gM, h_p_self, h_l_self_octs, hw⟩ := h
    refine ⟨_, (pss_cons (ps_set (i := 1) sc_BitReader_get_se.nd rfl (Or.inl rfl) (vx_methX0 c_BitReader_get_ue pat_BitReader_get_ue_0 (.head _) hr (by decide) (takes_of rfl rfl rfl rfl) (pv 0)))
      (pss_one (ps_ret (pe_ifExp (pt_truth (pe_op op_and (pv 1) pe_int) (fun _ => rfl)) (pe_op op_fdivW (pe_op op_add (pv 1) pe_int) pe_int) (pe_un un_neg (pe_op op_fdivW (pv 1) pe_int)))))), ?_⟩
    obtain ⟨KK, EE, hK0, hE, hw⟩ := cW_gen hw
    have S0 := Sep.startM (M := [p_self, l_self_octs]) sG (all_cons (some_ne h_p_self) (all_cons (some_ne h_l_self_octs) all_nil)) gM
    unfold F_BitReader_get_se at hw
    refine ⟨_, rfl, _, _, _, rfl, h_p_self, rfl, rfl, rfl, G, _, _, _, self', rfl, S0.sG, (S0.gno (all_cons (.head _) (all_cons (.tail _ (.head _)) all_nil))), h_p_self, h_l_self_octs, cW_call hw (fun v758 hw H759 x760 h762 h763  => ?_) (fun e he H2 e2 => hE e he H2 (Same.trans (Same.refl _) e2))⟩
    have S761 := S0.mut x760 (all_cons (.head _) (all_cons (.tail _ (.head _)) all_nil)) (all_cons (some_ne h762) (all_cons (some_ne h763) all_nil))
    refine vv_ifb (c := (((PySem.Builtin.bitAnd (v758.1) (1))) != 0)) (ta := (tOp (rI CDivW fun i j => V.int (i / j)) (tOp (rI0 fun i j => V.int (i + j)) (tVar 1) (tC (V.int 1))) (tC (V.int 2)))) (tb := (tUn (rU fun i => V.int (-i)) (tOp (rI CDivW fun i j => V.int (i / j)) (tVar 1) (tC (V.int 2))))) (t := fun σ H Q => (tOp (rI0 fun i j => V.int (PySem.Builtin.bitAnd i j)) (tVar 1) (tC (V.int 1))) σ H fun x H' => ∃ k, TruV K x H' k ∧ Q k H') (a := ((v758.1 + 1) / 2)) (b := (-(v758.1 / 2))) ?hx768 ?hy769 ?hz770 _ ?_
    case hx768 => exact vt_int (val_op (val_var rfl) val_c (fun Q q => ⟨_, _, rfl, rfl, q⟩))
    case hy769 => exact (val_op (val_op (val_var rfl) val_c (fun Q q => ⟨_, _, rfl, rfl, q⟩)) val_c (fun Q q => ⟨_, _, rfl, rfl, (divW_lit (by decide) (by decide)), q⟩))
    case hz770 => exact (vv_un (val_op (val_var rfl) val_c (fun Q q => ⟨_, _, rfl, rfl, (divW_lit (by decide) (by decide)), q⟩)) (fun Q q => ⟨_, rfl, q⟩))
    have hw := cW_ok hw
    exact hK0 _ hw _ S761.base h762 h763

abbrev N_BitReader_get : List Str := ["self", "count"]
theorem sc_BitReader_get : FnScope N_BitReader_get ["self", "count"] (defScope s_BitReader_get) := ⟨rfl, rfl, rfl, by decide +kernel, rfl, by decide +kernel, by decide +kernel⟩
theorem ok_BitReader_get (D : MethX K AD.c_BitReader "BitReader.get" "get" s_BitReader_get ["self", "count"] pats_BitReader_get) (T : Txt w K mg AD) (c_BitReader__take : MetX P w K mg base 2 AD.c_BitReader "_take" (sp_BitReader__take K AD) pats_BitReader__take) : MetX P w K mg base 3 AD.c_BitReader "get" (sp_BitReader_get K AD) pats_BitReader_get := by
  refine D.ok T.cl_BitReader sc_BitReader_get (fun vs H Q E h => ?_) (fun f cdv A_ outer s H vs Q E hr h => ?_)
  · obtain ⟨G, p_self, l_self_octs, dx_self, self', count', rfl, _⟩ := h
    rfl
  · obtain ⟨G, p_self, l_self_octs, dx_self, self', count', rfl, sG, gM, h_p_self, h_l_self_octs, hw⟩ := h
    refine ⟨_, (pss_cons (ps_if (pt_not (pt_chain op_le op_le pe_int (pv 1) (C8.pe_gc rfl T.g_MOST_BITS))) (pss_one (ps_raise rfl (takes_of rfl rfl rfl rfl) (pmk_own PySem.F.excBase_ValueError T.xx_OutOfRange T.xg_OutOfRange T.xk_OutOfRange (raises_own T.xb_OutOfRange T.xt_OutOfRange) rfl))) pss_nil)
      (pss_one (ps_ret (vx_methX c_BitReader__take pat_BitReader__take_0 (.head _) hr (by decide) (takes_of rfl rfl rfl rfl) (pv 0) (pa_cons (pv 1) pa_nil) pk_nil)))), ?_⟩
    obtain ⟨KK, EE, hK0, hE, hw⟩ := cW_gen hw
    have S0 := Sep.startM (M := [p_self, l_self_octs]) sG (all_cons (some_ne h_p_self) (all_cons (some_ne h_l_self_octs) all_nil)) gM
    unfold F_BitReader_get at hw
    refine ⟨_, rfl, _, _, rfl, rfl, _, rfl, ?_⟩
    refine iteD (fun c771 => ?_) (fun c771 => ?_)
    · have hw := cW_pos c771 hw
      refine ⟨_, _, rfl, rfl, _, rfl, ?_⟩
      refine iteN (fun c772 => ?_) (fun c772 => ?_)
      · have hw := cW_neg c772 hw
        exact hE 1 (cW_er hw) _ (Same.refl _)
      · have hw := cW_pos c772 hw
        refine ⟨_, rfl, _, _, _, rfl, h_p_self, rfl, _, rfl, rfl, rfl, G, _, _, _, self', _, rfl, S0.sG, (S0.gno (all_cons (.head _) (all_cons (.tail _ (.head _)) all_nil))), h_p_self, h_l_self_octs, cW_call hw (fun v773 hw H774 x775 h777 h778  => ?_) (fun e he H2 e2 => hE e he H2 (Same.trans (Same.refl _) e2))⟩
        have S776 := S0.mut x775 (all_cons (.head _) (all_cons (.tail _ (.head _)) all_nil)) (all_cons (some_ne h777) (all_cons (some_ne h778) all_nil))
        have hw := cW_ok hw
        exact hK0 _ hw _ S776.base h777 h778
    · have hw := cW_neg c771 hw
      refine ⟨_, rfl, ?_⟩
      refine iteT ?_
      exact hE 1 (cW_er hw) _ (Same.refl _)

abbrev N__law_read : List Str := ["reader", "kind", "count", "e"]
theorem sc__law_read : FnScope N__law_read ["reader", "kind", "count"] (defScope s__law_read) := ⟨rfl, rfl, rfl, by decide +kernel, rfl, by decide +kernel, by decide +kernel⟩
theorem ok__law_read (D : DefX K mg "_law_read" s__law_read ["reader", "kind", "count"] pats__law_read) (T : Txt w K mg AD) (c_BitReader_get : MetX P w K mg base 3 AD.c_BitReader "get" (sp_BitReader_get K AD) pats_BitReader_get) (c_BitReader_get_ue : MetX P w K mg base 3 AD.c_BitReader "get_ue" (sp_BitReader_get_ue K AD) pats_BitReader_get_ue) (c_BitReader_get_se : MetX P w K mg base 4 AD.c_BitReader "get_se" (sp_BitReader_get_se K AD) pats_BitReader_get_se) : CalX P w K mg base 5 "_law_read" (sp__law_read K AD) pats__law_read := by
  refine D.ok sc__law_read (fun vs H Q E h => ?_) (fun f cdv A_ outer s H vs Q E hr h => ?_)
  · obtain ⟨G, p_reader, l_reader_octs, dx_reader, reader', kind', count', rfl, _⟩ := h
    rfl
  · obtain ⟨G, p_reader, l_reader_octs, dx_reader, reader', kind', count', rfl, sG, gM, h_p_reader, h_l_reader_octs, hw⟩ := h
    refine ⟨_, (pss_cons (Ve.ps_try_cls rfl rfl sc__law_read.nd (takes_of rfl rfl rfl rfl) (fun W pn xe tk pse => (pss_cons (ps_if (pt_cmp (pc_eqI (pv 1) pe_int)) (pss_one (ps_ret (vx_methX c_BitReader_get pat_BitReader_get_0 (.head _) hr (by decide) tk (pv 0) (pa_cons (pv 2) pa_nil) pk_nil))) pss_nil)
      (pss_cons (ps_if (pt_cmp (pc_eqI (pv 1) pe_int)) (pss_one (ps_ret (vx_methX0 c_BitReader_get_ue pat_BitReader_get_ue_0 (.head _) hr (by decide) tk (pv 0)))) pss_nil)
      (pss_one (ps_ret (vx_methX0 c_BitReader_get_se pat_BitReader_get_se_0 (.head _) hr (by decide) tk (pv 0))))))) (.cons (Ve.cl_mk (i := 3) ⟨rfl, by decide, .inl T.xg_OutOfBits⟩ rfl rfl (fun a oe cls d pn hz hf => (pss_one (ps_if (PW.pt (pw_and (pt_val (pe_callB (call_isX (K := K) hz hf) (by rfl) T.b_isinstance (by decide +kernel) (pa_cons (pv 3) (pa_cons (C8.pe_gc (v := V.ref AD.x_CodecError) rfl ⟨_, T.xg_CodecError, rfl⟩) pa_nil)))) (pw_and1 (pt_not (pt_val (pe_callB (call_isX (K := K) hz hf) (by rfl) T.b_isinstance (by decide +kernel) (pa_cons (pv 3) (pa_cons (C8.pe_gc (v := V.ref AD.x_BadOctets) rfl ⟨_, T.xg_BadOctets, rfl⟩) pa_nil)))))))) (pss_one (ps_ret (pe_tup (pa_cons pe_str (pa_cons pe_int pa_nil))))) pss_nil)))) (.cons (Ve.cl_mk (i := 3) ⟨rfl, by decide, .inl T.xg_BadOctets⟩ rfl rfl (fun a oe cls d pn hz hf => (pss_one (ps_if (PW.pt (pw_and (pt_val (pe_callB (call_isX (K := K) hz hf) (by rfl) T.b_isinstance (by decide +kernel) (pa_cons (pv 3) (pa_cons (C8.pe_gc (v := V.ref AD.x_CodecError) rfl ⟨_, T.xg_CodecError, rfl⟩) pa_nil)))) (pw_and1 (pt_not (pt_val (pe_callB (call_isX (K := K) hz hf) (by rfl) T.b_isinstance (by decide +kernel) (pa_cons (pv 3) (pa_cons (C8.pe_gc (v := V.ref AD.x_OutOfBits) rfl ⟨_, T.xg_OutOfBits, rfl⟩) pa_nil)))))))) (pss_one (ps_ret (pe_tup (pa_cons pe_str (pa_cons pe_int pa_nil))))) pss_nil)))) .nil)))
      (pss_one (ps_ret pe_non))), ?_⟩
    obtain ⟨KK, EE, hK0, hE, hw⟩ := cW_gen hw
    have S0 := Sep.startM (M := [p_reader, l_reader_octs]) sG (all_cons (some_ne h_p_reader) (all_cons (some_ne h_l_reader_octs) all_nil)) gM
    unfold F__law_read at hw
    refine ⟨_, rfl, _, _, rfl, rfl, _, rfl, ?_⟩
    refine iteD (fun c783 => ?_) (fun c783 => ?_)
    · have hw := cW_pos c783 hw
      refine ⟨_, rfl, _, _, _, rfl, h_p_reader, rfl, _, rfl, rfl, rfl, G, _, _, _, reader', _, rfl, S0.sG, (S0.gno (all_cons (.head _) (all_cons (.tail _ (.head _)) all_nil))), h_p_reader, h_l_reader_octs, cW_try hw (fun v784 hw H785 x786 h788 h789  => ?_) ?_⟩
      · have S787 := S0.mut x786 (all_cons (.head _) (all_cons (.tail _ (.head _)) all_nil)) (all_cons (some_ne h788) (all_cons (some_ne h789) all_nil))
        have r794 : Rp G (V.int (v784.1)) (encD (PyData.int (v784.1))) := (.int _)
        have hw := cW_ok hw
        exact hK0 _ hw _ S787.base h788 h789 _ _ S787.g0 S787.sG S787.gn r794
      · intro e hm hw H795 e796
        have S797 := S0.same e796
        rcases mem_cons2 hm with rfl | hm
        · have hw := cW_pos rfl hw
          refine ⟨true, T.xm_OutOfBits_OutOfBits, fun _ a798 na799 => ?_, fun q => nomatch q⟩
          refine ⟨_, rfl, _, _, _, rfl, rfl, T.xc_OutOfBits, rfl, T.xo_OutOfBits_CodecError, _, rfl, ?_⟩
          refine iteT ?_
          refine ⟨_, rfl, _, _, _, rfl, rfl, T.xc_OutOfBits, rfl, T.xn_OutOfBits_BadOctets, _, rfl, ?_⟩
          refine iteT ?_
          refine ⟨(by show 2 ≤ sizeLine; decide), fun p800 n801 => ?_⟩
          generalize g802 : upd H795 p800 _ = H803
          obtain ⟨e804, h805⟩ := gen_new n801 g802
          have h806 : H803 p800 = some (.tup [V.str (("refused" : Str)), V.int (1)]) := h805
          have fr807 := S797.free n801
          obtain ⟨G809, eG810, hg811, S808⟩ := S797.grow n801 e804 h806 fr807
          have r812 : Rp G809 (V.ref p800) (encD ((encT2 PyData.str PyData.int) ((("refused" : Str), 1)))) := (rp_mk2 hg811 (.str _) (.int _))
          have h813 := (e804 _ _ (e796 _ _ h_p_reader))
          have h814 := (e804 _ _ (e796 _ _ h_l_reader_octs))
          have hw := cW_ok hw
          exact hK0 _ hw _ S808.base h813 h814 _ _ S808.g0 S808.sG S808.gn r812
        obtain rfl := mem_one hm
        · have hw := cW_neg (by decide) hw
          refine ⟨false, T.xmf_BadOctets_OutOfBits, (fun q => nomatch q), fun _ => ⟨true, T.xm_BadOctets_BadOctets, fun _ a815 na816 => ?_, fun q => nomatch q⟩⟩
          refine ⟨_, rfl, _, _, _, rfl, rfl, T.xc_BadOctets, rfl, T.xo_BadOctets_CodecError, _, rfl, ?_⟩
          refine iteT ?_
          refine ⟨_, rfl, _, _, _, rfl, rfl, T.xc_BadOctets, rfl, T.xn_BadOctets_OutOfBits, _, rfl, ?_⟩
          refine iteT ?_
          refine ⟨(by show 2 ≤ sizeLine; decide), fun p817 n818 => ?_⟩
          generalize g819 : upd H795 p817 _ = H820
          obtain ⟨e821, h822⟩ := gen_new n818 g819
          have h823 : H820 p817 = some (.tup [V.str (("refused" : Str)), V.int (2)]) := h822
          have fr824 := S797.free n818
          obtain ⟨G826, eG827, hg828, S825⟩ := S797.grow n818 e821 h823 fr824
          have r829 : Rp G826 (V.ref p817) (encD ((encT2 PyData.str PyData.int) ((("refused" : Str), 2)))) := (rp_mk2 hg828 (.str _) (.int _))
          have h830 := (e821 _ _ (e796 _ _ h_p_reader))
          have h831 := (e821 _ _ (e796 _ _ h_l_reader_octs))
          have hw := cW_ok hw
          exact hK0 _ hw _ S825.base h830 h831 _ _ S825.g0 S825.sG S825.gn r829
    · have hw := cW_neg c783 hw
      refine ⟨_, rfl, _, _, rfl, rfl, _, rfl, ?_⟩
      refine iteD (fun c832 => ?_) (fun c832 => ?_)
      · have hw := cW_pos c832 hw
        refine ⟨_, rfl, _, _, _, rfl, h_p_reader, rfl, rfl, rfl, G, _, _, _, reader', rfl, S0.sG, (S0.gno (all_cons (.head _) (all_cons (.tail _ (.head _)) all_nil))), h_p_reader, h_l_reader_octs, cW_try hw (fun v833 hw H834 x835 h837 h838  => ?_) ?_⟩
        · have S836 := S0.mut x835 (all_cons (.head _) (all_cons (.tail _ (.head _)) all_nil)) (all_cons (some_ne h837) (all_cons (some_ne h838) all_nil))
          have r843 : Rp G (V.int (v833.1)) (encD (PyData.int (v833.1))) := (.int _)
          have hw := cW_ok hw
          exact hK0 _ hw _ S836.base h837 h838 _ _ S836.g0 S836.sG S836.gn r843
        · intro e hm hw H844 e845
          have S846 := S0.same e845
          rcases mem_cons2 hm with rfl | hm
          · have hw := cW_pos rfl hw
            refine ⟨true, T.xm_OutOfBits_OutOfBits, fun _ a847 na848 => ?_, fun q => nomatch q⟩
            refine ⟨_, rfl, _, _, _, rfl, rfl, T.xc_OutOfBits, rfl, T.xo_OutOfBits_CodecError, _, rfl, ?_⟩
            refine iteT ?_
            refine ⟨_, rfl, _, _, _, rfl, rfl, T.xc_OutOfBits, rfl, T.xn_OutOfBits_BadOctets, _, rfl, ?_⟩
            refine iteT ?_
            refine ⟨(by show 2 ≤ sizeLine; decide), fun p849 n850 => ?_⟩
            generalize g851 : upd H844 p849 _ = H852
            obtain ⟨e853, h854⟩ := gen_new n850 g851
            have h855 : H852 p849 = some (.tup [V.str (("refused" : Str)), V.int (1)]) := h854
            have fr856 := S846.free n850
            obtain ⟨G858, eG859, hg860, S857⟩ := S846.grow n850 e853 h855 fr856
            have r861 : Rp G858 (V.ref p849) (encD ((encT2 PyData.str PyData.int) ((("refused" : Str), 1)))) := (rp_mk2 hg860 (.str _) (.int _))
            have h862 := (e853 _ _ (e845 _ _ h_p_reader))
            have h863 := (e853 _ _ (e845 _ _ h_l_reader_octs))
            have hw := cW_ok hw
            exact hK0 _ hw _ S857.base h862 h863 _ _ S857.g0 S857.sG S857.gn r861
          obtain rfl := mem_one hm
          · have hw := cW_neg (by decide) hw
            refine ⟨false, T.xmf_BadOctets_OutOfBits, (fun q => nomatch q), fun _ => ⟨true, T.xm_BadOctets_BadOctets, fun _ a864 na865 => ?_, fun q => nomatch q⟩⟩
            refine ⟨_, rfl, _, _, _, rfl, rfl, T.xc_BadOctets, rfl, T.xo_BadOctets_CodecError, _, rfl, ?_⟩
            refine iteT ?_
            refine ⟨_, rfl, _, _, _, rfl, rfl, T.xc_BadOctets, rfl, T.xn_BadOctets_OutOfBits, _, rfl, ?_⟩
            refine iteT ?_
            refine ⟨(by show 2 ≤ sizeLine; decide), fun p866 n867 => ?_⟩
            generalize g868 : upd H844 p866 _ = H869
            obtain ⟨e870, h871⟩ := gen_new n867 g868
            have h872 : H869 p866 = some (.tup [V.str (("refused" : Str)), V.int (2)]) := h871
            have fr873 := S846.free n867
            obtain ⟨G875, eG876, hg877, S874⟩ := S846.grow n867 e870 h872 fr873
            have r878 : Rp G875 (V.ref p866) (encD ((encT2 PyData.str PyData.int) ((("refused" : Str), 2)))) := (rp_mk2 hg877 (.str _) (.int _))
            have h879 := (e870 _ _ (e845 _ _ h_p_reader))
            have h880 := (e870 _ _ (e845 _ _ h_l_reader_octs))
            have hw := cW_ok hw
            exact hK0 _ hw _ S874.base h879 h880 _ _ S874.g0 S874.sG S874.gn r878
      · have hw := cW_neg c832 hw
        refine ⟨_, rfl, _, _, _, rfl, h_p_reader, rfl, rfl, rfl, G, _, _, _, reader', rfl, S0.sG, (S0.gno (all_cons (.head _) (all_cons (.tail _ (.head _)) all_nil))), h_p_reader, h_l_reader_octs, cW_try hw (fun v881 hw H882 x883 h885 h886  => ?_) ?_⟩
        · have S884 := S0.mut x883 (all_cons (.head _) (all_cons (.tail _ (.head _)) all_nil)) (all_cons (some_ne h885) (all_cons (some_ne h886) all_nil))
          have r891 : Rp G (V.int (v881.1)) (encD (PyData.int (v881.1))) := (.int _)
          have hw := cW_ok hw
          exact hK0 _ hw _ S884.base h885 h886 _ _ S884.g0 S884.sG S884.gn r891
        · intro e hm hw H892 e893
          have S894 := S0.same e893
          rcases mem_cons2 hm with rfl | hm
          · have hw := cW_pos rfl hw
            refine ⟨true, T.xm_OutOfBits_OutOfBits, fun _ a895 na896 => ?_, fun q => nomatch q⟩
            refine ⟨_, rfl, _, _, _, rfl, rfl, T.xc_OutOfBits, rfl, T.xo_OutOfBits_CodecError, _, rfl, ?_⟩
            refine iteT ?_
            refine ⟨_, rfl, _, _, _, rfl, rfl, T.xc_OutOfBits, rfl, T.xn_OutOfBits_BadOctets, _, rfl, ?_⟩
            refine iteT ?_
            refine ⟨(by show 2 ≤ sizeLine; decide), fun p897 n898 => ?_⟩
            generalize g899 : upd H892 p897 _ = H900
            obtain ⟨e901, h902⟩ := gen_new n898 g899
            have h903 : H900 p897 = some (.tup [V.str (("refused" : Str)), V.int (1)]) := h902
            have fr904 := S894.free n898
            obtain ⟨G906, eG907, hg908, S905⟩ := S894.grow n898 e901 h903 fr904
            have r909 : Rp G906 (V.ref p897) (encD ((encT2 PyData.str PyData.int) ((("refused" : Str), 1)))) := (rp_mk2 hg908 (.str _) (.int _))
            have h910 := (e901 _ _ (e893 _ _ h_p_reader))
            have h911 := (e901 _ _ (e893 _ _ h_l_reader_octs))
            have hw := cW_ok hw
            exact hK0 _ hw _ S905.base h910 h911 _ _ S905.g0 S905.sG S905.gn r909
          obtain rfl := mem_one hm
          · have hw := cW_neg (by decide) hw
            refine ⟨false, T.xmf_BadOctets_OutOfBits, (fun q => nomatch q), fun _ => ⟨true, T.xm_BadOctets_BadOctets, fun _ a912 na913 => ?_, fun q => nomatch q⟩⟩
            refine ⟨_, rfl, _, _, _, rfl, rfl, T.xc_BadOctets, rfl, T.xo_BadOctets_CodecError, _, rfl, ?_⟩
            refine iteT ?_
            refine ⟨_, rfl, _, _, _, rfl, rfl, T.xc_BadOctets, rfl, T.xn_BadOctets_OutOfBits, _, rfl, ?_⟩
            refine iteT ?_
            refine ⟨(by show 2 ≤ sizeLine; decide), fun p914 n915 => ?_⟩
            generalize g916 : upd H892 p914 _ = H917
            obtain ⟨e918, h919⟩ := gen_new n915 g916
            have h920 : H917 p914 = some (.tup [V.str (("refused" : Str)), V.int (2)]) := h919
            have fr921 := S894.free n915
            obtain ⟨G923, eG924, hg925, S922⟩ := S894.grow n915 e918 h920 fr921
            have r926 : Rp G923 (V.ref p914) (encD ((encT2 PyData.str PyData.int) ((("refused" : Str), 2)))) := (rp_mk2 hg925 (.str _) (.int _))
            have h927 := (e918 _ _ (e893 _ _ h_p_reader))
            have h928 := (e918 _ _ (e893 _ _ h_l_reader_octs))
            have hw := cW_ok hw
            exact hK0 _ hw _ S922.base h927 h928 _ _ S922.g0 S922.sG S922.gn r926

abbrev N_BitReader_left : List Str := ["self"]
theorem sc_BitReader_left : FnScope N_BitReader_left ["self"] (defScope s_BitReader_left) := ⟨rfl, rfl, rfl, by decide +kernel, rfl, by decide +kernel, by decide +kernel⟩
theorem ok_BitReader_left (D : PropX K AD.c_BitReader "BitReader.left" "left" s_BitReader_left ["self"] pats_BitReader_left) (T : Txt w K mg AD)  : PropY P w K mg base 1 AD.c_BitReader "left" (sp_BitReader_left K AD) pats_BitReader_left := by
  refine D.ok T.cl_BitReader sc_BitReader_left (fun vs H Q E h => ?_) (fun f cdv A_ outer s H vs Q E hr h => ?_)
  · obtain ⟨G, p_self, l_self_octs, dx_self, self', rfl, _⟩ := h
    rfl
  · obtain ⟨G, p_self, l_self_octs, dx_self, self', rfl, sG, h_p_self, h_l_self_octs, hw⟩ := h
    refine ⟨_, (pss_one (ps_ret (pe_op op_sub (fldK (K := K) (pv 0)) (fldK (K := K) (pv 0))))), ?_⟩
    obtain ⟨KK, EE, hK0, hE, hw⟩ := cW_gen hw
    have S0 := Sep.startG sG
    unfold F_BitReader_left at hw
    refine ⟨_, rfl, _, _, _, _, _, rfl, (S0.bM _ _ h_p_self), T.cl_BitReader, T.n_BitReader__end, rfl, _, rfl, _, _, _, _, _, rfl, (S0.bM _ _ h_p_self), T.cl_BitReader, T.n_BitReader__place, rfl, _, _, rfl, rfl, ?_⟩
    have hw := cW_ok hw
    exact hK0 _ hw _ S0.b0

abbrev N_law : List Str := ["script", "octets", "kept", "reader", "bits", "k", "cell", "draws", "kind", "count", "due", "actual"]
theorem sc_law : FnScope N_law ["script"] (defScope s_law) := ⟨rfl, rfl, rfl, by decide +kernel, rfl, by decide +kernel, by decide +kernel⟩
theorem ok_law {f : Addr} {fd : FuncData} (F : FunD K "law" "law" (defArgs s_law) (defBody s_law) (defScope s_law) [] [] f fd) (T : Txt w K mg AD) (c__law_octets : CalX P w K mg base 2 "_law_octets" (sp__law_octets K AD) pats__law_octets) (c__law_cell : CalX P w K mg base 1 "_law_cell" (sp__law_cell K AD) pats__law_cell) (c_BitReader___init__ : MakX P w K mg base 2 "BitReader" AD.c_BitReader (sp_BitReader___init__ K AD) pats_BitReader___init__) (c__law_all_bits : CalX P w K mg base 2 "_law_all_bits" (sp__law_all_bits K AD) pats__law_all_bits) (c__law_draws : CalX P w K mg base 1 "_law_draws" (sp__law_draws K AD) pats__law_draws) (c__law_due : CalX P w K mg base 3 "_law_due" (sp__law_due K AD) pats__law_due) (c__law_read : CalX P w K mg base 5 "_law_read" (sp__law_read K AD) pats__law_read) (c_BitReader_left : PropY P w K mg base 1 AD.c_BitReader "left" (sp_BitReader_left K AD) pats_BitReader_left) : FnG P w K mg base CX0 6 f fd ["script"] (sp_law K AD) := by
  refine FnG.bodyN F sc_law (fun vs H Q E h => ?_) (fun cdv A_ outer s H vs Q E hr h => ?_)
  · obtain ⟨a_script, script, rfl, _⟩ := h
    rfl
  · obtain ⟨a_script, script', rfl, q_script, hw, k⟩ := h
    refine ⟨_, (pss_cons (ps_set (i := 1) sc_law.nd rfl (Or.inl rfl) (vx_callX c__law_octets pat__law_octets_0 (.head _) hr (by decide) takes0 rfl (pa_cons (vx_callX c__law_cell pat__law_cell_0 (.head _) hr (by decide) takes0 rfl (pa_cons (pv 0) (pa_cons pe_int pa_nil)) pk_nil) (pa_cons (vx_callX c__law_cell pat__law_cell_0 (.head _) hr (by decide) takes0 rfl (pa_cons (pv 0) (pa_cons pe_int pa_nil)) pk_nil) pa_nil)) pk_nil))
      (pss_cons (ps_set (i := 2) sc_law.nd rfl (Or.inl rfl) (pe_callTy (call_listLK (K := K)) (by rfl) T.b_list (by decide +kernel) (pa_cons (pv 1) pa_nil)))
      (pss_cons (ps_set (i := 3) sc_law.nd rfl (Or.inl rfl) (vx_makeX c_BitReader___init__ pat_BitReader___init___0 (.head _) hr (by decide) takes0 rfl (pa_cons (pv 1) pa_nil) pk_nil))
      (pss_cons (ps_if (pt_cmpR (op_neT (encOk_L encOk_int) hr.units) (pv 1) (pv 2) (nomark _)) (pss_one (ps_ret pe_bl)) pss_nil)
      (pss_cons (ps_set (i := 4) sc_law.nd rfl (Or.inl rfl) (vx_callX c__law_all_bits pat__law_all_bits_0 (.head _) hr (by decide) takes0 rfl (pa_cons (pv 2) pa_nil) pk_nil))
      (pss_cons (ps_for PassesOwn.never rfl (pi_range1 rfl T.b_range (pa_cons (pe_callB (call_lenLiK (K := K)) (by rfl) T.b_len (by decide +kernel) (pa_cons (pv 1) pa_nil)) pa_nil)) (pg_name (i := 5) sc_law.nd rfl (Or.inl rfl)) (pss_one (ps_asg (pe_op op_sub pe_int (pe_ix (ix_listK (K := K)) (pv 1) (pv 5) (fun _ _ => rfl))) (pg_sub (pv 1) (pv 5) set_list))))
      (pss_cons (ps_expr (pe_bm PySem.F.plainAttrs_list PySem.F.slot_list_append PySem.F.type_list_append mt_append (pv 1) (pa_cons pe_int pa_nil)))
      (pss_cons (ps_for PassesOwn.never rfl (pi_listK (K := K) (pe_slice (sl_listK (K := K)) (pv 0) (po_some pe_int) po_none)) (pg_name (i := 6) sc_law.nd rfl (Or.inl rfl)) (pss_cons (ps_set (i := 7) sc_law.nd rfl (Or.inl rfl) (vx_callX c__law_draws pat__law_draws_0 (.head _) hr (by decide) takes0 rfl (pa_cons (pv 6) (pa_cons (pe_lst (pa_cons pe_int (pa_cons pe_int (pa_cons pe_int pa_nil)))) pa_nil)) pk_nil))
      (pss_cons (ps_set (i := 8) sc_law.nd rfl (Or.inl rfl) (pe_callB (call_min2 rfl) (by rfl) T.b_min (by decide +kernel) (pa_cons (pe_ix (ix_listK (K := K)) (pv 7) pe_int (fun _ _ => rfl)) (pa_cons pe_int pa_nil))))
      (pss_cons (ps_set (i := 9) sc_law.nd rfl (Or.inl rfl) (pe_ix (ix_listK (K := K)) (pv 7) pe_int (fun _ _ => rfl)))
      (C8.pss_cut (ps_if (pt_cmp (pc_eqI (pe_ix (ix_listK (K := K)) (pv 7) pe_int (fun _ _ => rfl)) pe_int)) (pss_one (ps_set (i := 9) sc_law.nd rfl (Or.inl rfl) (pe_ix (ix_listK (K := K)) (pv 7) pe_int (fun _ _ => rfl)))) pss_nil)
      (C8.pss_cut (ps_if (PW.pt (pw_and (pt_cmp (pc_eqI (pe_ix (ix_listK (K := K)) (pv 7) pe_int (fun _ _ => rfl)) pe_int)) (pw_and1 (pt_cmp (pc_gt (pe_ix (ix_listK (K := K)) (pv 7) pe_int (fun _ _ => rfl)) pe_int))))) (pss_one (ps_set (i := 8) sc_law.nd rfl (Or.inl rfl) pe_int)) pss_nil)
      (pss_cons (ps_set (i := 10) sc_law.nd rfl (Or.inl rfl) (vx_callX c__law_due pat__law_due_0 (.head _) hr (by decide) takes0 rfl (pa_cons (pv 4) (pa_cons (pv 8) (pa_cons (pv 9) pa_nil))) pk_nil))
      (pss_cons (ps_set (i := 11) sc_law.nd rfl (Or.inl rfl) (vx_callX c__law_read pat__law_read_0 (.head _) hr (by decide) takes0 rfl (pa_cons (pv 3) (pa_cons (pv 8) (pa_cons (pv 9) pa_nil))) pk_nil))
      (pss_cons (ps_if (PW.pt (pw_or (pt_val (pe_callB (call_isiD kit_dBool) (by rfl) T.b_isinstance (by decide +kernel) (pa_cons (pv 11) (pa_cons (pe_bltn (v := V.ty "bool") (u := Value.type "bool") (by rfl) T.b_bool (by decide +kernel) rfl) pa_nil)))) (pw_or1 (pt_cmpR (op_neDD hr.units) (pv 11) (pe_ix (ix_tupK (K := K)) (pv 10) pe_int (fun _ _ => rfl)) (nomark _))))) (pss_one (ps_ret pe_bl)) pss_nil)
      (pss_cons (ps_set (i := 4) sc_law.nd rfl (Or.inl rfl) (pe_slice (sl_listK (K := K)) (pv 4) (po_some (pe_ix (ix_tupK (K := K)) (pv 10) pe_int (fun _ _ => rfl))) po_none))
      (pss_one (ps_if (pt_cmp (pc_neI (vx_propX c_BitReader_left hr (by decide) (pv 3)) (pe_callB (call_lenLiK (K := K)) (by rfl) T.b_len (by decide +kernel) (pa_cons (pv 4) pa_nil)))) (pss_one (ps_ret pe_bl)) pss_nil))))))))))))
      (pss_one (ps_ret (pe_cmp (pc_eqI (vx_propX c_BitReader_left hr (by decide) (pv 3)) (pe_callB (call_lenLiK (K := K)) (by rfl) T.b_len (by decide +kernel) (pa_cons (pv 4) pa_nil)))))))))))))), ?_⟩
    obtain ⟨KK, EE, hK0, hE, hw⟩ := cW_gen hw
    have S0 := Sep.start0 H
    unfold F_law at hw
    refine ⟨_, rfl, rfl, rfl, H, _, _, _, rfl, S0.sG, (S0.b0.seq q_script), cW_call hw (fun v929 hw => ?_) (fun e he => (hE e he).elim)⟩
    refine ⟨_, rfl, rfl, rfl, H, _, _, _, rfl, S0.sG, (S0.b0.seq q_script), cW_call hw (fun v930 hw => ?_) (fun e he => (hE e he).elim)⟩
    refine ⟨rfl, rfl, H, _, _, rfl, S0.sG, cW_call hw (fun v931 hw p934 H932 n935 e933 h936 => ?_) (fun e he => (hE e he).elim)⟩
    have h937 : H932 p934 = some (.lst ((v931 : (List Int)).map V.int)) := h936
    have fr938 := S0.free n935
    have S939 := S0.new n935 e933 h937 fr938
    refine ⟨_, rfl, _, _, rfl, (SqL.of h937), fun p940 n941 => ?_⟩
    generalize g942 : upd H932 p940 _ = H943
    obtain ⟨e944, h945⟩ := gen_new n941 g942
    have h946 : H943 p940 = some (.lst ((v931 : (List Int)).map V.int)) := h945
    have fr947 := S939.free n941
    have S948 := S939.new n941 e944 h946 fr947
    refine ⟨_, rfl, rfl, rfl, fun x949 dx950 n951 n952 n953 => ?_⟩
    generalize g954 : upd (upd H943 dx950 _) x949 _ = H955
    obtain ⟨e956, h957⟩ := gen_obj n951 n952 n953 g954
    have fr958 := S948.free n951
    have S959 := S948.new n951 e956 h957 fr958
    have h960 := (e956 _ _ (e944 _ _ h937))
    refine ⟨H, _, _, _, _, rfl, S959.sG, (S959.gno (all_cons (.head _) all_nil)), h957, ((hideL_out (ni1 (ne_of_none (e944 _ _ h937) n951))).trans h960), cW_call hw (fun v961 hw H963 l962 x964 n968 h965 h967 => ⟨rfl, ?_⟩) (fun e he => (hE e he).elim)⟩
    have fr969 := S959.free n968
    have S966 : Sep _ _ _ _ H963 [l962, x949, p940, p934] := Sep.init S959 x964 (.head _) h965 [l962] (all_cons ⟨n968, some_ne h967, fr969⟩ all_nil)
    have h970 := ((SameXs.of x964) _ _ h960 (ni1 (ne_of_none (e944 _ _ h937) n951)))
    have h971 := ((SameXs.of x964) _ _ (e956 _ _ h946) (ni1 (ne_of_none h946 n951)))
    refine ⟨_, rfl, _, rfl, _, _, (rp_mk_ints h970), (rp_mk_ints h971), _, rfl, ?_⟩
    refine iteN (fun c972 => ?_) (fun c972 => ?_)
    · have hw := cW_neg c972 hw
      have hw := cW_ok hw
      exact eq_bl (k _) (hK0 _ hw).symm
    · have hw := cW_pos c972 hw
      refine ⟨_, rfl, rfl, rfl, H, _, _, rfl, S966.sG, (hide_nil h971), cW_call hw (fun v973 hw p976 H974 n977 e975 h978 => ?_) (fun e he => (hE e he).elim)⟩
      have h979 : H974 p976 = some (.lst ((v973 : (List Int)).map V.int)) := h978
      have fr980 := S966.free n977
      have S981 := S966.new n977 e975 h979 fr980
      have h982 := (e975 _ _ h970)
      obtain ⟨g983, hw⟩ := cW_grd hw
      obtain ⟨K987, hK988, hw⟩ := cW_push hw
      refine ⟨_, rfl, _, _, rfl, (SqL.of h982), _, rfl, g983.1, g983.2, for_range (lo := 0) (n := Int.toNat ((((v931) : (List Int)).length : Int))) (fun i σ H' => ∃ (octets_989 : (List Int)) (u990 : Option V) (G' : Hp), σ = [some (V.ref a_script), some (V.ref p934), some (V.ref p940), some (V.ref x949), some (V.ref p976), u990, none, none, none, none, none, none] ∧ Same H G' ∧ Sep [] H H G' H' [p934, p940, x949, l962, p976] ∧ H' p934 = some (.lst ((octets_989 : (List Int)).map V.int)) ∧ H' p940 = some (.lst ((v931 : (List Int)).map V.int)) ∧ H' x949 = some (.ins AD.c_BitReader dx950 [("_octets", V.ref l962), ("_place", V.int (v961.place)), ("_end", V.int (v961.stop))]) ∧ H' l962 = some (.lst ((v961.octs : (List Int)).map V.int)) ∧ H' p976 = some (.lst ((v973 : (List Int)).map V.int)) ∧ cW (forS (List.drop i (rng (0) (Int.toNat ((((v931) : (List Int)).length : Int))))) octets_989 (fun s x => F_law_b1  s x)) K987 EE) ?_ ?_ ?_⟩
      · have h991 := (e975 _ _ h971)
        have h992 := (e975 _ _ h965)
        have h993 := (e975 _ _ h967)
        exact ⟨(v931), _, _, rfl, (Same.refl _), (S981.sub (all_cons (.tail _ (.tail _ (.tail _ (.tail _ (.head _))))) (all_cons (.tail _ (.tail _ (.tail _ (.head _)))) (all_cons (.tail _ (.tail _ (.head _))) (all_cons (.tail _ (.head _)) (all_cons (.head _) all_nil)))))), h982, h991, h992, h993, h979, hw⟩
      · intro i σ H994 hi hw
        obtain ⟨octets_989, u990, G1001, rfl, eG1002, S995, h996, h997, h998, h999, h1000, hw⟩ := hw
        have hw := cW_forS (rng_get hi) hw
        generalize (0 + (i : Int)) = x1003 at hw ⊢
        have hw : cW (F_law_b1  (octets_989) (x1003)) _ EE := hw
        unfold F_law_b1 at hw
        obtain ⟨K1005, hK1006, hw⟩ := cW_name hw
        obtain ⟨g1008, hw⟩ := cW_grd hw
        obtain ⟨g1009, hw⟩ := cW_grd hw
        refine ⟨_, rfl, _, rfl, _, _, _, _, rfl, rfl, (SqL.of h996), (atI_map g1008), _, _, rfl, rfl, _, rfl, _, rfl, _, _, _, _, rfl, rfl, h996, (ixN_map g1009), ?_⟩
        generalize g1010 : upd H994 p934 _ = H1011
        obtain ⟨x1012, h1013⟩ := gen_mut g1010
        have h1014 : H1011 p934 = some (.lst ((setL (octets_989) (x1003) ((255 - (itD (octets_989) (x1003)))) : (List Int)).map V.int)) := set_map h1013
        have S1015 := S995.mut1 x1012 (.head _) h1014
        have hw := cW_bnd hw
        have hw := cW_ok hw
        have hw := hK1006 _ hw
        have h1017 := (x1012 _ _ h997 (ne_of_none h937 n941).symm)
        have h1018 := (x1012 _ _ h998 (ne_of_none (e944 _ _ h937) n951).symm)
        have h1019 := (x1012 _ _ h999 (ne_of_none h960 n968).symm)
        have h1020 := (x1012 _ _ h1000 (ne_of_none h970 n977).symm)
        exact ⟨(setL (octets_989) (x1003) ((255 - (itD (octets_989) (x1003))))), _, _, rfl, eG1002, S1015, h1014, h1017, h1018, h1019, h1020, hw⟩
      · intro σ H1021 hw
        obtain ⟨octets_989, u990, G1028, rfl, eG1029, S1022, h1023, h1024, h1025, h1026, h1027, hw⟩ := hw
        have hw := hK988 _ (cW_forS0 (rng_len _ _).symm hw)
        have hw : cW (F_law_r1 (script') (v961) (v973) (octets_989)) _ EE := hw
        unfold F_law_r1 at hw
        obtain ⟨g1031, hw⟩ := cW_grd hw
        refine ⟨_, rfl, (.inl ⟨rfl, _, SqL.of h1023⟩), _, _, _, rfl, rfl, h1023, (app_lenM g1031), ?_⟩
        generalize g1032 : upd H1021 p934 _ = H1033
        obtain ⟨x1034, h1035⟩ := gen_mut g1032
        have h1036 : H1033 p934 = some (.lst (((octets_989) ++ [7] : (List Int)).map V.int)) := snoc_map h1035
        have S1037 := S1022.mut1 x1034 (.head _) h1036
        have hw := cW_bnd hw
        refine ⟨_, rfl, _, rfl, _, _, rfl, (S1037.b0.seq q_script), fun p1039 n1040 => ?_⟩
        generalize g1041 : upd H1033 p1039 _ = H1042
        obtain ⟨e1043, h1044⟩ := gen_new n1040 g1041
        have h1045 : H1042 p1039 = some (.lst ((cutL (script') (some (2)) none : (List Int)).map V.int)) := cut_map h1044
        have fr1046 := S1037.free n1040
        have S1047 := S1037.new n1040 e1043 h1045 fr1046
        obtain ⟨K1048, hK1049, hw⟩ := cW_push hw
        refine ⟨_, rfl, ⟨_, (SqL.of h1045)⟩, for_list (K := K) (a := p1039) (xs := (cutL (script') (some (2)) none : (List Int)).map V.int) (fun i σ H' => ∃ (reader_1050 : St_BitReader) (p1052 : Addr) (bits_1051 : (List Int)) (u1053 : Option V) (u1054 : Option V) (u1055 : Option V) (u1056 : Option V) (u1057 : Option V) (u1058 : Option V) (G' : Hp), σ = [some (V.ref a_script), some (V.ref p934), some (V.ref p940), some (V.ref x949), some (V.ref p1052), u990, u1053, u1054, u1055, u1056, u1057, u1058] ∧ Same G1028 G' ∧ Sep [] H H G' H' [p934, p940, x949, l962, p1052, p1039] ∧ H' p934 = some (.lst (((octets_989) ++ [7] : (List Int)).map V.int)) ∧ H' p940 = some (.lst ((v931 : (List Int)).map V.int)) ∧ H' x949 = some (.ins AD.c_BitReader dx950 [("_octets", V.ref l962), ("_place", V.int (reader_1050.place)), ("_end", V.int (reader_1050.stop))]) ∧ H' l962 = some (.lst ((reader_1050.octs : (List Int)).map V.int)) ∧ H' p1052 = some (.lst ((bits_1051 : (List Int)).map V.int)) ∧ H' p1039 = some (.lst ((cutL (script') (some (2)) none : (List Int)).map V.int)) ∧ H p1052 = none ∧ p1052 ≠ p934 ∧ p1052 ≠ p940 ∧ p1052 ≠ x949 ∧ p1052 ≠ l962 ∧ p1052 ≠ p1039 ∧ cW (forR (List.drop i (cutL (script') (some (2)) none)) (reader_1050, bits_1051) (fun s x => F_law_b2  (s.1) (s.2) x)) K1048 EE) ?_ ?_ ?_ ?_⟩
        · have h1059 := (e1043 _ _ h1036)
          have h1060 := (e1043 _ _ (x1034 _ _ h1024 (ne_of_none h937 n941).symm))
          have h1061 := (e1043 _ _ (x1034 _ _ h1025 (ne_of_none (e944 _ _ h937) n951).symm))
          have h1062 := (e1043 _ _ (x1034 _ _ h1026 (ne_of_none h960 n968).symm))
          have h1063 := (e1043 _ _ (x1034 _ _ h1027 (ne_of_none h970 n977).symm))
          exact ⟨(v961), _, (v973), _, _, _, _, _, _, _, rfl, (Same.refl _), (S1047.sub (all_cons (.tail _ (.head _)) (all_cons (.tail _ (.tail _ (.head _))) (all_cons (.tail _ (.tail _ (.tail _ (.head _)))) (all_cons (.tail _ (.tail _ (.tail _ (.tail _ (.head _))))) (all_cons (.tail _ (.tail _ (.tail _ (.tail _ (.tail _ (.head _)))))) (all_cons (.head _) all_nil))))))), h1059, h1060, h1061, h1062, h1063, h1045, fr980, (ne_of_none h970 n977).symm, (ne_of_none h971 n977).symm, (ne_of_none h965 n977).symm, (ne_of_none h967 n977).symm, (ne_of_none (x1034 _ _ h1027 (ne_of_none h970 n977).symm) n1040), hw⟩
        · intro i σ H1064 _ hw
          obtain ⟨reader_1050, p1052, bits_1051, u1053, u1054, u1055, u1056, u1057, u1058, G1078, rfl, eG1079, S1065, h1066, h1067, h1068, h1069, h1070, h1071, fr1072, ne1073, ne1074, ne1075, ne1076, ne1077, hw⟩ := hw
          exact (SqL.of h1071)
        · intro i x σ H1080 hj hw
          obtain ⟨reader_1050, p1052, bits_1051, u1053, u1054, u1055, u1056, u1057, u1058, G1094, rfl, eG1095, S1081, h1082, h1083, h1084, h1085, h1086, h1087, fr1088, ne1089, ne1090, ne1091, ne1092, ne1093, hw⟩ := hw
          obtain ⟨x1096, hx, rfl⟩ := map_get hj
          have hw := cW_forR hx hw
          have hw : cW (F_law_b2  (reader_1050) (bits_1051) (x1096)) _ EE := hw
          unfold F_law_b2 at hw
          obtain ⟨K1099, hK1100, hw⟩ := cW_name hw
          refine ⟨_, rfl, (by show 3 ≤ sizeLine; decide), fun p1102 n1103 => ?_⟩
          generalize g1104 : upd H1080 p1102 _ = H1105
          obtain ⟨e1106, h1107⟩ := gen_new n1103 g1104
          have h1108 : H1105 p1102 = some (.lst (([4, 65, 12] : (List Int)).map V.int)) := h1107
          have fr1109 := S1081.free n1103
          have S1110 := S1081.new n1103 e1106 h1108 fr1109
          refine ⟨rfl, rfl, G1094, _, _, _, rfl, S1110.sG, (hide_nil h1108), cW_call hw (fun v1111 hw p1114 H1112 n1115 e1113 h1116 => ?_) (fun e he => (hE e he).elim)⟩
          have h1117 : H1112 p1114 = some (.lst ((v1111 : (List Int)).map V.int)) := h1116
          have fr1118 := S1110.free n1115
          have S1119 := S1110.new n1115 e1113 h1117 fr1118
          obtain ⟨g1120, hw⟩ := cW_grd hw
          refine ⟨_, rfl, _, _, _, _, rfl, rfl, (SqL.of h1117), (atI_map g1120), _, _, rfl, ?_⟩
          have hw := cW_bnd hw
          obtain ⟨g1122, hw⟩ := cW_grd hw
          refine ⟨_, rfl, _, _, _, _, rfl, rfl, (SqL.of h1117), (atI_map g1122), ?_⟩
          have hw := cW_bnd hw
          refine ⟨fun σ H' => ∃ (count_1129 : Int) (G' : Hp), σ = [some (V.ref a_script), some (V.ref p934), some (V.ref p940), some (V.ref x949), some (V.ref p1052), u990, some (V.int (x1096)), some (V.ref p1114), some (V.int ((if 2 < (itD (v1111) (0)) then 2 else (itD (v1111) (0))))), some (V.int count_1129), u1057, u1058] ∧ Same G1094 G' ∧ Sep [] H H G' H' [p934, p940, x949, l962, p1052, p1114, p1039] ∧ H' p934 = some (.lst (((octets_989) ++ [7] : (List Int)).map V.int)) ∧ H' p940 = some (.lst ((v931 : (List Int)).map V.int)) ∧ H' x949 = some (.ins AD.c_BitReader dx950 [("_octets", V.ref l962), ("_place", V.int (reader_1050.place)), ("_end", V.int (reader_1050.stop))]) ∧ H' l962 = some (.lst ((reader_1050.octs : (List Int)).map V.int)) ∧ H' p1052 = some (.lst ((bits_1051 : (List Int)).map V.int)) ∧ H' p1114 = some (.lst ((v1111 : (List Int)).map V.int)) ∧ H' p1039 = some (.lst ((cutL (script') (some (2)) none : (List Int)).map V.int)) ∧ cW (F_law_k3 (reader_1050) (bits_1051) (v1111) ((if 2 < (itD (v1111) (0)) then 2 else (itD (v1111) (0)))) count_1129) K1099 EE, ?_, ?_⟩
          · obtain ⟨K1130, hK1131, hw⟩ := cW_push hw
            obtain ⟨g1132, hw⟩ := cW_grd hw
            refine ⟨_, rfl, _, _, _, _, rfl, rfl, (SqL.of h1117), (atI_map g1132), _, _, rfl, rfl, _, rfl, ?_⟩
            refine iteD (fun c1133 => ?_) (fun c1133 => ?_)
            · have hw := cW_pos c1133 hw
              obtain ⟨g1134, hw⟩ := cW_grd hw
              refine ⟨_, rfl, _, _, _, _, rfl, rfl, (SqL.of h1117), (atI_map g1134), ?_⟩
              have hw := cW_bnd hw
              have hw := cW_ok hw
              have hw := hK1131 _ hw
              have h1136 := (e1113 _ _ (e1106 _ _ h1082))
              have h1137 := (e1113 _ _ (e1106 _ _ h1083))
              have h1138 := (e1113 _ _ (e1106 _ _ h1084))
              have h1139 := (e1113 _ _ (e1106 _ _ h1085))
              have h1140 := (e1113 _ _ (e1106 _ _ h1086))
              have h1141 := (e1113 _ _ (e1106 _ _ h1087))
              exact ⟨((itD (v1111) (2))), _, rfl, (Same.refl _), (S1119.sub (all_cons (.tail _ (.tail _ (.head _))) (all_cons (.tail _ (.tail _ (.tail _ (.head _)))) (all_cons (.tail _ (.tail _ (.tail _ (.tail _ (.head _))))) (all_cons (.tail _ (.tail _ (.tail _ (.tail _ (.tail _ (.head _)))))) (all_cons (.tail _ (.tail _ (.tail _ (.tail _ (.tail _ (.tail _ (.head _))))))) (all_cons (.head _) (all_cons (.tail _ (.tail _ (.tail _ (.tail _ (.tail _ (.tail _ (.tail _ (.head _)))))))) all_nil)))))))), h1136, h1137, h1138, h1139, h1140, h1117, h1141, hw⟩
            · have hw := cW_neg c1133 hw
              have hw := cW_ok hw
              have hw := hK1131 _ hw
              have h1142 := (e1113 _ _ (e1106 _ _ h1082))
              have h1143 := (e1113 _ _ (e1106 _ _ h1083))
              have h1144 := (e1113 _ _ (e1106 _ _ h1084))
              have h1145 := (e1113 _ _ (e1106 _ _ h1085))
              have h1146 := (e1113 _ _ (e1106 _ _ h1086))
              have h1147 := (e1113 _ _ (e1106 _ _ h1087))
              exact ⟨((itD (v1111) (1))), _, rfl, (Same.refl _), (S1119.sub (all_cons (.tail _ (.tail _ (.head _))) (all_cons (.tail _ (.tail _ (.tail _ (.head _)))) (all_cons (.tail _ (.tail _ (.tail _ (.tail _ (.head _))))) (all_cons (.tail _ (.tail _ (.tail _ (.tail _ (.tail _ (.head _)))))) (all_cons (.tail _ (.tail _ (.tail _ (.tail _ (.tail _ (.tail _ (.head _))))))) (all_cons (.head _) (all_cons (.tail _ (.tail _ (.tail _ (.tail _ (.tail _ (.tail _ (.tail _ (.head _)))))))) all_nil)))))))), h1142, h1143, h1144, h1145, h1146, h1117, h1147, hw⟩
          · intro σ H1148 hw
            obtain ⟨count_1129, G1157, rfl, eG1158, S1149, h1150, h1151, h1152, h1153, h1154, h1155, h1156, hw⟩ := hw
            unfold F_law_k3 at hw
            refine ⟨fun σ H' => ∃ (kind_1163 : Int) (G' : Hp), σ = [some (V.ref a_script), some (V.ref p934), some (V.ref p940), some (V.ref x949), some (V.ref p1052), u990, some (V.int (x1096)), some (V.ref p1114), some (V.int kind_1163), some (V.int (count_1129)), u1057, u1058] ∧ Same G1157 G' ∧ Sep [] H H G' H' [p934, p940, x949, l962, p1052, p1114, p1039] ∧ H' p934 = some (.lst (((octets_989) ++ [7] : (List Int)).map V.int)) ∧ H' p940 = some (.lst ((v931 : (List Int)).map V.int)) ∧ H' x949 = some (.ins AD.c_BitReader dx950 [("_octets", V.ref l962), ("_place", V.int (reader_1050.place)), ("_end", V.int (reader_1050.stop))]) ∧ H' l962 = some (.lst ((reader_1050.octs : (List Int)).map V.int)) ∧ H' p1052 = some (.lst ((bits_1051 : (List Int)).map V.int)) ∧ H' p1114 = some (.lst ((v1111 : (List Int)).map V.int)) ∧ H' p1039 = some (.lst ((cutL (script') (some (2)) none : (List Int)).map V.int)) ∧ cW (F_law_k4 (reader_1050) (bits_1051) (count_1129) kind_1163) K1099 EE, ?_, ?_⟩
            · obtain ⟨K1164, hK1165, hw⟩ := cW_push hw
              obtain ⟨g1166, hw⟩ := cW_grd hw
              refine ⟨_, rfl, _, _, _, _, rfl, rfl, (SqL.of h1155), (atI_map g1166), _, _, rfl, rfl, _, rfl, ?_⟩
              refine iteD (fun c1167 => ?_) (fun c1167 => ?_)
              · have hw := cW_pos c1167 hw
                obtain ⟨g1168, hw⟩ := cW_grd hw
                refine ⟨_, rfl, _, _, _, _, rfl, rfl, (SqL.of h1155), (atI_map g1168), _, _, rfl, rfl, _, rfl, ?_⟩
                refine iteD (fun c1169 => ?_) (fun c1169 => ?_)
                · have hw := cW_pos c1169 hw
                  have hw := cW_ok hw
                  have hw := hK1165 _ hw
                  exact ⟨(0), _, rfl, (Same.refl _), S1149, h1150, h1151, h1152, h1153, h1154, h1155, h1156, hw⟩
                · have hw := cW_neg c1169 hw
                  have hw := cW_ok hw
                  have hw := hK1165 _ hw
                  exact ⟨((if 2 < (itD (v1111) (0)) then 2 else (itD (v1111) (0)))), _, rfl, (Same.refl _), S1149, h1150, h1151, h1152, h1153, h1154, h1155, h1156, hw⟩
              · have hw := cW_neg c1167 hw
                refine iteF ?_
                have hw := cW_ok hw
                have hw := hK1165 _ hw
                exact ⟨((if 2 < (itD (v1111) (0)) then 2 else (itD (v1111) (0)))), _, rfl, (Same.refl _), S1149, h1150, h1151, h1152, h1153, h1154, h1155, h1156, hw⟩
            · intro σ H1170 hw
              obtain ⟨kind_1163, G1179, rfl, eG1180, S1171, h1172, h1173, h1174, h1175, h1176, h1177, h1178, hw⟩ := hw
              unfold F_law_k4 at hw
              refine ⟨_, rfl, _, rfl, _, rfl, rfl, rfl, G1179, _, _, _, _, rfl, S1171.sG, (hide_nil h1176), cW_call hw (fun v1181 hw v1184 H1182 G1185 e1183 eG1186 sG1187 hn1188 r1189 => ?_) (fun e he => (hE e he).elim)⟩
              have S1190 := S1171.step e1183 eG1186 sG1187 hn1188
              obtain ⟨a1191, v1193, v1194, rfl, h1192, r1195, r1196⟩ := rp_tup2 r1189
              obtain rfl := rp_int r1196
              have h1197 := (e1183 _ _ h1174)
              have h1198 := (e1183 _ _ h1175)
              refine ⟨_, rfl, _, rfl, _, rfl, rfl, rfl, G1185, _, _, _, reader_1050, _, _, rfl, S1190.sG, (S1190.gno (all_cons (.tail _ (.tail _ (.head _))) (all_cons (.tail _ (.tail _ (.tail _ (.head _)))) all_nil))), h1197, h1198, cW_call hw (fun v1199 hw H1200 x1201 h1203 h1204 v1205 G1206 eG1207 sG1208 hn1209 r1210 => ?_) (fun e he => (hE e he).elim)⟩
              have S1202 := S1190.mutstep x1201 (all_cons (.tail _ (.tail _ (.head _))) (all_cons (.tail _ (.tail _ (.tail _ (.head _)))) all_nil)) (all_cons (some_ne h1203) (all_cons (some_ne h1204) all_nil)) eG1207 sG1208 hn1209
              refine ⟨_, rfl, _, v1199.1, rfl, (Rp.mono S1202.sG r1210), _, rfl, ?_⟩
              refine iteB (fun c1211 => ?_) (fun c1211 => ?_)
              · have hw := cW_pos c1211 hw
                refine iteT ?_
                have hw := cW_ok hw
                have hw := hK1100 (.rt _) hw
                have hw := hK1049 (.rt _) hw
                have hw := cW_ok hw
                exact eq_bl (k _) (hK0 _ hw).symm
              · have hw := cW_negB c1211 hw
                obtain ⟨g1212, hw⟩ := cW_grd hw
                refine ⟨_, rfl, _, rfl, _, _, _, _, rfl, rfl, (SqT.of (S1202.sG _ _ (eG1207 _ _ h1192))), rfl, v1199.1, v1181.1, (Rp.mono S1202.sG r1210), (Rp.mono S1202.sG (Rp.mono eG1207 r1195)), g1212, _, rfl, ?_⟩
                refine iteB (fun c1213 => ?_) (fun c1213 => ?_)
                · have hw := cW_pos c1213 hw
                  have hw := cW_ok hw
                  have hw := hK1100 (.rt _) hw
                  have hw := hK1049 (.rt _) hw
                  have hw := cW_ok hw
                  exact eq_bl (k _) (hK0 _ hw).symm
                · have hw := cW_negB c1213 hw
                  have h1214 := (x1201 _ _ (e1183 _ _ h1176) (ni2 ne1091 ne1092))
                  refine ⟨_, rfl, _, rfl, _, _, _, _, rfl, rfl, (SqT.of (S1202.sG _ _ (eG1207 _ _ h1192))), rfl, _, rfl, _, _, rfl, (SqL.of h1214), fun p1215 n1216 => ?_⟩
                  generalize g1217 : upd H1200 p1215 _ = H1218
                  obtain ⟨e1219, h1220⟩ := gen_new n1216 g1217
                  have h1221 : H1218 p1215 = some (.lst ((cutL (bits_1051) (some (v1181.2)) none : (List Int)).map V.int)) := cut_map h1220
                  have fr1222 := S1202.free n1216
                  have S1223 := S1202.new n1216 e1219 h1221 fr1222
                  have h1224 := (e1219 _ _ h1203)
                  have h1225 := (e1219 _ _ h1204)
                  refine ⟨_, rfl, _, _, _, rfl, h1224, G1206, _, _, _, v1199.2, rfl, S1223.sG, (hide_nil h1224), (hide_nil h1225), cW_callN hw (fun v1226 hw H1227 e1228 => ?_) trivial⟩
                  have S1229 := S1223.same e1228
                  have h1230 := (e1228 _ _ h1221)
                  refine ⟨_, rfl, _, _, rfl, (SqL.of h1230), _, _, rfl, rfl, _, rfl, ?_⟩
                  refine iteN (fun c1231 => ?_) (fun c1231 => ?_)
                  · have hw := cW_neg c1231 hw
                    have hw := cW_ok hw
                    have hw := hK1100 (.rt _) hw
                    have hw := hK1049 (.rt _) hw
                    have hw := cW_ok hw
                    exact eq_bl (k _) (hK0 _ hw).symm
                  · have hw := cW_pos c1231 hw
                    have hw := cW_ok hw
                    have hw := hK1100 _ hw
                    have h1232 := (e1228 _ _ (e1219 _ _ (x1201 _ _ (e1183 _ _ h1172) (ni2 (ne_of_none (e944 _ _ h937) n951) (ne_of_none h960 n968)))))
                    have h1233 := (e1228 _ _ (e1219 _ _ (x1201 _ _ (e1183 _ _ h1173) (ni2 (ne_of_none h946 n951) (ne_of_none (e956 _ _ h946) n968)))))
                    have h1234 := (e1228 _ _ h1224)
                    have h1235 := (e1228 _ _ h1225)
                    have h1236 := (e1228 _ _ (e1219 _ _ (x1201 _ _ (e1183 _ _ h1178) (ni2 (ne_of_none (x1034 _ _ h1025 (ne_of_none (e944 _ _ h937) n951).symm) n1040).symm (ne_of_none (x1034 _ _ h1026 (ne_of_none h960 n968).symm) n1040).symm))))
                    exact ⟨(v1199.2), _, (cutL (bits_1051) (some (v1181.2)) none), _, _, _, _, _, _, _, rfl, (Same.trans (Same.trans (Same.trans (Same.trans eG1095 eG1158) eG1180) eG1186) eG1207), (S1229.sub (all_cons (.tail _ (.head _)) (all_cons (.tail _ (.tail _ (.head _))) (all_cons (.tail _ (.tail _ (.tail _ (.head _)))) (all_cons (.tail _ (.tail _ (.tail _ (.tail _ (.head _))))) (all_cons (.head _) (all_cons (.tail _ (.tail _ (.tail _ (.tail _ (.tail _ (.tail _ (.tail _ (.head _)))))))) all_nil))))))), h1232, h1233, h1234, h1235, h1230, h1236, fr1222, (ne_of_none (x1201 _ _ (e1183 _ _ h1172) (ni2 (ne_of_none (e944 _ _ h937) n951) (ne_of_none h960 n968))) n1216).symm, (ne_of_none (x1201 _ _ (e1183 _ _ h1173) (ni2 (ne_of_none h946 n951) (ne_of_none (e956 _ _ h946) n968))) n1216).symm, (ne_of_none h1203 n1216).symm, (ne_of_none h1204 n1216).symm, (ne_of_none (x1201 _ _ (e1183 _ _ h1178) (ni2 (ne_of_none (x1034 _ _ h1025 (ne_of_none (e944 _ _ h937) n951).symm) n1040).symm (ne_of_none (x1034 _ _ h1026 (ne_of_none h960 n968).symm) n1040).symm)) n1216).symm, hw⟩
        · intro σ H1237 hw
          obtain ⟨reader_1050, p1052, bits_1051, u1053, u1054, u1055, u1056, u1057, u1058, G1251, rfl, eG1252, S1238, h1239, h1240, h1241, h1242, h1243, h1244, fr1245, ne1246, ne1247, ne1248, ne1249, ne1250, hw⟩ := hw
          have hw := cW_aftgo (hK1049 _ (cW_forR0 (by rw [List.length_map]) hw))
          have hw : cW (F_law_r2  (reader_1050) (bits_1051)) _ EE := hw
          unfold F_law_r2 at hw
          refine ⟨_, rfl, _, _, _, rfl, h1241, G1251, _, _, _, reader_1050, rfl, S1238.sG, (hide_nil h1241), (hide_nil h1242), cW_callN hw (fun v1255 hw H1256 e1257 => ?_) trivial⟩
          have S1258 := S1238.same e1257
          have h1259 := (e1257 _ _ h1243)
          refine ⟨_, rfl, _, _, rfl, (SqL.of h1259), _, _, rfl, rfl, ?_⟩
          have hw := cW_ok hw
          exact eq_bl (k _) (hK0 _ hw).symm
end
def spL (K : PySem.W.Frag) : Sp := fun vs H Q _ => ∃ (a_script : Addr) (script : List Int), vs = [.ref a_script] ∧ SqL K H a_script (script.map V.int) ∧ script.length ≤ 63 ∧ ∀ H', Q (.bl true) H'
theorem all_mk {l : PySem.W.OpenLaw} {w : World} {K : PySem.W.Frag} {h : Heap} {mg : Str → Option Value} {fa : Addr} (X : K.In h) (G : h.Ns mainGlobals mg) (hfa : mg "law" = some (.ref fa))
    {f0 f1 f2 f3 f4 f5 f6 f7 f8 f9 f10 f11 f12 f13 f14 f15 f16 f17 f18 CBitReader XCodecError XOutOfRange XOutOfBits XBadOctets : Addr} {od0 an0 od1 an1 od2 an2 od3 an3 od4 an4 od5 an5 od6 an6 od7 an7 od8 an8 od9 an9 od10 an10 od11 an11 od12 an12 od13 an13 od14 an14 od15 an15 od16 an16 od17 an17 od18 an18 : Option Addr} {sl0 sl1 sl2 sl3 sl4 sl5 sl6 sl7 sl8 sl9 sl10 sl11 sl12 sl13 sl14 sl15 sl16 sl17 sl18 : Array (Option Value)} {oc0 kV0 dc0 pm0 cd0 ct0 oc1 kV1 dc1 pm1 cd1 ct1 oc2 kV2 dc2 pm2 cd2 ct2 oc3 kV3 dc3 pm3 cd3 ct3 oc4 kV4 dc4 pm4 cd4 ct4 oc5 kV5 dc5 pm5 cd5 ct5 oc6 kV6 dc6 pm6 cd6 ct6 oc7 kV7 dc7 pm7 cd7 ct7 oc8 kV8 dc8 pm8 cd8 ct8 oc9 kV9 dc9 pm9 cd9 ct9 oc10 kV10 dc10 pm10 cd10 ct10 oc11 kV11 dc11 pm11 cd11 ct11 oc12 kV12 dc12 pm12 cd12 ct12 oc13 kV13 dc13 pm13 cd13 ct13 oc14 kV14 dc14 pm14 cd14 ct14 oc15 kV15 dc15 pm15 cd15 ct15 oc16 kV16 dc16 pm16 cd16 ct16 oc17 kV17 dc17 pm17 cd17 ct17 oc18 kV18 dc18 pm18 cd18 ct18 : Value} {q17 : Addr} {rs17 : List Value} {tk10 tk11 : Tok}
    (wBitReader : PySem.W.nsIn K mainGlobals "BitReader" = some (some (.ref CBitReader))) (vCodecError : PySem.W.nsIn K mainGlobals "CodecError" = some (some (.ref XCodecError))) (vOutOfRange : PySem.W.nsIn K mainGlobals "OutOfRange" = some (some (.ref XOutOfRange))) (vOutOfBits : PySem.W.nsIn K mainGlobals "OutOfBits" = some (some (.ref XOutOfBits))) (vBadOctets : PySem.W.nsIn K mainGlobals "BadOctets" = some (some (.ref XBadOctets))) (a0 : PySem.W.nsIn K mainGlobals "_law_draws" = some (some (.ref f0))) (l0 : K.lookup f0 = some ⟨oc0, od0, .func (PySem.W.fnOf "_law_draws" "_law_draws" (defArgs s__law_draws) (defBody s__law_draws) (defScope s__law_draws) .none kV0 dc0 pm0 an0 cd0 ct0), sl0⟩) (c0 : PySem.W.codeIn K cd0 "_law_draws" = true) (k0 : PySem.W.keepIn K (.ref f0) = true) (a1 : PySem.W.nsIn K mainGlobals "_law_octets" = some (some (.ref f1))) (l1 : K.lookup f1 = some ⟨oc1, od1, .func (PySem.W.fnOf "_law_octets" "_law_octets" (defArgs s__law_octets) (defBody s__law_octets) (defScope s__law_octets) .none kV1 dc1 pm1 an1 cd1 ct1), sl1⟩) (c1 : PySem.W.codeIn K cd1 "_law_octets" = true) (k1 : PySem.W.keepIn K (.ref f1) = true) (a2 : PySem.W.nsIn K mainGlobals "_last_bit" = some (some (.ref f2))) (l2 : K.lookup f2 = some ⟨oc2, od2, .func (PySem.W.fnOf "_last_bit" "_last_bit" (defArgs s__last_bit) (defBody s__last_bit) (defScope s__last_bit) .none kV2 dc2 pm2 an2 cd2 ct2), sl2⟩) (c2 : PySem.W.codeIn K cd2 "_last_bit" = true) (k2 : PySem.W.keepIn K (.ref f2) = true) (a3 : PySem.W.findIn K (.ref CBitReader) "__init__" = some (some (.ref f3))) (b3 : PySem.W.isFn K (.ref f3) = true) (d3 : PySem.W.makesIn K CBitReader = true) (e3 : PySem.W.keepIn K (.ref CBitReader) = true) (l3 : K.lookup f3 = some ⟨oc3, od3, .func (PySem.W.fnOf "__init__" "BitReader.__init__" (defArgs s_BitReader___init__) (defBody s_BitReader___init__) (defScope s_BitReader___init__) .none kV3 dc3 pm3 an3 cd3 ct3), sl3⟩) (c3 : PySem.W.codeIn K cd3 "BitReader.__init__" = true) (k3 : PySem.W.keepIn K (.ref f3) = true) (a4 : PySem.W.nsIn K mainGlobals "_law_bits" = some (some (.ref f4))) (l4 : K.lookup f4 = some ⟨oc4, od4, .func (PySem.W.fnOf "_law_bits" "_law_bits" (defArgs s__law_bits) (defBody s__law_bits) (defScope s__law_bits) .none kV4 dc4 pm4 an4 cd4 ct4), sl4⟩) (c4 : PySem.W.codeIn K cd4 "_law_bits" = true) (k4 : PySem.W.keepIn K (.ref f4) = true) (a5 : PySem.W.nsIn K mainGlobals "_law_all_bits" = some (some (.ref f5))) (l5 : K.lookup f5 = some ⟨oc5, od5, .func (PySem.W.fnOf "_law_all_bits" "_law_all_bits" (defArgs s__law_all_bits) (defBody s__law_all_bits) (defScope s__law_all_bits) .none kV5 dc5 pm5 an5 cd5 ct5), sl5⟩) (c5 : PySem.W.codeIn K cd5 "_law_all_bits" = true) (k5 : PySem.W.keepIn K (.ref f5) = true) (a6 : PySem.W.nsIn K mainGlobals "_law_cell" = some (some (.ref f6))) (l6 : K.lookup f6 = some ⟨oc6, od6, .func (PySem.W.fnOf "_law_cell" "_law_cell" (defArgs s__law_cell) (defBody s__law_cell) (defScope s__law_cell) .none kV6 dc6 pm6 an6 cd6 ct6), sl6⟩) (c6 : PySem.W.codeIn K cd6 "_law_cell" = true) (k6 : PySem.W.keepIn K (.ref f6) = true) (a7 : PySem.W.nsIn K mainGlobals "_law_number" = some (some (.ref f7))) (l7 : K.lookup f7 = some ⟨oc7, od7, .func (PySem.W.fnOf "_law_number" "_law_number" (defArgs s__law_number) (defBody s__law_number) (defScope s__law_number) .none kV7 dc7 pm7 an7 cd7 ct7), sl7⟩) (c7 : PySem.W.codeIn K cd7 "_law_number" = true) (k7 : PySem.W.keepIn K (.ref f7) = true) (a8 : PySem.W.nsIn K mainGlobals "_law_code" = some (some (.ref f8))) (l8 : K.lookup f8 = some ⟨oc8, od8, .func (PySem.W.fnOf "_law_code" "_law_code" (defArgs s__law_code) (defBody s__law_code) (defScope s__law_code) .none kV8 dc8 pm8 an8 cd8 ct8), sl8⟩) (c8 : PySem.W.codeIn K cd8 "_law_code" = true) (k8 : PySem.W.keepIn K (.ref f8) = true) (a9 : PySem.W.nsIn K mainGlobals "_law_due" = some (some (.ref f9))) (l9 : K.lookup f9 = some ⟨oc9, od9, .func (PySem.W.fnOf "_law_due" "_law_due" (defArgs s__law_due) (defBody s__law_due) (defScope s__law_due) .none kV9 dc9 pm9 an9 cd9 ct9), sl9⟩) (c9 : PySem.W.codeIn K cd9 "_law_due" = true) (k9 : PySem.W.keepIn K (.ref f9) = true) (a10 : PySem.W.findIn K (.ref CBitReader) "_look" = some (some (.ref f10))) (b10 : PySem.W.isFn K (.ref f10) = true) (l10 : K.lookup f10 = some ⟨oc10, od10, .func (PySem.W.fnOf "_look" "BitReader._look" (defArgs s_BitReader__look) (defBody s_BitReader__look) (defScope s_BitReader__look) .none kV10 dc10 pm10 an10 cd10 ct10), sl10⟩) (c10 : PySem.W.codeIn K cd10 "BitReader._look" = true) (k10 : PySem.W.keepIn K (.ref f10) = true) (a11 : PySem.W.findIn K (.ref CBitReader) "_zeros" = some (some (.ref f11))) (b11 : PySem.W.isFn K (.ref f11) = true) (l11 : K.lookup f11 = some ⟨oc11, od11, .func (PySem.W.fnOf "_zeros" "BitReader._zeros" (defArgs s_BitReader__zeros) (defBody s_BitReader__zeros) (defScope s_BitReader__zeros) .none kV11 dc11 pm11 an11 cd11 ct11), sl11⟩) (c11 : PySem.W.codeIn K cd11 "BitReader._zeros" = true) (k11 : PySem.W.keepIn K (.ref f11) = true) (a12 : PySem.W.findIn K (.ref CBitReader) "_take" = some (some (.ref f12))) (b12 : PySem.W.isFn K (.ref f12) = true) (l12 : K.lookup f12 = some ⟨oc12, od12, .func (PySem.W.fnOf "_take" "BitReader._take" (defArgs s_BitReader__take) (defBody s_BitReader__take) (defScope s_BitReader__take) .none kV12 dc12 pm12 an12 cd12 ct12), sl12⟩) (c12 : PySem.W.codeIn K cd12 "BitReader._take" = true) (k12 : PySem.W.keepIn K (.ref f12) = true) (a13 : PySem.W.findIn K (.ref CBitReader) "get_ue" = some (some (.ref f13))) (b13 : PySem.W.isFn K (.ref f13) = true) (l13 : K.lookup f13 = some ⟨oc13, od13, .func (PySem.W.fnOf "get_ue" "BitReader.get_ue" (defArgs s_BitReader_get_ue) (defBody s_BitReader_get_ue) (defScope s_BitReader_get_ue) .none kV13 dc13 pm13 an13 cd13 ct13), sl13⟩) (c13 : PySem.W.codeIn K cd13 "BitReader.get_ue" = true) (k13 : PySem.W.keepIn K (.ref f13) = true) (a14 : PySem.W.findIn K (.ref CBitReader) "get_se" = some (some (.ref f14))) (b14 : PySem.W.isFn K (.ref f14) = true) (l14 : K.lookup f14 = some ⟨oc14, od14, .func (PySem.W.fnOf "get_se" "BitReader.get_se" (defArgs s_BitReader_get_se) (defBody s_BitReader_get_se) (defScope s_BitReader_get_se) .none kV14 dc14 pm14 an14 cd14 ct14), sl14⟩) (c14 : PySem.W.codeIn K cd14 "BitReader.get_se" = true) (k14 : PySem.W.keepIn K (.ref f14) = true) (a15 : PySem.W.findIn K (.ref CBitReader) "get" = some (some (.ref f15))) (b15 : PySem.W.isFn K (.ref f15) = true) (l15 : K.lookup f15 = some ⟨oc15, od15, .func (PySem.W.fnOf "get" "BitReader.get" (defArgs s_BitReader_get) (defBody s_BitReader_get) (defScope s_BitReader_get) .none kV15 dc15 pm15 an15 cd15 ct15), sl15⟩) (c15 : PySem.W.codeIn K cd15 "BitReader.get" = true) (k15 : PySem.W.keepIn K (.ref f15) = true) (a16 : PySem.W.nsIn K mainGlobals "_law_read" = some (some (.ref f16))) (l16 : K.lookup f16 = some ⟨oc16, od16, .func (PySem.W.fnOf "_law_read" "_law_read" (defArgs s__law_read) (defBody s__law_read) (defScope s__law_read) .none kV16 dc16 pm16 an16 cd16 ct16), sl16⟩) (c16 : PySem.W.codeIn K cd16 "_law_read" = true) (k16 : PySem.W.keepIn K (.ref f16) = true) (a17 : PySem.W.findIn K (.ref CBitReader) "left" = some (some (.ref q17))) (b17 : PySem.W.specialIn K (.ref q17) "__get__" = some (some (.builtin "property.__get__"))) (d17 : PySem.W.takesIn K (.ref q17) = some true) (e17 : PySem.W.recIn K q17 "property" = some (.ref f17 :: rs17)) (l17 : K.lookup f17 = some ⟨oc17, od17, .func (PySem.W.fnOf "left" "BitReader.left" (defArgs s_BitReader_left) (defBody s_BitReader_left) (defScope s_BitReader_left) .none kV17 dc17 pm17 an17 cd17 ct17), sl17⟩) (c17 : PySem.W.codeIn K cd17 "BitReader.left" = true) (k17 : PySem.W.keepIn K (.ref f17) = true) (a18 : PySem.W.nsIn K mainGlobals "law" = some (some (.ref f18))) (l18 : K.lookup f18 = some ⟨oc18, od18, .func (PySem.W.fnOf "law" "law" (defArgs s_law) (defBody s_law) (defScope s_law) .none kV18 dc18 pm18 an18 cd18 ct18), sl18⟩) (c18 : PySem.W.codeIn K cd18 "law" = true) (k18 : PySem.W.keepIn K (.ref f18) = true)
    (z0 : PySem.W.nsIn K mainGlobals "abs" = some none) (z1 : PySem.W.nsIn K mainGlobals "int" = some none) (z2 : PySem.W.nsIn K mainGlobals "max" = some none) (z3 : PySem.W.nsIn K mainGlobals "list" = some none) (z4 : PySem.W.nsIn K mainGlobals "len" = some none) (z5 : PySem.W.nsIn K mainGlobals "range" = some none) (z6 : PySem.W.nsIn K mainGlobals "sum" = some none) (z7 : PySem.W.nsIn K mainGlobals "min" = some none) (z8 : PySem.W.nsIn K mainGlobals "isinstance" = some none) (z9 : PySem.W.nsIn K mainGlobals "tuple" = some none) (z10 : PySem.W.nsIn K mainGlobals "MOST_ZEROS" = some (some (.int 32 tk10))) (z11 : PySem.W.nsIn K mainGlobals "MOST_BITS" = some (some (.int 64 tk11))) (z12 : PySem.W.nsIn K mainGlobals "bool" = some none) (yBitReader0 : PySem.W.plainGet K CBitReader Str.empty = true) (yBitReader1 : PySem.W.hasDictIn K CBitReader = true) (yBitReader2 : PySem.W.plainOver K CBitReader = true) (yBitReader3 : PySem.W.findIn K (.ref CBitReader) "__setattr__" = some (some (.builtin "object.__setattr__"))) (xBitReader0 : PySem.W.findIn K (.ref CBitReader) "_octets" = some none) (xBitReader1 : PySem.W.findIn K (.ref CBitReader) "_place" = some none) (xBitReader2 : PySem.W.findIn K (.ref CBitReader) "_end" = some none) (exBadOctets : PySem.W.excIn K XBadOctets [.type "ValueError", .type "Exception", .type "BaseException", .type "object"] "ValueError.__new__" = true) (ekBadOctets : PySem.W.keepIn K (.ref XBadOctets) = true) (ebBadOctets : PySem.W.subIn K (.ref XBadOctets) (.type "BaseException") = some true) (etBadOctets : PySem.W.typeIn K (.ref XBadOctets) = some (.type "type")) (exOutOfBits : PySem.W.excIn K XOutOfBits [.type "ValueError", .type "Exception", .type "BaseException", .type "object"] "ValueError.__new__" = true) (ekOutOfBits : PySem.W.keepIn K (.ref XOutOfBits) = true) (ebOutOfBits : PySem.W.subIn K (.ref XOutOfBits) (.type "BaseException") = some true) (etOutOfBits : PySem.W.typeIn K (.ref XOutOfBits) = some (.type "type")) (exOutOfRange : PySem.W.excIn K XOutOfRange [.type "ValueError", .type "Exception", .type "BaseException", .type "object"] "ValueError.__new__" = true) (ekOutOfRange : PySem.W.keepIn K (.ref XOutOfRange) = true) (ebOutOfRange : PySem.W.subIn K (.ref XOutOfRange) (.type "BaseException") = some true) (etOutOfRange : PySem.W.typeIn K (.ref XOutOfRange) = some (.type "type")) (exCodecError : PySem.W.excIn K XCodecError [.type "ValueError", .type "Exception", .type "BaseException", .type "object"] "ValueError.__new__" = true) (ekCodecError : PySem.W.keepIn K (.ref XCodecError) = true) (ebCodecError : PySem.W.subIn K (.ref XCodecError) (.type "BaseException") = some true) (etCodecError : PySem.W.typeIn K (.ref XCodecError) = some (.type "type")) (eiOutOfBitsOutOfBits : PySem.W.isClsIn K XOutOfBits = true) (esOutOfBitsOutOfBits : PySem.W.subIn K (.ref XOutOfBits) (.ref XOutOfBits) = some true) (eiBadOctetsBadOctets : PySem.W.isClsIn K XBadOctets = true) (esBadOctetsBadOctets : PySem.W.subIn K (.ref XBadOctets) (.ref XBadOctets) = some true) (eiOutOfBitsCodecError : PySem.W.isClsIn K XCodecError = true) (esOutOfBitsCodecError : PySem.W.subIn K (.ref XOutOfBits) (.ref XCodecError) = some true) (eiBadOctetsCodecError : PySem.W.isClsIn K XCodecError = true) (esBadOctetsCodecError : PySem.W.subIn K (.ref XBadOctets) (.ref XCodecError) = some true) (enOutOfBitsBadOctets : (Value.ref XOutOfBits == Value.ref XBadOctets) = false) (ejOutOfBitsBadOctets : PySem.W.isClsIn K XBadOctets = true) (etOutOfBitsBadOctets : PySem.W.subIn K (.ref XOutOfBits) (.ref XBadOctets) = some false) (enBadOctetsOutOfBits : (Value.ref XBadOctets == Value.ref XOutOfBits) = false) (ejBadOctetsOutOfBits : PySem.W.isClsIn K XOutOfBits = true) (etBadOctetsOutOfBits : PySem.W.subIn K (.ref XBadOctets) (.ref XOutOfBits) = some false) (c1OutOfBits : PySem.W.findIn K (.ref XOutOfBits) "__getattribute__" = some (some (.builtin "BaseException.__getattribute__"))) (c2OutOfBits : PySem.W.findIn K (.ref XOutOfBits) "__getattr__" = some none) (c3OutOfBits : PySem.W.hasDictIn K XOutOfBits = true) (c4OutOfBits : PySem.W.findIn K (.ref XOutOfBits) "__class__" = some (some (.builtin "object.__class__"))) (c5OutOfBits : PySem.W.specialIn K (.builtin "object.__class__") "__get__" = some (some (.builtin "getset_descriptor.__get__"))) (c6OutOfBits : PySem.W.takesIn K (.builtin "object.__class__") = some true) (c7OutOfBits : PySem.W.mroIn K XOutOfBits (.type "object") = some true) (c1BadOctets : PySem.W.findIn K (.ref XBadOctets) "__getattribute__" = some (some (.builtin "BaseException.__getattribute__"))) (c2BadOctets : PySem.W.findIn K (.ref XBadOctets) "__getattr__" = some none) (c3BadOctets : PySem.W.hasDictIn K XBadOctets = true) (c4BadOctets : PySem.W.findIn K (.ref XBadOctets) "__class__" = some (some (.builtin "object.__class__"))) (c5BadOctets : PySem.W.specialIn K (.builtin "object.__class__") "__get__" = some (some (.builtin "getset_descriptor.__get__"))) (c6BadOctets : PySem.W.takesIn K (.builtin "object.__class__") = some true) (c7BadOctets : PySem.W.mroIn K XBadOctets (.type "object") = some true) :
    ∃ fd : FuncData, (∀ (s : Shared) (v : Value), BindsTo s fd ⟨[v], []⟩ [("script", v)]) ∧ ∀ base : Heap, K.In base → base.Ns mainGlobals mg → FnG l.prog w K mg base CX0 6 fa fd ["script"] (spL K) := by
  have e := hfa.symm.trans (PySem.W.mg_of X G a18)
  cases e
  have T : Txt w K mg ⟨CBitReader, XCodecError, XOutOfRange, XOutOfBits, XBadOctets, fa⟩ := ⟨PySem.W.mg_none_of X G z0, PySem.W.mg_none_of X G z1, PySem.W.mg_none_of X G z2, PySem.W.mg_none_of X G z3, PySem.W.mg_none_of X G z4, PySem.W.mg_none_of X G z5, PySem.W.mg_none_of X G z6, PySem.W.mg_none_of X G z7, PySem.W.mg_none_of X G z8, PySem.W.mg_none_of X G z9, ⟨_, PySem.W.mg_of X G z10, ⟨_, rfl⟩⟩, ⟨_, PySem.W.mg_of X G z11, ⟨_, rfl⟩⟩, PySem.W.mg_none_of X G z12, ⟨yBitReader0, yBitReader1, yBitReader2, yBitReader3⟩, xBitReader0, xBitReader1, xBitReader2, PySem.W.mg_of X G vBadOctets, exBadOctets, ekBadOctets, ebBadOctets, etBadOctets, PySem.W.mg_of X G vOutOfBits, exOutOfBits, ekOutOfBits, ebOutOfBits, etOutOfBits, PySem.W.mg_of X G vOutOfRange, exOutOfRange, ekOutOfRange, ebOutOfRange, etOutOfRange, PySem.W.mg_of X G vCodecError, exCodecError, ekCodecError, ebCodecError, etCodecError, exm_mk ebOutOfBits eiOutOfBitsOutOfBits etOutOfBits esOutOfBitsOutOfBits, exm_mk ebBadOctets eiBadOctetsBadOctets etBadOctets esBadOctetsBadOctets, exm_mk0 ebOutOfBits enBadOctetsOutOfBits ejBadOctetsOutOfBits etOutOfBits etBadOctetsOutOfBits, kit_mk eiOutOfBitsCodecError etCodecError esOutOfBitsCodecError, kit_mk eiBadOctetsCodecError etCodecError esBadOctetsCodecError, kit_mk0 enOutOfBitsBadOctets ejOutOfBitsBadOctets etBadOctets etOutOfBitsBadOctets, kit_mk0 enBadOctetsOutOfBits ejBadOctetsOutOfBits etOutOfBits etBadOctetsOutOfBits, ⟨c1OutOfBits, c2OutOfBits, ebOutOfBits, c3OutOfBits, c4OutOfBits, c5OutOfBits, c6OutOfBits, c7OutOfBits⟩, ⟨c1BadOctets, c2BadOctets, ebBadOctets, c3BadOctets, c4BadOctets, c5BadOctets, c6BadOctets, c7BadOctets⟩⟩
  have F0 : FunD K "_law_draws" "_law_draws" (defArgs s__law_draws) (defBody s__law_draws) (defScope s__law_draws) [] [] f0 _ := ⟨⟨_, _, _, _, _, _, _, _, _, _, rfl, l0, c0, .inl ⟨rfl, rfl⟩, .inl rfl⟩, k0⟩
  have D_0 : DefX K mg "_law_draws" s__law_draws ["cell", "limits"] pats__law_draws := ⟨_, _, _, _, F0, PySem.W.mg_of X G a0, (all_consQ (Bnd.all fun us ws vs zs l1 l2 r rz => by
      obtain ⟨u0, u1, rfl⟩ := len2 (r.length.symm.trans l1)
      obtain rfl := len0 (rz.length.symm.trans l2)
      cases r with | cons r0 r =>
        cases r with | cons r1 r =>
          cases r
          cases rz
          exact ⟨[u0, u1], rfl, (.cons r0 (.cons r1 .nil))⟩) all_nilQ)⟩
  have F1 : FunD K "_law_octets" "_law_octets" (defArgs s__law_octets) (defBody s__law_octets) (defScope s__law_octets) [] [] f1 _ := ⟨⟨_, _, _, _, _, _, _, _, _, _, rfl, l1, c1, .inl ⟨rfl, rfl⟩, .inl rfl⟩, k1⟩
  have D_1 : DefX K mg "_law_octets" s__law_octets ["cell", "more"] pats__law_octets := ⟨_, _, _, _, F1, PySem.W.mg_of X G a1, (all_consQ (Bnd.all fun us ws vs zs l1 l2 r rz => by
      obtain ⟨u0, u1, rfl⟩ := len2 (r.length.symm.trans l1)
      obtain rfl := len0 (rz.length.symm.trans l2)
      cases r with | cons r0 r =>
        cases r with | cons r1 r =>
          cases r
          cases rz
          exact ⟨[u0, u1], rfl, (.cons r0 (.cons r1 .nil))⟩) all_nilQ)⟩
  have F2 : FunD K "_last_bit" "_last_bit" (defArgs s__last_bit) (defBody s__last_bit) (defScope s__last_bit) [] [] f2 _ := ⟨⟨_, _, _, _, _, _, _, _, _, _, rfl, l2, c2, .inl ⟨rfl, rfl⟩, .inl rfl⟩, k2⟩
  have D_2 : DefX K mg "_last_bit" s__last_bit ["octet"] pats__last_bit := ⟨_, _, _, _, F2, PySem.W.mg_of X G a2, (all_consQ (Bnd.all fun us ws vs zs l1 l2 r rz => by
      obtain ⟨u0, rfl⟩ := len1 (r.length.symm.trans l1)
      obtain rfl := len0 (rz.length.symm.trans l2)
      cases r with | cons r0 r =>
        cases r
        cases rz
        exact ⟨[u0], rfl, (.cons r0 .nil)⟩) all_nilQ)⟩
  have F3 : FunD K "__init__" "BitReader.__init__" (defArgs s_BitReader___init__) (defBody s_BitReader___init__) (defScope s_BitReader___init__) [] [] f3 _ := ⟨⟨_, _, _, _, _, _, _, _, _, _, rfl, l3, c3, .inl ⟨rfl, rfl⟩, .inl rfl⟩, k3⟩
  have D_3 : InitX K mg CBitReader "BitReader" "BitReader.__init__" s_BitReader___init__ ["self", "octets"] pats_BitReader___init__ := ⟨_, _, _, _, F3, ⟨d3, a3, b3, e3⟩, PySem.W.mg_of X G wBitReader, (all_consQ (Bnd.all fun us ws vs zs l1 l2 r rz => by
      obtain ⟨u0, u1, rfl⟩ := len2 (r.length.symm.trans l1)
      obtain rfl := len0 (rz.length.symm.trans l2)
      cases r with | cons r0 r =>
        cases r with | cons r1 r =>
          cases r
          cases rz
          exact ⟨[u0, u1], rfl, (.cons r0 (.cons r1 .nil))⟩) all_nilQ)⟩
  have F4 : FunD K "_law_bits" "_law_bits" (defArgs s__law_bits) (defBody s__law_bits) (defScope s__law_bits) [] [] f4 _ := ⟨⟨_, _, _, _, _, _, _, _, _, _, rfl, l4, c4, .inl ⟨rfl, rfl⟩, .inl rfl⟩, k4⟩
  have D_4 : DefX K mg "_law_bits" s__law_bits ["value", "count"] pats__law_bits := ⟨_, _, _, _, F4, PySem.W.mg_of X G a4, (all_consQ (Bnd.all fun us ws vs zs l1 l2 r rz => by
      obtain ⟨u0, u1, rfl⟩ := len2 (r.length.symm.trans l1)
      obtain rfl := len0 (rz.length.symm.trans l2)
      cases r with | cons r0 r =>
        cases r with | cons r1 r =>
          cases r
          cases rz
          exact ⟨[u0, u1], rfl, (.cons r0 (.cons r1 .nil))⟩) all_nilQ)⟩
  have F5 : FunD K "_law_all_bits" "_law_all_bits" (defArgs s__law_all_bits) (defBody s__law_all_bits) (defScope s__law_all_bits) [] [] f5 _ := ⟨⟨_, _, _, _, _, _, _, _, _, _, rfl, l5, c5, .inl ⟨rfl, rfl⟩, .inl rfl⟩, k5⟩
  have D_5 : DefX K mg "_law_all_bits" s__law_all_bits ["octets"] pats__law_all_bits := ⟨_, _, _, _, F5, PySem.W.mg_of X G a5, (all_consQ (Bnd.all fun us ws vs zs l1 l2 r rz => by
      obtain ⟨u0, rfl⟩ := len1 (r.length.symm.trans l1)
      obtain rfl := len0 (rz.length.symm.trans l2)
      cases r with | cons r0 r =>
        cases r
        cases rz
        exact ⟨[u0], rfl, (.cons r0 .nil)⟩) all_nilQ)⟩
  have F6 : FunD K "_law_cell" "_law_cell" (defArgs s__law_cell) (defBody s__law_cell) (defScope s__law_cell) [] [] f6 _ := ⟨⟨_, _, _, _, _, _, _, _, _, _, rfl, l6, c6, .inl ⟨rfl, rfl⟩, .inl rfl⟩, k6⟩
  have D_6 : DefX K mg "_law_cell" s__law_cell ["script", "k"] pats__law_cell := ⟨_, _, _, _, F6, PySem.W.mg_of X G a6, (all_consQ (Bnd.all fun us ws vs zs l1 l2 r rz => by
      obtain ⟨u0, u1, rfl⟩ := len2 (r.length.symm.trans l1)
      obtain rfl := len0 (rz.length.symm.trans l2)
      cases r with | cons r0 r =>
        cases r with | cons r1 r =>
          cases r
          cases rz
          exact ⟨[u0, u1], rfl, (.cons r0 (.cons r1 .nil))⟩) all_nilQ)⟩
  have F7 : FunD K "_law_number" "_law_number" (defArgs s__law_number) (defBody s__law_number) (defScope s__law_number) [] [] f7 _ := ⟨⟨_, _, _, _, _, _, _, _, _, _, rfl, l7, c7, .inl ⟨rfl, rfl⟩, .inl rfl⟩, k7⟩
  have D_7 : DefX K mg "_law_number" s__law_number ["bits"] pats__law_number := ⟨_, _, _, _, F7, PySem.W.mg_of X G a7, (all_consQ (Bnd.all fun us ws vs zs l1 l2 r rz => by
      obtain ⟨u0, rfl⟩ := len1 (r.length.symm.trans l1)
      obtain rfl := len0 (rz.length.symm.trans l2)
      cases r with | cons r0 r =>
        cases r
        cases rz
        exact ⟨[u0], rfl, (.cons r0 .nil)⟩) all_nilQ)⟩
  have F8 : FunD K "_law_code" "_law_code" (defArgs s__law_code) (defBody s__law_code) (defScope s__law_code) [] [] f8 _ := ⟨⟨_, _, _, _, _, _, _, _, _, _, rfl, l8, c8, .inl ⟨rfl, rfl⟩, .inl rfl⟩, k8⟩
  have D_8 : DefX K mg "_law_code" s__law_code ["bits"] pats__law_code := ⟨_, _, _, _, F8, PySem.W.mg_of X G a8, (all_consQ (Bnd.all fun us ws vs zs l1 l2 r rz => by
      obtain ⟨u0, rfl⟩ := len1 (r.length.symm.trans l1)
      obtain rfl := len0 (rz.length.symm.trans l2)
      cases r with | cons r0 r =>
        cases r
        cases rz
        exact ⟨[u0], rfl, (.cons r0 .nil)⟩) all_nilQ)⟩
  have F9 : FunD K "_law_due" "_law_due" (defArgs s__law_due) (defBody s__law_due) (defScope s__law_due) [] [] f9 _ := ⟨⟨_, _, _, _, _, _, _, _, _, _, rfl, l9, c9, .inl ⟨rfl, rfl⟩, .inl rfl⟩, k9⟩
  have D_9 : DefX K mg "_law_due" s__law_due ["bits", "kind", "count"] pats__law_due := ⟨_, _, _, _, F9, PySem.W.mg_of X G a9, (all_consQ (Bnd.all fun us ws vs zs l1 l2 r rz => by
      obtain ⟨u0, u1, u2, rfl⟩ := len3 (r.length.symm.trans l1)
      obtain rfl := len0 (rz.length.symm.trans l2)
      cases r with | cons r0 r =>
        cases r with | cons r1 r =>
          cases r with | cons r2 r =>
            cases r
            cases rz
            exact ⟨[u0, u1, u2], rfl, (.cons r0 (.cons r1 (.cons r2 .nil)))⟩) all_nilQ)⟩
  have F10 : FunD K "_look" "BitReader._look" (defArgs s_BitReader__look) (defBody s_BitReader__look) (defScope s_BitReader__look) [] [] f10 _ := ⟨⟨_, _, _, _, _, _, _, _, _, _, rfl, l10, c10, .inl ⟨rfl, rfl⟩, .inl rfl⟩, k10⟩
  have D_10 : MethX K CBitReader "BitReader._look" "_look" s_BitReader__look ["self", "place", "count"] pats_BitReader__look := ⟨_, _, _, _, F10, ⟨a10, b10, k10⟩, (all_consQ (Bnd.all fun us ws vs zs l1 l2 r rz => by
      obtain ⟨u0, u1, u2, rfl⟩ := len3 (r.length.symm.trans l1)
      obtain rfl := len0 (rz.length.symm.trans l2)
      cases r with | cons r0 r =>
        cases r with | cons r1 r =>
          cases r with | cons r2 r =>
            cases r
            cases rz
            exact ⟨[u0, u1, u2], rfl, (.cons r0 (.cons r1 (.cons r2 .nil)))⟩) all_nilQ)⟩
  have F11 : FunD K "_zeros" "BitReader._zeros" (defArgs s_BitReader__zeros) (defBody s_BitReader__zeros) (defScope s_BitReader__zeros) [] [] f11 _ := ⟨⟨_, _, _, _, _, _, _, _, _, _, rfl, l11, c11, .inl ⟨rfl, rfl⟩, .inl rfl⟩, k11⟩
  have D_11 : MethX K CBitReader "BitReader._zeros" "_zeros" s_BitReader__zeros ["self"] pats_BitReader__zeros := ⟨_, _, _, _, F11, ⟨a11, b11, k11⟩, (all_consQ (Bnd.all fun us ws vs zs l1 l2 r rz => by
      obtain ⟨u0, rfl⟩ := len1 (r.length.symm.trans l1)
      obtain rfl := len0 (rz.length.symm.trans l2)
      cases r with | cons r0 r =>
        cases r
        cases rz
        exact ⟨[u0], rfl, (.cons r0 .nil)⟩) all_nilQ)⟩
  have F12 : FunD K "_take" "BitReader._take" (defArgs s_BitReader__take) (defBody s_BitReader__take) (defScope s_BitReader__take) [] [] f12 _ := ⟨⟨_, _, _, _, _, _, _, _, _, _, rfl, l12, c12, .inl ⟨rfl, rfl⟩, .inl rfl⟩, k12⟩
  have D_12 : MethX K CBitReader "BitReader._take" "_take" s_BitReader__take ["self", "count"] pats_BitReader__take := ⟨_, _, _, _, F12, ⟨a12, b12, k12⟩, (all_consQ (Bnd.all fun us ws vs zs l1 l2 r rz => by
      obtain ⟨u0, u1, rfl⟩ := len2 (r.length.symm.trans l1)
      obtain rfl := len0 (rz.length.symm.trans l2)
      cases r with | cons r0 r =>
        cases r with | cons r1 r =>
          cases r
          cases rz
          exact ⟨[u0, u1], rfl, (.cons r0 (.cons r1 .nil))⟩) all_nilQ)⟩
  have F13 : FunD K "get_ue" "BitReader.get_ue" (defArgs s_BitReader_get_ue) (defBody s_BitReader_get_ue) (defScope s_BitReader_get_ue) [] [] f13 _ := ⟨⟨_, _, _, _, _, _, _, _, _, _, rfl, l13, c13, .inl ⟨rfl, rfl⟩, .inl rfl⟩, k13⟩
  have D_13 : MethX K CBitReader "BitReader.get_ue" "get_ue" s_BitReader_get_ue ["self"] pats_BitReader_get_ue := ⟨_, _, _, _, F13, ⟨a13, b13, k13⟩, (all_consQ (Bnd.all fun us ws vs zs l1 l2 r rz => by
      obtain ⟨u0, rfl⟩ := len1 (r.length.symm.trans l1)
      obtain rfl := len0 (rz.length.symm.trans l2)
      cases r with | cons r0 r =>
        cases r
        cases rz
        exact ⟨[u0], rfl, (.cons r0 .nil)⟩) all_nilQ)⟩
  have F14 : FunD K "get_se" "BitReader.get_se" (defArgs s_BitReader_get_se) (defBody s_BitReader_get_se) (defScope s_BitReader_get_se) [] [] f14 _ := ⟨⟨_, _, _, _, _, _, _, _, _, _, rfl, l14, c14, .inl ⟨rfl, rfl⟩, .inl rfl⟩, k14⟩
  have D_14 : MethX K CBitReader "BitReader.get_se" "get_se" s_BitReader_get_se ["self"] pats_BitReader_get_se := ⟨_, _, _, _, F14, ⟨a14, b14, k14⟩, (all_consQ (Bnd.all fun us ws vs zs l1 l2 r rz => by
      obtain ⟨u0, rfl⟩ := len1 (r.length.symm.trans l1)
      obtain rfl := len0 (rz.length.symm.trans l2)
      cases r with | cons r0 r =>
        cases r
        cases rz
        exact ⟨[u0], rfl, (.cons r0 .nil)⟩) all_nilQ)⟩
  have F15 : FunD K "get" "BitReader.get" (defArgs s_BitReader_get) (defBody s_BitReader_get) (defScope s_BitReader_get) [] [] f15 _ := ⟨⟨_, _, _, _, _, _, _, _, _, _, rfl, l15, c15, .inl ⟨rfl, rfl⟩, .inl rfl⟩, k15⟩
  have D_15 : MethX K CBitReader "BitReader.get" "get" s_BitReader_get ["self", "count"] pats_BitReader_get := ⟨_, _, _, _, F15, ⟨a15, b15, k15⟩, (all_consQ (Bnd.all fun us ws vs zs l1 l2 r rz => by
      obtain ⟨u0, u1, rfl⟩ := len2 (r.length.symm.trans l1)
      obtain rfl := len0 (rz.length.symm.trans l2)
      cases r with | cons r0 r =>
        cases r with | cons r1 r =>
          cases r
          cases rz
          exact ⟨[u0, u1], rfl, (.cons r0 (.cons r1 .nil))⟩) all_nilQ)⟩
  have F16 : FunD K "_law_read" "_law_read" (defArgs s__law_read) (defBody s__law_read) (defScope s__law_read) [] [] f16 _ := ⟨⟨_, _, _, _, _, _, _, _, _, _, rfl, l16, c16, .inl ⟨rfl, rfl⟩, .inl rfl⟩, k16⟩
  have D_16 : DefX K mg "_law_read" s__law_read ["reader", "kind", "count"] pats__law_read := ⟨_, _, _, _, F16, PySem.W.mg_of X G a16, (all_consQ (Bnd.all fun us ws vs zs l1 l2 r rz => by
      obtain ⟨u0, u1, u2, rfl⟩ := len3 (r.length.symm.trans l1)
      obtain rfl := len0 (rz.length.symm.trans l2)
      cases r with | cons r0 r =>
        cases r with | cons r1 r =>
          cases r with | cons r2 r =>
            cases r
            cases rz
            exact ⟨[u0, u1, u2], rfl, (.cons r0 (.cons r1 (.cons r2 .nil)))⟩) all_nilQ)⟩
  have F17 : FunD K "left" "BitReader.left" (defArgs s_BitReader_left) (defBody s_BitReader_left) (defScope s_BitReader_left) [] [] f17 _ := ⟨⟨_, _, _, _, _, _, _, _, _, _, rfl, l17, c17, .inl ⟨rfl, rfl⟩, .inl rfl⟩, k17⟩
  have D_17 : PropX K CBitReader "BitReader.left" "left" s_BitReader_left ["self"] pats_BitReader_left := ⟨_, _, _, _, _, F17, ⟨a17, b17, d17, _, e17⟩, FunD.bindsN F17 (fun _ _ _ _ _ _ us h => by obtain ⟨u0, rfl⟩ := len1 h; rfl)⟩
  have F18 : FunD K "law" "law" (defArgs s_law) (defBody s_law) (defScope s_law) [] [] _ _ := ⟨⟨_, _, _, _, _, _, _, _, _, _, rfl, l18, c18, .inl ⟨rfl, rfl⟩, .inl rfl⟩, k18⟩
  have R__law_draws : ∀ base : Heap, CalX l.prog w K mg base 1 "_law_draws" (sp__law_draws K ⟨CBitReader, XCodecError, XOutOfRange, XOutOfBits, XBadOctets, fa⟩) pats__law_draws := fun base => ok__law_draws D_0 T 
  have R__law_octets : ∀ base : Heap, CalX l.prog w K mg base 2 "_law_octets" (sp__law_octets K ⟨CBitReader, XCodecError, XOutOfRange, XOutOfBits, XBadOctets, fa⟩) pats__law_octets := fun base => ok__law_octets D_1 T (R__law_draws base)
  have R__last_bit : ∀ base : Heap, CalX l.prog w K mg base 1 "_last_bit" (sp__last_bit K ⟨CBitReader, XCodecError, XOutOfRange, XOutOfBits, XBadOctets, fa⟩) pats__last_bit := fun base => ok__last_bit D_2 T 
  have R_BitReader___init__ : ∀ base : Heap, MakX l.prog w K mg base 2 "BitReader" (⟨CBitReader, XCodecError, XOutOfRange, XOutOfBits, XBadOctets, fa⟩ : Ads).c_BitReader (sp_BitReader___init__ K ⟨CBitReader, XCodecError, XOutOfRange, XOutOfBits, XBadOctets, fa⟩) pats_BitReader___init__ := fun base => ok_BitReader___init__ D_3 T (R__last_bit base)
  have R__law_bits : ∀ base : Heap, CalX l.prog w K mg base 1 "_law_bits" (sp__law_bits K ⟨CBitReader, XCodecError, XOutOfRange, XOutOfBits, XBadOctets, fa⟩) pats__law_bits := fun base => ok__law_bits D_4 T 
  have R__law_all_bits : ∀ base : Heap, CalX l.prog w K mg base 2 "_law_all_bits" (sp__law_all_bits K ⟨CBitReader, XCodecError, XOutOfRange, XOutOfBits, XBadOctets, fa⟩) pats__law_all_bits := fun base => ok__law_all_bits D_5 T (R__law_bits base)
  have R__law_cell : ∀ base : Heap, CalX l.prog w K mg base 1 "_law_cell" (sp__law_cell K ⟨CBitReader, XCodecError, XOutOfRange, XOutOfBits, XBadOctets, fa⟩) pats__law_cell := fun base => ok__law_cell D_6 T 
  have R__law_number : ∀ base : Heap, CalX l.prog w K mg base 1 "_law_number" (sp__law_number K ⟨CBitReader, XCodecError, XOutOfRange, XOutOfBits, XBadOctets, fa⟩) pats__law_number := fun base => ok__law_number D_7 T 
  have R__law_code : ∀ base : Heap, CalX l.prog w K mg base 2 "_law_code" (sp__law_code K ⟨CBitReader, XCodecError, XOutOfRange, XOutOfBits, XBadOctets, fa⟩) pats__law_code := fun base => ok__law_code D_8 T (R__law_number base)
  have R__law_due : ∀ base : Heap, CalX l.prog w K mg base 3 "_law_due" (sp__law_due K ⟨CBitReader, XCodecError, XOutOfRange, XOutOfBits, XBadOctets, fa⟩) pats__law_due := fun base => ok__law_due D_9 T (R__law_number base) (R__law_code base)
  have R_BitReader__look : ∀ base : Heap, MetX l.prog w K mg base 1 (⟨CBitReader, XCodecError, XOutOfRange, XOutOfBits, XBadOctets, fa⟩ : Ads).c_BitReader "_look" (sp_BitReader__look K ⟨CBitReader, XCodecError, XOutOfRange, XOutOfBits, XBadOctets, fa⟩) pats_BitReader__look := fun base => ok_BitReader__look D_10 T 
  have R_BitReader__zeros : ∀ base : Heap, MetX l.prog w K mg base 2 (⟨CBitReader, XCodecError, XOutOfRange, XOutOfBits, XBadOctets, fa⟩ : Ads).c_BitReader "_zeros" (sp_BitReader__zeros K ⟨CBitReader, XCodecError, XOutOfRange, XOutOfBits, XBadOctets, fa⟩) pats_BitReader__zeros := fun base => ok_BitReader__zeros D_11 T (R_BitReader__look base)
  have R_BitReader__take : ∀ base : Heap, MetX l.prog w K mg base 2 (⟨CBitReader, XCodecError, XOutOfRange, XOutOfBits, XBadOctets, fa⟩ : Ads).c_BitReader "_take" (sp_BitReader__take K ⟨CBitReader, XCodecError, XOutOfRange, XOutOfBits, XBadOctets, fa⟩) pats_BitReader__take := fun base => ok_BitReader__take D_12 T (R_BitReader__look base)
  have R_BitReader_get_ue : ∀ base : Heap, MetX l.prog w K mg base 3 (⟨CBitReader, XCodecError, XOutOfRange, XOutOfBits, XBadOctets, fa⟩ : Ads).c_BitReader "get_ue" (sp_BitReader_get_ue K ⟨CBitReader, XCodecError, XOutOfRange, XOutOfBits, XBadOctets, fa⟩) pats_BitReader_get_ue := fun base => ok_BitReader_get_ue D_13 T (R_BitReader__zeros base) (R_BitReader__take base)
  have R_BitReader_get_se : ∀ base : Heap, MetX l.prog w K mg base 4 (⟨CBitReader, XCodecError, XOutOfRange, XOutOfBits, XBadOctets, fa⟩ : Ads).c_BitReader "get_se" (sp_BitReader_get_se K ⟨CBitReader, XCodecError, XOutOfRange, XOutOfBits, XBadOctets, fa⟩) pats_BitReader_get_se := fun base => ok_BitReader_get_se D_14 T (R_BitReader_get_ue base)
  have R_BitReader_get : ∀ base : Heap, MetX l.prog w K mg base 3 (⟨CBitReader, XCodecError, XOutOfRange, XOutOfBits, XBadOctets, fa⟩ : Ads).c_BitReader "get" (sp_BitReader_get K ⟨CBitReader, XCodecError, XOutOfRange, XOutOfBits, XBadOctets, fa⟩) pats_BitReader_get := fun base => ok_BitReader_get D_15 T (R_BitReader__take base)
  have R__law_read : ∀ base : Heap, CalX l.prog w K mg base 5 "_law_read" (sp__law_read K ⟨CBitReader, XCodecError, XOutOfRange, XOutOfBits, XBadOctets, fa⟩) pats__law_read := fun base => ok__law_read D_16 T (R_BitReader_get base) (R_BitReader_get_ue base) (R_BitReader_get_se base)
  have R_BitReader_left : ∀ base : Heap, PropY l.prog w K mg base 1 (⟨CBitReader, XCodecError, XOutOfRange, XOutOfBits, XBadOctets, fa⟩ : Ads).c_BitReader "left" (sp_BitReader_left K ⟨CBitReader, XCodecError, XOutOfRange, XOutOfBits, XBadOctets, fa⟩) pats_BitReader_left := fun base => ok_BitReader_left D_17 T 

  refine ⟨PySem.W.fnOf "law" "law" (defArgs s_law) (defBody s_law) (defScope s_law) .none kV18 dc18 pm18 an18 cd18 ct18, fun s v => .of_eq rfl, fun base _ _ => (ok_law (AD := ⟨CBitReader, XCodecError, XOutOfRange, XOutOfBits, XBadOctets, fa⟩) F18 T (R__law_octets base) (R__law_cell base) (R_BitReader___init__ base) (R__law_all_bits base) (R__law_draws base) (R__law_due base) (R__law_read base) (R_BitReader_left base)).imp ?_⟩
  rintro vs H Q E ⟨a, xs, rfl, hs, hl, q⟩
  exact ⟨a, xs, rfl, hs, by rw [law_true xs hl]; exact cW_mk rfl, q⟩
end Vx
open PySem PySem.W PyProof.Rows
set_option maxRecDepth 100000 in
set_option maxHeartbeats 0 in
theorem PySem.Challenge.cw_thaumatrope_k07_any_octets_read_as_bits_holds : PySem.Challenge.rw_thaumatrope_k07_any_octets_read_as_bits.Holds := by
  w_on; o_law; k_head; (case hw => w_witness2)
  k_fill
  refine Vx.walkG (l := PySem.Challenge.rw_thaumatrope_k07_any_octets_read_as_bits) (n := 63) (k := 6) (x := "script") rfl (by decide) rfl ⟨rfl, by decide, by decide⟩ (fun w h Y => PySem.W.kIn_of Y) ?F
  case F =>
    intro w mg fa h KX G hmg
    refine' Vx.all_mk KX G hmg ?wBitReader ?vCodecError ?vOutOfRange ?vOutOfBits ?vBadOctets ?a0 ?l0 ?c0 ?k0 ?a1 ?l1 ?c1 ?k1 ?a2 ?l2 ?c2 ?k2 ?a3 ?b3 ?d3 ?e3 ?l3 ?c3 ?k3 ?a4 ?l4 ?c4 ?k4 ?a5 ?l5 ?c5 ?k5 ?a6 ?l6 ?c6 ?k6 ?a7 ?l7 ?c7 ?k7 ?a8 ?l8 ?c8 ?k8 ?a9 ?l9 ?c9 ?k9 ?a10 ?b10 ?l10 ?c10 ?k10 ?a11 ?b11 ?l11 ?c11 ?k11 ?a12 ?b12 ?l12 ?c12 ?k12 ?a13 ?b13 ?l13 ?c13 ?k13 ?a14 ?b14 ?l14 ?c14 ?k14 ?a15 ?b15 ?l15 ?c15 ?k15 ?a16 ?l16 ?c16 ?k16 ?a17 ?b17 ?d17 ?e17 ?l17 ?c17 ?k17 ?a18 ?l18 ?c18 ?k18 ?z0 ?z1 ?z2 ?z3 ?z4 ?z5 ?z6 ?z7 ?z8 ?z9 ?z10 ?z11 ?z12 ?yBitReader0 ?yBitReader1 ?yBitReader2 ?yBitReader3 ?xBitReader0 ?xBitReader1 ?xBitReader2 ?exBadOctets ?ekBadOctets ?ebBadOctets ?etBadOctets ?exOutOfBits ?ekOutOfBits ?ebOutOfBits ?etOutOfBits ?exOutOfRange ?ekOutOfRange ?ebOutOfRange ?etOutOfRange ?exCodecError ?ekCodecError ?ebCodecError ?etCodecError ?eiOutOfBitsOutOfBits ?esOutOfBitsOutOfBits ?eiBadOctetsBadOctets ?esBadOctetsBadOctets ?eiOutOfBitsCodecError ?esOutOfBitsCodecError ?eiBadOctetsCodecError ?esBadOctetsCodecError ?enOutOfBitsBadOctets ?ejOutOfBitsBadOctets ?etOutOfBitsBadOctets ?enBadOctetsOutOfBits ?ejBadOctetsOutOfBits ?etBadOctetsOutOfBits ?c1OutOfBits ?c2OutOfBits ?c3OutOfBits ?c4OutOfBits ?c5OutOfBits ?c6OutOfBits ?c7OutOfBits ?c1BadOctets ?c2BadOctets ?c3BadOctets ?c4BadOctets ?c5BadOctets ?c6BadOctets ?c7BadOctets
    (case wBitReader => k_is)
    (case vCodecError => k_is)
    (case vOutOfRange => k_is)
    (case vOutOfBits => k_is)
    (case vBadOctets => k_is)
    (case a0 => k_is)
    (case l0 => k_is)
    (case c0 => k_is)
    (case k0 => k_is)
    (case a1 => k_is)
    (case l1 => k_is)
    (case c1 => k_is)
    (case k1 => k_is)
    (case a2 => k_is)
    (case l2 => k_is)
    (case c2 => k_is)
    (case k2 => k_is)
    (case a3 => k_is)
    (case b3 => k_is)
    (case d3 => k_is)
    (case e3 => k_is)
    (case l3 => k_is)
    (case c3 => k_is)
    (case k3 => k_is)
    (case a4 => k_is)
    (case l4 => k_is)
    (case c4 => k_is)
    (case k4 => k_is)
    (case a5 => k_is)
    (case l5 => k_is)
    (case c5 => k_is)
    (case k5 => k_is)
    (case a6 => k_is)
    (case l6 => k_is)
    (case c6 => k_is)
    (case k6 => k_is)
    (case a7 => k_is)
    (case l7 => k_is)
    (case c7 => k_is)
    (case k7 => k_is)
    (case a8 => k_is)
    (case l8 => k_is)
    (case c8 => k_is)
    (case k8 => k_is)
    (case a9 => k_is)
    (case l9 => k_is)
    (case c9 => k_is)
    (case k9 => k_is)
    (case a10 => k_is)
    (case b10 => k_is)
    (case l10 => k_is)
    (case c10 => k_is)
    (case k10 => k_is)
    (case a11 => k_is)
    (case b11 => k_is)
    (case l11 => k_is)
    (case c11 => k_is)
    (case k11 => k_is)
    (case a12 => k_is)
    (case b12 => k_is)
    (case l12 => k_is)
    (case c12 => k_is)
    (case k12 => k_is)
    (case a13 => k_is)
    (case b13 => k_is)
    (case l13 => k_is)
    (case c13 => k_is)
    (case k13 => k_is)
    (case a14 => k_is)
    (case b14 => k_is)
    (case l14 => k_is)
    (case c14 => k_is)
    (case k14 => k_is)
    (case a15 => k_is)
    (case b15 => k_is)
    (case l15 => k_is)
    (case c15 => k_is)
    (case k15 => k_is)
    (case a16 => k_is)
    (case l16 => k_is)
    (case c16 => k_is)
    (case k16 => k_is)
    (case a17 => k_is)
    (case b17 => k_is)
    (case d17 => k_is)
    (case e17 => k_is)
    (case l17 => k_is)
    (case c17 => k_is)
    (case k17 => k_is)
    (case a18 => k_is)
    (case l18 => k_is)
    (case c18 => k_is)
    (case k18 => k_is)
    (case z0 => k_is)
    (case z1 => k_is)
    (case z2 => k_is)
    (case z3 => k_is)
    (case z4 => k_is)
    (case z5 => k_is)
    (case z6 => k_is)
    (case z7 => k_is)
    (case z8 => k_is)
    (case z9 => k_is)
    (case z10 => k_is)
    (case z11 => k_is)
    (case z12 => k_is)
    (case yBitReader0 => k_is)
    (case yBitReader1 => k_is)
    (case yBitReader2 => k_is)
    (case yBitReader3 => k_is)
    (case xBitReader0 => k_is)
    (case xBitReader1 => k_is)
    (case xBitReader2 => k_is)
    (case exBadOctets => k_exc)
    (case ekBadOctets => k_is)
    (case ebBadOctets => k_is)
    (case etBadOctets => k_is)
    (case exOutOfBits => k_exc)
    (case ekOutOfBits => k_is)
    (case ebOutOfBits => k_is)
    (case etOutOfBits => k_is)
    (case exOutOfRange => k_exc)
    (case ekOutOfRange => k_is)
    (case ebOutOfRange => k_is)
    (case etOutOfRange => k_is)
    (case exCodecError => k_exc)
    (case ekCodecError => k_is)
    (case ebCodecError => k_is)
    (case etCodecError => k_is)
    (case eiOutOfBitsOutOfBits => k_is)
    (case esOutOfBitsOutOfBits => first | rfl | k_is)
    (case eiBadOctetsBadOctets => k_is)
    (case esBadOctetsBadOctets => first | rfl | k_is)
    (case eiOutOfBitsCodecError => k_is)
    (case esOutOfBitsCodecError => first | rfl | k_is)
    (case eiBadOctetsCodecError => k_is)
    (case esBadOctetsCodecError => first | rfl | k_is)
    (case enOutOfBitsBadOctets => rfl)
    (case ejOutOfBitsBadOctets => k_is)
    (case etOutOfBitsBadOctets => k_is)
    (case enBadOctetsOutOfBits => rfl)
    (case ejBadOctetsOutOfBits => k_is)
    (case etBadOctetsOutOfBits => k_is)
    (case c1OutOfBits => k_is)
    (case c2OutOfBits => k_is)
    (case c3OutOfBits => k_is)
    (case c4OutOfBits => k_is)
    (case c5OutOfBits => k_is)
    (case c6OutOfBits => k_is)
    (case c7OutOfBits => k_is)
    (case c1BadOctets => k_is)
    (case c2BadOctets => k_is)
    (case c3BadOctets => k_is)
    (case c4BadOctets => k_is)
    (case c5BadOctets => k_is)
    (case c6BadOctets => k_is)
    (case c7BadOctets => k_is)
