import PyProof.Rows.All
import Wide.All
import OpenK.AllK
import Wide.FinOn
import HandS.ForMost
import HandS.Codes
import HandS.Steps
import HandS.IsInst
import HandS.Property
import HandS.Wide
import HandS.WideBits
import HandS.Exc
import HandS.Defaults
import HandS.ExcOwn
import HandS.TryOnly
import HandS.WordsExc
import HandS.ExcIs
import HandS.MakeKwOnly
import HandS.RaiseMore
import HandS.Style
import HandS.Zip
import HandS.Iter
import HandS.Walk
import HandS.More
import HandS.SetFor
import HandS.Strs
import HandS.GenBody
import HandS.GenList
import HandS.GenCall
import PySem.Challenge.RW_thaumatrope_k11_any_octets_read_as_units
set_option Elab.async false
set_option linter.all false
set_option maxRecDepth 100000
set_option maxHeartbeats 8000000
namespace Vx
open PySem PySem.Spec PyProof.Rows L2

/-! ### heaps -/
def SameX (m : Addr) (H H' : Hp) : Prop := ∀ b o, H b = some o → b ≠ m → H' b = some o
theorem gen_new {H H' : Hp} {p : Addr} {o : HO} (n : H p = none) (h : upd H p o = H') : Same H H' ∧ H' p = some o := by
  subst h
  exact ⟨fun b u e => by rw [upd_ne (ne_of_none e n)]; exact e, upd_same⟩
theorem gen_mut {H H' : Hp} {m : Addr} {o : HO} (h : upd H m o = H') : SameX m H H' ∧ H' m = some o := by
  subst h
  exact ⟨fun b u e n => by rw [upd_ne n]; exact e, upd_same⟩
theorem same_mut {H0 H H' : Hp} {m : Addr} (B : Same H0 H) (x : SameX m H H') (f : H0 m = none) : Same H0 H' :=
  fun b o e => x b o (B b o e) (ne_of_none e f)
theorem map_get {xs : List Int} {i : Nat} {x : V} (h : (xs.map V.int)[i]? = some x) : ∃ o, xs[i]? = some o ∧ x = .int o := by
  rw [List.getElem?_map] at h
  cases e : xs[i]? with
  | none => rw [e] at h; cases h
  | some z => rw [e] at h; exact ⟨z, rfl, (Option.some.inj h).symm⟩
theorem get_len {α : Type} {xs : List α} {i : Nat} {x : α} (h : xs[i]? = some x) : i < xs.length := (List.getElem?_eq_some_iff.mp h).1
theorem eq_int {Q : VK} {H : Hp} {a b : Int} (h : Q (.int a) H) (e : a = b) : Q (.int b) H := e ▸ h
theorem eq_bl {Q : VK} {H : Hp} {a b : Bool} (h : Q (.bl a) H) (e : a = b) : Q (.bl b) H := e ▸ h
theorem small {n : Nat} (h : n ≤ 1000000) : n < sizeLine := Nat.lt_of_le_of_lt h (by decide)
theorem smallE {n : Nat} (h : n ≤ 1000000) : n ≤ sizeLine := Nat.le_of_lt (small h)
theorem snoc_int {xs : List Int} {y : Int} {H : Hp} {p : Addr} (h : H p = some (.lst (xs.map V.int ++ [V.int y]))) : H p = some (.lst ((xs ++ [y]).map V.int)) := by
  rw [List.map_append]; exact h
theorem cat_int {xs ys : List Int} {H : Hp} {p : Addr} (h : H p = some (.lst (xs.map V.int ++ ys.map V.int))) : H p = some (.lst ((xs ++ ys).map V.int)) := by
  rw [List.map_append]; exact h
theorem cast_lst {xs ys : List Int} {H : Hp} {p : Addr} (h : H p = some (.lst (xs.map V.int))) (e : xs = ys) : H p = some (.lst (ys.map V.int)) := e ▸ h

/-! ### tests -/
theorem dT {p : Prop} [Decidable p] (h : decide p = true) : p := of_decide_eq_true h
theorem dF {p : Prop} [Decidable p] (h : ¬ decide p = true) : ¬ p := fun x => h (decide_eq_true x)
theorem iteD {p A B : Prop} [Decidable p] (h1 : p → A) (h2 : ¬ p → B) : if decide p = true then A else B := by
  by_cases h : p
  · rw [if_pos (decide_eq_true h)]; exact h1 h
  · rw [if_neg (fun x => h (of_decide_eq_true x))]; exact h2 h
theorem iteN {p A B : Prop} [Decidable p] (h1 : ¬ p → A) (h2 : p → B) : if (!decide p) = true then A else B := by
  by_cases h : p
  · rw [decide_eq_true h]; exact iteF (h2 h)
  · rw [decide_eq_false h]; exact iteT (h1 h)
theorem iteB {b : Bool} {A B : Prop} (h1 : b = true → A) (h2 : b = false → B) : if b = true then A else B := by
  cases b with
  | true => exact iteT (h1 rfl)
  | false => exact iteF (h2 rfl)
theorem iteBN {b : Bool} {A B : Prop} (h1 : b = false → A) (h2 : b = true → B) : if (!b) = true then A else B := by
  cases b with
  | true => exact iteF (h2 rfl)
  | false => exact iteT (h1 rfl)
theorem iteDT {p A B : Prop} [Decidable p] (h : p) (k : A) : if decide p = true then A else B := by
  rw [if_pos (decide_eq_true h)]; exact k
theorem iteDF {p A B : Prop} [Decidable p] (h : ¬ p) (k : B) : if decide p = true then A else B := by
  rw [if_neg (fun x => h (of_decide_eq_true x))]; exact k
theorem iteNT {p A B : Prop} [Decidable p] (h : ¬ p) (k : A) : if (!decide p) = true then A else B := iteN (fun _ => k) (fun x => (h x).elim)
theorem iteNF {p A B : Prop} [Decidable p] (h : p) (k : B) : if (!decide p) = true then A else B := iteN (fun x => (x h).elim) (fun _ => k)

/-! ### equality of lists of ints -/
theorem eqvAll_ints : ∀ xs ys : List Int, PyData.eqvAll (xs.map PyData.int) (ys.map PyData.int) = decide (xs = ys)
  | [], [] => by simp [PyData.eqvAll]
  | [], y :: ys => by simp [PyData.eqvAll]
  | x :: xs, [] => by simp [PyData.eqvAll]
  | x :: xs, y :: ys => by
    have ih := eqvAll_ints xs ys
    simp only [List.map_cons, PyData.eqvAll, PyData.eqv, ih]
    by_cases h : x = y <;> by_cases h2 : xs = ys <;> simp [h, h2]
end Vx

namespace Vx
open PySem PySem.Spec PyProof.Rows L2
section
variable {X : Cx}
def rEqLi (K : PySem.W.Frag) : R2 := fun x y H Q => ∃ (a b : Addr) (xs ys : List Int), x = .ref a ∧ y = .ref b ∧ SqL K H a (xs.map V.int) ∧ SqL K H b (ys.map V.int) ∧ Q (.bl (decide (xs = ys))) H
def rNeLi (K : PySem.W.Frag) : R2 := fun x y H Q => ∃ (a b : Addr) (xs ys : List Int), x = .ref a ∧ y = .ref b ∧ SqL K H a (xs.map V.int) ∧ SqL K H b (ys.map V.int) ∧ Q (.bl (!decide (xs = ys))) H
theorem dpAll_ints {K : PySem.W.Frag} {H : Hp} : ∀ xs : List Int, DpAll K H (xs.map V.int) (xs.map PyData.int)
  | [] => .nil
  | x :: xs => .cons (.int x) (dpAll_ints xs)
theorem dp_ints {K : PySem.W.Frag} {H : Hp} {a : Addr} {xs : List Int} (h : SqL K H a (xs.map V.int)) : Dp K H (.ref a) (.list (xs.map PyData.int)) := .lst h (dpAll_ints xs)
theorem canLay_ints : ∀ xs : List Int, PyData.canLayAll0 (xs.map PyData.int) = true
  | [] => by simp [PyData.canLayAll0]
  | x :: xs => by simp [PyData.canLayAll0, PyData.canLay0, canLay_ints xs]
theorem depth_ints : ∀ xs : List Int, PyData.depthAll (xs.map PyData.int) = 0
  | [] => by simp [PyData.depthAll]
  | x :: xs => by simp [PyData.depthAll, PyData.depth, depth_ints xs]
theorem shaped_ints (xs : List Int) : SeqAt.shaped (.list (xs.map PyData.int)) = true := by
  unfold SeqAt.shaped
  simp [PyData.canLay0, canLay_ints, PyData.depth, depth_ints]
theorem eqv_ints (xs ys : List Int) : PyData.eqv (.list (xs.map PyData.int)) (.list (ys.map PyData.int)) = decide (xs = ys) := by
  simp only [PyData.eqv]
  exact eqvAll_ints xs ys
theorem op_eqLi (hu : X.A.units + 64 < cLine) : OpR X (compareOp .Eq) (rEqLi X.K) := by
  intro pins s σ H x y v u Q I rx ry h
  obtain ⟨a, b, xs, ys, rfl, rfl, h1, h2, q⟩ := h
  exact op_eqD hu pins s σ H _ _ v u Q I rx ry ⟨_, _, dp_ints h1, dp_ints h2, shaped_ints xs, shaped_ints ys, by rw [eqv_ints]; exact q⟩
theorem op_neLi (hu : X.A.units + 64 < cLine) : OpR X (compareOp .NotEq) (rNeLi X.K) := by
  intro pins s σ H x y v u Q I rx ry h
  obtain ⟨a, b, xs, ys, rfl, rfl, h1, h2, q⟩ := h
  exact op_neD hu pins s σ H _ _ v u Q I rx ry ⟨_, _, dp_ints h1, dp_ints h2, shaped_ints xs, shaped_ints ys, by rw [eqv_ints]; exact q⟩

/-! ### items, slices, repetition, comprehensions of ints -/
def itI (xs : List Int) (i : Int) : Int := (atI xs i).getD 0
theorem atI_int {xs : List Int} {i : Int} (h : -(xs.length : Int) ≤ i ∧ i < xs.length) : atI (xs.map V.int) i = some (.int (itI xs i)) := by
  unfold itI atI
  rw [List.length_map]
  have hk : ∃ j, ixN xs.length i = some j ∧ j < xs.length := by
    unfold ixN
    by_cases h0 : 0 ≤ i
    · refine ⟨i.toNat, ?_, by omega⟩
      rw [if_pos h0, if_pos h.2]
    · refine ⟨(i + xs.length).toNat, ?_, by omega⟩
      rw [if_neg h0, if_pos h.1]
  obtain ⟨j, e, hj⟩ := hk
  rw [e]
  show (xs.map V.int)[j]? = some (V.int ((xs[j]?).getD 0))
  rw [List.getElem?_map, List.getElem?_eq_getElem hj] <;> rfl
def cutI (xs : List Int) (lo hi : Option Int) : List Int := (xs.drop (HT.sIx xs.length 0 lo)).take (HT.sIx xs.length xs.length hi - HT.sIx xs.length 0 lo)
theorem cut_int {xs : List Int} {lo hi : Option Int} {H : Hp} {p : Addr} (h : H p = some (.lst (cutV (xs.map V.int) lo hi))) : H p = some (.lst ((cutI xs lo hi).map V.int)) := by
  rw [h]
  unfold cutV cutI
  rw [List.length_map, List.map_take, List.map_drop]
def rep (xs : List Int) (k : Int) : List Int := (List.replicate k.toNat xs).flatten
theorem rep_int {xs : List Int} {k : Int} {H : Hp} {p : Addr} (h : H p = some (.lst (List.replicate k.toNat (xs.map V.int)).flatten)) : H p = some (.lst ((rep xs k).map V.int)) := by
  rw [h]
  unfold rep
  rw [List.map_flatten, List.map_replicate]
theorem divW_lit {i j : Int} (h : 0 < j) (h2 : j.natAbs.log2 < 9000) : CDivW i j := ⟨h, h2⟩
theorem divW_small {i j : Int} (h : 0 < j) (h2 : j < 2 ^ 128) : CDivW i j := wide_div h (show j.natAbs < 2 ^ 128 by omega) (by decide) (by decide)
theorem comp_list {xs : List Int} {i : Nat} {x y : Int} {f : Int → Int} {H : Hp} {D : Addr} (hi : xs[i]? = some x) (h : H D = some (.lst (((xs.take i).map f).map V.int ++ [V.int y]))) (e : f x = y) : H D = some (.lst (((xs.take (i + 1)).map f).map V.int)) := by
  rw [h, ← e, List.take_succ, hi, List.map_append, List.map_append] <;> rfl
theorem comp_done {xs : List Int} {f : Int → Int} {H : Hp} {D : Addr} (h : H D = some (.lst (((xs.take (xs.map V.int).length).map f).map V.int))) : H D = some (.lst ((xs.map f).map V.int)) := by
  rw [List.length_map, List.take_length] at h
  exact h
theorem comp_range {i : Nat} {y : Int} {f : Nat → Int} {H : Hp} {D : Addr} (h : H D = some (.lst (((List.range i).map f).map V.int ++ [V.int y]))) (e : f i = y) : H D = some (.lst (((List.range (i + 1)).map f).map V.int)) := by
  rw [h, ← e, List.range_succ, List.map_append, List.map_append] <;> rfl
theorem iteBT {b : Bool} {A B : Prop} (h : b = true) (k : A) : if b = true then A else B := by rw [if_pos h]; exact k
theorem iteBF {b : Bool} {A B : Prop} (h : b = false) (k : B) : if b = true then A else B := by rw [if_neg (by rw [h]; decide)]; exact k
theorem take_succ_get {α : Type} {xs : List α} {i : Nat} {x : α} (hi : xs[i]? = some x) : xs.take (i + 1) = xs.take i ++ [x] := by rw [List.take_succ, hi] <;> rfl
end

/-! ### defs of the module, as callers see them -/
section
variable {P : Program} {w : World} {K : PySem.W.Frag} {mg : Str → Option Value} {base : Heap}
structure DefIn (K : PySem.W.Frag) (mg : Str → Option Value) (x : Str) (st : Stmt) (ps : List Str) : Prop where
  ex : ∃ (f : Addr) (fd : FuncData), Fun K x x st f fd ∧ mg x = some (.ref f) ∧ Binds K fd ps []
structure Cal (P : Program) (w : World) (K : PySem.W.Frag) (mg : Str → Option Value) (base : Heap) (k : Nat) (x : Str) (sp : Sp) : Prop where
  ex : ∃ (f : Addr) (fd : FuncData) (ps : List Str), FnOk P w K mg base CX0 k f fd ps sp ∧ mg x = some (.ref f) ∧ PySem.W.keepIn K (.ref f) = true ∧ Binds K fd ps []
theorem DefIn.ok {x : Str} {st : Stmt} {N ps : List Str} {k : Nat} {sp : Sp} (D : DefIn K mg x st ps) (S : FnScope N ps (defScope st)) (len : ∀ vs H Q E, sp vs H Q E → vs.length = ps.length)
    (hbody : ∀ (f : Addr) (cdv : Value) (A : Around) (outer : List Env) (s : Shared) (H : Hp) (vs : List V) (Q : VK) (E : XK), Room k (A.deeper (envOfC x (defScope st) s.heap.objs.size f cdv)) → sp vs H Q E →
      ∃ t, PSs (cxOf CX0 P w K mg base N x (defScope st) f cdv A outer s H E).nox (defBody st) t ∧ t { nx := fun _ H' => Q .non H', rt := Q } (start N vs) H) : Cal P w K mg base (k + 1) x sp := by
  obtain ⟨f, fd, F, hm, b⟩ := D.ex
  exact ⟨f, fd, ps, F.ok S len (fun cdv A outer s H vs Q E hr h => hbody f cdv A outer s H vs Q E hr h), hm, F.kp, b⟩
end
section
variable {X : Cx} {k j : Nat} {x : Str} {sp : Sp} {p pos : Pos} {e : Expr} {es : List Expr} {t : TA}
theorem vx_call (c : Cal X.prog X.w X.K X.mg X.base k x sp) (hr : Room j X.A) (hk : k ≤ j) (hg : Gl X x) (ha : PA X (e :: es) t)
    (hdb : (x == ("__debug__" : Str)) = false := by decide) (he : starEach (e :: es) X.env = (false, eval e X.env) :: starEach es X.env := by rfl) (hpl : (backTo pos (starEach es X.env)).any (·.1) = false := by rfl) :
    PE X (.Call (.Name x p) (e :: es) [] pos) (tCall sp [] E0 t) := by
  obtain ⟨f, fd, ps, F, hm, kp, b⟩ := c.ex
  exact pe_call F (hr.mono hk) hg hm kp b .nil pass0 ha hdb he hpl
end
end Vx

namespace Vx
open PySem PySem.Spec PyProof.Rows L2
section
variable {σ : L2.St} {H : Hp} {ta tb : TE} {x y z : V} {t : TT}
theorem vv_and {a b : Bool} (h1 : Val ta σ H (.bl a)) (h2 : Val tb σ H (.bl b)) : Val (tAndV ta tb) σ H (.bl (a && b)) := fun Q q => h1 _ ⟨a, rfl, by
  cases a with
  | true => exact iteT (h2 Q q)
  | false => exact iteF q⟩
theorem vv_or {a b : Bool} (h1 : Val ta σ H (.bl a)) (h2 : Val tb σ H (.bl b)) : Val (tOrV ta tb) σ H (.bl (a || b)) := fun Q q => h1 _ ⟨a, rfl, by
  cases a with
  | true => exact iteT q
  | false => exact iteF (h2 Q q)⟩
theorem vv_not {a : Bool} (h1 : Val ta σ H (.bl a)) : Val (tNotV ta) σ H (.bl (!a)) := fun Q q => h1 _ ⟨a, rfl, q⟩
theorem vv_un {r : V → Hp → VK → Prop} (ha : Val ta σ H x) (hr : ∀ Q : VK, Q z H → r x H Q) : Val (tUn r ta) σ H z := fun Q q => ha _ (hr Q q)
theorem vv_cmp {p : Int → Int → Bool} (ha : Val ta σ H x) (hb : Val tb σ H y) (hr : ∀ Q : VK, Q z H → ∃ i j, x = .int i ∧ y = .int j ∧ Q (.bl (p i j)) H) : Val (tCmp p ta tb) σ H z := fun Q q => ha _ (hb _ (hr Q q))
theorem vv_call1 {r : List V → Hp → VK → Prop} (ha : Val ta σ H x) (hr : ∀ Q : VK, Q z H → r [x] H Q) : Val (tCB r (tCons ta tNil)) σ H z := fun Q q => ha _ (hr Q q)
theorem vt_cmp {b : Bool} (h : Val ta σ H (.bl b)) : Ans (tB ta) σ H b := fun Q q => h _ ⟨b, rfl, q⟩
theorem vt_val {b : Bool} (h : Val ta σ H (.bl b)) : Ans (tB ta) σ H b := fun Q q => h _ ⟨b, rfl, q⟩
theorem vt_int {i : Int} {K : PySem.W.Frag} (h : Val ta σ H (.int i)) : Ans (fun σ H Q => ta σ H fun x H' => ∃ k, TruV K x H' k ∧ Q k H') σ H (i != 0) := fun Q q => h _ ⟨_, rfl, q⟩
theorem vv_if {p : Prop} [Decidable p] {a b : Int} (ht : Ans t σ H (decide p)) (hx : Val ta σ H (.int a)) (hy : Val tb σ H (.int b)) : Val (tIf t ta tb) σ H (.int (if p then a else b)) := fun Q q => ht _ (by
  by_cases h : p
  · rw [if_pos h] at q; exact iteDT h (hx Q q)
  · rw [if_neg h] at q; exact iteDF h (hy Q q))
theorem vv_ifb {c : Bool} {a b : Int} (ht : Ans t σ H c) (hx : Val ta σ H (.int a)) (hy : Val tb σ H (.int b)) : Val (tIf t ta tb) σ H (.int (if c = true then a else b)) := fun Q q => ht _ (by
  cases c with
  | true => exact iteT (hx Q q)
  | false => exact iteF (hy Q q))
end
end Vx

namespace Vx
open PySem PySem.Spec PyProof.Rows L2
def rLenLi (K : PySem.W.Frag) : List V → Hp → VK → Prop := fun xs H Q => ∃ (p : Addr) (ns : List Int), xs = [.ref p] ∧ SqL K H p (ns.map V.int) ∧ Q (.int (ns.length : Int)) H
theorem call_lenLi {X : Cx} : CallR X (.builtin "len") (rLenLi X.K) := by
  intro pins s σ H xs us Q I r h
  obtain ⟨p, ns, rfl, hs, q⟩ := h
  exact call_len_seq pins s σ H _ us Q I r ⟨p, _, rfl, Or.inl hs, by rw [List.length_map]; exact q⟩
end Vx

namespace Vx
open PySem PySem.Spec PyProof.Rows L2
section
variable {X : Cx} {K : PySem.W.Frag}
theorem ix_listK (hK : X.K = K := by rfl) : IxR X (rIxL K) := hK ▸ ix_list
theorem sl_listK (hK : X.K = K := by rfl) : SlR X (rSlL K) := hK ▸ sl_list
theorem call_lenLiK (hK : X.K = K := by rfl) : CallR X (.builtin "len") (rLenLi K) := hK ▸ call_lenLi
theorem op_eqLiK (hu : X.A.units + 64 < cLine) (hK : X.K = K := by rfl) : OpR X (compareOp .Eq) (rEqLi K) := hK ▸ op_eqLi hu
theorem op_neLiK (hu : X.A.units + 64 < cLine) (hK : X.K = K := by rfl) : OpR X (compareOp .NotEq) (rNeLi K) := hK ▸ op_neLi hu
theorem pi_listK {tg l : Expr} {tl : TE} (hl : PE X l tl) (hK : X.K = K := by rfl) : PI X tg l (iList K tl) := hK ▸ pi_list hl
theorem cr_sumK (hc : X.calm = true) (hK : X.K = K := by rfl) : CallR X (.builtin "sum") (rSum K) := hK ▸ cr_sum hc
theorem cr_maxK (hc : X.calm = true) (hK : X.K = K := by rfl) : CallR X (.builtin "max") (rMax K) := hK ▸ cr_max hc
theorem cr_minK (hc : X.calm = true) (hK : X.K = K := by rfl) : CallR X (.builtin "min") (rMin K) := hK ▸ cr_min hc
end
end Vx

namespace Vx
open PySem PySem.Spec PyProof.Rows L2
theorem tyes_go {σ : L2.St} {H : Hp} {f g : Hp → Prop} (h : f H) : tYes σ H (fun b H3 => if b = true then f H3 else g H3) := by
  show if true = true then f H else g H
  exact iteT h
end Vx

/-! # second part: data of any depth, the stable heap G, the owned addresses O -/
namespace Vx
open PySem PySem.Spec PyProof.Rows L2
mutual
inductive Rp (H : Hp) : V → PyData → Prop
  | non : Rp H .non .none
  | bl (b : Bool) : Rp H (.bl b) (.bool b)
  | int (i : Int) : Rp H (.int i) (.int i)
  | str (x : Str) : Rp H (.str x) (.str x)
  | lst {a : Addr} {xs : List V} {ds : List PyData} : H a = some (.lst xs) → RpAll H xs ds → Rp H (.ref a) (.list ds)
  | tup {a : Addr} {xs : List V} {ds : List PyData} : H a = some (.tup xs) → RpAll H xs ds → Rp H (.ref a) (.tuple ds)
inductive RpAll (H : Hp) : List V → List PyData → Prop
  | nil : RpAll H [] []
  | cons {v : V} {vs : List V} {d : PyData} {ds : List PyData} : Rp H v d → RpAll H vs ds → RpAll H (v :: vs) (d :: ds)
end
mutual
theorem Rp.mono {H H' : Hp} (e : Same H H') : ∀ {v : V} {d : PyData}, Rp H v d → Rp H' v d
  | _, _, .non => .non
  | _, _, .bl b => .bl b
  | _, _, .int i => .int i
  | _, _, .str x => .str x
  | _, _, .lst h r => .lst (e _ _ h) (RpAll.mono e r)
  | _, _, .tup h r => .tup (e _ _ h) (RpAll.mono e r)
theorem RpAll.mono {H H' : Hp} (e : Same H H') : ∀ {vs : List V} {ds : List PyData}, RpAll H vs ds → RpAll H' vs ds
  | _, _, .nil => .nil
  | _, _, .cons a b => .cons (Rp.mono e a) (RpAll.mono e b)
end
mutual
theorem Rp.dp {K : PySem.W.Frag} {H : Hp} : ∀ {v : V} {d : PyData}, Rp H v d → Dp K H v d
  | _, _, .non => .non
  | _, _, .bl b => .bl b
  | _, _, .int i => .int i
  | _, _, .str x => .str x
  | _, _, .lst h r => .lst (SqL.of h) (RpAll.dp r)
  | _, _, .tup h r => .tup (SqT.of h) (RpAll.dp r)
theorem RpAll.dp {K : PySem.W.Frag} {H : Hp} : ∀ {vs : List V} {ds : List PyData}, RpAll H vs ds → DpAll K H vs ds
  | _, _, .nil => .nil
  | _, _, .cons a b => .cons (Rp.dp a) (RpAll.dp b)
end
theorem RpAll.append {H : Hp} : ∀ {xs ys : List V} {ds es : List PyData}, RpAll H xs ds → RpAll H ys es → RpAll H (xs ++ ys) (ds ++ es)
  | _, _, _, _, .nil, s => s
  | _, _, _, _, .cons r t, s => .cons r (RpAll.append t s)
theorem RpAll.ints {H : Hp} : ∀ xs : List Int, RpAll H (xs.map V.int) (xs.map PyData.int)
  | [] => .nil
  | x :: xs => .cons (.int x) (RpAll.ints xs)
theorem RpAll.bls {H : Hp} : ∀ xs : List Bool, RpAll H (xs.map V.bl) (xs.map PyData.bool)
  | [] => .nil
  | x :: xs => .cons (.bl x) (RpAll.bls xs)
theorem RpAll.one {H : Hp} {v : V} {d : PyData} (h : Rp H v d) : RpAll H [v] [d] := .cons h .nil
theorem RpAll.len {H : Hp} : ∀ {vs : List V} {ds : List PyData}, RpAll H vs ds → vs.length = ds.length
  | _, _, .nil => rfl
  | _, _, .cons _ t => by rw [List.length_cons, List.length_cons, RpAll.len t]
theorem RpAll.at {H : Hp} : ∀ {vs : List V} {ds : List PyData} {i : Nat} {v : V}, RpAll H vs ds → vs[i]? = some v → ∃ d, ds[i]? = some d ∧ Rp H v d
  | _, _, _, _, .nil, h => by simp at h
  | _, _, 0, _, .cons r _, h => by
    simp at h
    subst h
    exact ⟨_, rfl, r⟩
  | _, _, i + 1, _, .cons _ t, h => by
    obtain ⟨d, h1, h2⟩ := RpAll.at (i := i) t (by simpa using h)
    exact ⟨d, by simpa using h1, h2⟩
theorem RpAll.at' {H : Hp} : ∀ {vs : List V} {ds : List PyData} {i : Nat} {d : PyData}, RpAll H vs ds → ds[i]? = some d → ∃ v, vs[i]? = some v ∧ Rp H v d
  | _, _, _, _, .nil, h => by simp at h
  | _, _, 0, _, .cons r _, h => by
    simp at h
    subst h
    exact ⟨_, rfl, r⟩
  | _, _, i + 1, _, .cons _ t, h => by
    obtain ⟨v, h1, h2⟩ := RpAll.at' (i := i) t (by simpa using h)
    exact ⟨v, by simpa using h1, h2⟩
theorem RpAll.take {H : Hp} : ∀ (n : Nat) {vs : List V} {ds : List PyData}, RpAll H vs ds → RpAll H (vs.take n) (ds.take n)
  | 0, _, _, _ => by simpa using RpAll.nil
  | n + 1, _, _, .nil => by simpa using RpAll.nil
  | n + 1, _, _, .cons r t => .cons r (RpAll.take n t)
theorem RpAll.drop {H : Hp} : ∀ (n : Nat) {vs : List V} {ds : List PyData}, RpAll H vs ds → RpAll H (vs.drop n) (ds.drop n)
  | 0, _, _, r => r
  | n + 1, _, _, .nil => by simpa using RpAll.nil
  | n + 1, _, _, .cons r t => RpAll.drop n t
theorem RpAll.set {H : Hp} {v : V} {d : PyData} (h : Rp H v d) : ∀ (n : Nat) {vs : List V} {ds : List PyData}, RpAll H vs ds → RpAll H (vs.set n v) (ds.set n d)
  | _, _, _, .nil => .nil
  | 0, _, _, .cons _ t => .cons h t
  | n + 1, _, _, .cons r t => .cons r (RpAll.set h n t)
theorem RpAll.rep {H : Hp} {vs : List V} {ds : List PyData} (h : RpAll H vs ds) : ∀ n : Nat, RpAll H (List.replicate n vs).flatten (List.replicate n ds).flatten
  | 0 => by simpa using RpAll.nil
  | n + 1 => by
    rw [List.replicate_succ, List.flatten_cons, List.replicate_succ, List.flatten_cons]
    exact RpAll.append h (RpAll.rep h n)
theorem RpAll.get {α : Type} {f : α → PyData} {H : Hp} {vs : List V} {xs : List α} {i : Nat} {v : V} (r : RpAll H vs (xs.map f)) (h : vs[i]? = some v) : ∃ x, xs[i]? = some x ∧ Rp H v (f x) := by
  obtain ⟨d, h1, h2⟩ := RpAll.at r h
  rw [List.getElem?_map] at h1
  cases e : xs[i]? with
  | none => rw [e] at h1; cases h1
  | some x =>
    rw [e] at h1
    have : f x = d := Option.some.inj h1
    exact ⟨x, rfl, this ▸ h2⟩
/-- the item at an index, data -/
theorem RpAll.ix {α : Type} {f : α → PyData} {H : Hp} {vs : List V} {xs : List α} {k : Int} (r : RpAll H vs (xs.map f)) (h : -(xs.length : Int) ≤ k ∧ k < xs.length) : ∃ v x, atI vs k = some v ∧ atI xs k = some x ∧ Rp H v (f x) := by
  have hl : vs.length = xs.length := by rw [r.len, List.length_map]
  have hk : ∃ j, ixN xs.length k = some j ∧ j < xs.length := by
    unfold ixN
    by_cases h0 : 0 ≤ k
    · refine ⟨k.toNat, ?_, by omega⟩
      rw [if_pos h0, if_pos h.2]
    · refine ⟨(k + xs.length).toNat, ?_, by omega⟩
      rw [if_neg h0, if_pos h.1]
  obtain ⟨j, e, hj⟩ := hk
  have hx := List.getElem?_eq_getElem hj
  obtain ⟨v, h1, h2⟩ := RpAll.at' (i := j) (d := f xs[j]) r (by rw [List.getElem?_map, hx] <;> rfl)
  refine ⟨v, xs[j], ?_, ?_, h2⟩
  · unfold atI
    rw [hl, e]
    exact h1
  · unfold atI
    rw [e]
    exact hx

/-! ### types -/
def encL {α : Type} (f : α → PyData) (xs : List α) : PyData := .list (xs.map f)
def encT2 {α β : Type} (f : α → PyData) (g : β → PyData) (p : α × β) : PyData := .tuple [f p.1, g p.2]
def encT3 {α β γ : Type} (f : α → PyData) (g : β → PyData) (h : γ → PyData) (p : α × β × γ) : PyData := .tuple [f p.1, g p.2.1, h p.2.2]
def encT4 {α β γ δ : Type} (f : α → PyData) (g : β → PyData) (h : γ → PyData) (i : δ → PyData) (p : α × β × γ × δ) : PyData := .tuple [f p.1, g p.2.1, h p.2.2.1, i p.2.2.2]
structure EncOk {α : Type} [DecidableEq α] (n : Nat) (f : α → PyData) : Prop where
  lay : ∀ x, PyData.canLay0 (f x) = true
  dep : ∀ x, PyData.depth (f x) ≤ n
  eqv : ∀ x y, PyData.eqv (f x) (f y) = decide (x = y)
theorem encOk_int : EncOk 0 PyData.int := ⟨fun _ => by simp [PyData.canLay0], fun _ => by simp [PyData.depth], fun x y => by simp [PyData.eqv]; by_cases h : x = y <;> simp [h]⟩
theorem encOk_bool : EncOk 0 PyData.bool := ⟨fun _ => by simp [PyData.canLay0], fun _ => by simp [PyData.depth], fun x y => by cases x <;> cases y <;> simp [PyData.eqv]⟩
section
variable {α β γ δ : Type} [DecidableEq α] [DecidableEq β] [DecidableEq γ] [DecidableEq δ] {n m l o : Nat} {f : α → PyData} {g : β → PyData} {h : γ → PyData} {i : δ → PyData}
theorem lay_map (ok : EncOk n f) : ∀ xs : List α, PyData.canLayAll0 (xs.map f) = true
  | [] => by simp [PyData.canLayAll0]
  | x :: xs => by simp [PyData.canLayAll0, ok.lay x, lay_map ok xs]
theorem dep_map (ok : EncOk n f) : ∀ xs : List α, PyData.depthAll (xs.map f) ≤ n
  | [] => by simp [PyData.depthAll]
  | x :: xs => by
    have h1 := ok.dep x
    have h2 := dep_map ok xs
    simp only [List.map_cons, PyData.depthAll]
    omega
theorem eqv_map (ok : EncOk n f) : ∀ xs ys : List α, PyData.eqvAll (xs.map f) (ys.map f) = decide (xs = ys)
  | [], [] => by simp [PyData.eqvAll]
  | [], y :: ys => by simp [PyData.eqvAll]
  | x :: xs, [] => by simp [PyData.eqvAll]
  | x :: xs, y :: ys => by
    have ih := eqv_map ok xs ys
    simp only [List.map_cons, PyData.eqvAll, ok.eqv, ih]
    by_cases h : x = y <;> by_cases h2 : xs = ys <;> simp [h, h2]
theorem encOk_L (ok : EncOk n f) : EncOk (n + 1) (encL f) := ⟨fun xs => by simp [encL, PyData.canLay0, lay_map ok], fun xs => by
  have := dep_map ok xs
  simp only [encL, PyData.depth]
  omega, fun xs ys => by simp only [encL, PyData.eqv]; exact eqv_map ok xs ys⟩
theorem encOk_T2 (ok : EncOk n f) (ok2 : EncOk m g) : EncOk (max n m + 1) (encT2 f g) := ⟨fun x => by simp [encT2, PyData.canLay0, PyData.canLayAll0, ok.lay, ok2.lay], fun x => by
  have h1 := ok.dep x.1
  have h2 := ok2.dep x.2
  simp only [encT2, PyData.depth, PyData.depthAll]
  omega, fun x y => by
  obtain ⟨a, b⟩ := x
  obtain ⟨c, d⟩ := y
  simp only [encT2, PyData.eqv, PyData.eqvAll, ok.eqv, ok2.eqv, Prod.mk.injEq]
  by_cases h1 : a = c <;> by_cases h2 : b = d <;> simp [h1, h2]⟩
theorem encOk_T3 (ok : EncOk n f) (ok2 : EncOk m g) (ok3 : EncOk l h) : EncOk (max n (max m l) + 1) (encT3 f g h) := ⟨fun x => by simp [encT3, PyData.canLay0, PyData.canLayAll0, ok.lay, ok2.lay, ok3.lay], fun x => by
  have h1 := ok.dep x.1
  have h2 := ok2.dep x.2.1
  have h3 := ok3.dep x.2.2
  simp only [encT3, PyData.depth, PyData.depthAll]
  omega, fun x y => by
  obtain ⟨a, b, e⟩ := x
  obtain ⟨c, d, e'⟩ := y
  simp only [encT3, PyData.eqv, PyData.eqvAll, ok.eqv, ok2.eqv, ok3.eqv, Prod.mk.injEq]
  by_cases h1 : a = c <;> by_cases h2 : b = d <;> by_cases h3 : e = e' <;> simp [h1, h2, h3]⟩
theorem encOk_T4 (ok : EncOk n f) (ok2 : EncOk m g) (ok3 : EncOk l h) (ok4 : EncOk o i) : EncOk (max n (max m (max l o)) + 1) (encT4 f g h i) := ⟨fun x => by simp [encT4, PyData.canLay0, PyData.canLayAll0, ok.lay, ok2.lay, ok3.lay, ok4.lay], fun x => by
  have h1 := ok.dep x.1
  have h2 := ok2.dep x.2.1
  have h3 := ok3.dep x.2.2.1
  have h4 := ok4.dep x.2.2.2
  simp only [encT4, PyData.depth, PyData.depthAll]
  omega, fun x y => by
  obtain ⟨a, b, e, u⟩ := x
  obtain ⟨c, d, e', u'⟩ := y
  simp only [encT4, PyData.eqv, PyData.eqvAll, ok.eqv, ok2.eqv, ok3.eqv, ok4.eqv, Prod.mk.injEq]
  by_cases h1 : a = c <;> by_cases h2 : b = d <;> by_cases h3 : e = e' <;> by_cases h4 : u = u' <;> simp [h1, h2, h3, h4]⟩
end
section
variable {X : Cx} {α : Type} [DecidableEq α] {n : Nat} {f : α → PyData}
def rEqT (f : α → PyData) : R2 := fun x y H Q => ∃ (a b : α), Rp H x (f a) ∧ Rp H y (f b) ∧ Q (.bl (decide (a = b))) H
def rNeT (f : α → PyData) : R2 := fun x y H Q => ∃ (a b : α), Rp H x (f a) ∧ Rp H y (f b) ∧ Q (.bl (!decide (a = b))) H
theorem shaped_of (ok : EncOk n f) (hn : n ≤ 64) (a : α) : SeqAt.shaped (f a) = true := by
  unfold SeqAt.shaped
  have h := ok.dep a
  rw [ok.lay]
  simp
  omega
theorem op_eqT (ok : EncOk n f) (hu : X.A.units + 64 < cLine) (hn : n ≤ 64 := by decide) : OpR X (compareOp .Eq) (rEqT f) := by
  intro pins s σ H x y v u Q I rx ry h
  obtain ⟨a, b, h1, h2, q⟩ := h
  exact op_eqD hu pins s σ H _ _ v u Q I rx ry ⟨_, _, h1.dp, h2.dp, shaped_of ok hn a, shaped_of ok hn b, by rw [ok.eqv]; exact q⟩
theorem op_neT (ok : EncOk n f) (hu : X.A.units + 64 < cLine) (hn : n ≤ 64 := by decide) : OpR X (compareOp .NotEq) (rNeT f) := by
  intro pins s σ H x y v u Q I rx ry h
  obtain ⟨a, b, h1, h2, q⟩ := h
  exact op_neD hu pins s σ H _ _ v u Q I rx ry ⟨_, _, h1.dp, h2.dp, shaped_of ok hn a, shaped_of ok hn b, by rw [ok.eqv]; exact q⟩
end
section
variable {H : Hp} {v : V} {α β γ δ : Type} {f : α → PyData} {g : β → PyData} {h : γ → PyData} {i : δ → PyData}
theorem rp_int {x : Int} (r : Rp H v (.int x)) : v = .int x := by cases r; rfl
theorem rp_bool {x : Bool} (r : Rp H v (.bool x)) : v = .bl x := by cases r; rfl
theorem rp_str {x : Str} (r : Rp H v (.str x)) : v = .str x := by cases r; rfl
theorem rp_list {xs : List α} (r : Rp H v (encL f xs)) : ∃ a vs, v = .ref a ∧ H a = some (.lst vs) ∧ RpAll H vs (xs.map f) := by
  unfold encL at r
  cases r with
  | lst h1 h2 => exact ⟨_, _, rfl, h1, h2⟩
theorem rpAll_ints : ∀ {vs : List V} {xs : List Int}, RpAll H vs (xs.map PyData.int) → vs = xs.map V.int
  | _, [], .nil => rfl
  | _, x :: xs, .cons r t => by rw [rp_int r, rpAll_ints t] <;> rfl
theorem rp_ints {xs : List Int} (r : Rp H v (encL PyData.int xs)) : ∃ a, v = .ref a ∧ H a = some (.lst (xs.map V.int)) := by
  obtain ⟨a, vs, e, h1, h2⟩ := rp_list r
  rw [rpAll_ints h2] at h1
  exact ⟨a, e, h1⟩
theorem rp_tup2 {x : α × β} (r : Rp H v (encT2 f g x)) : ∃ a v1 v2, v = .ref a ∧ H a = some (.tup [v1, v2]) ∧ Rp H v1 (f x.1) ∧ Rp H v2 (g x.2) := by
  unfold encT2 at r
  cases r with
  | tup h1 h2 =>
    cases h2 with
    | cons a b =>
      cases b with
      | cons b c =>
        cases c
        exact ⟨_, _, _, rfl, h1, a, b⟩
theorem rp_tup3 {x : α × β × γ} (r : Rp H v (encT3 f g h x)) : ∃ a v1 v2 v3, v = .ref a ∧ H a = some (.tup [v1, v2, v3]) ∧ Rp H v1 (f x.1) ∧ Rp H v2 (g x.2.1) ∧ Rp H v3 (h x.2.2) := by
  unfold encT3 at r
  cases r with
  | tup h1 h2 =>
    cases h2 with
    | cons a b =>
      cases b with
      | cons b c =>
        cases c with
        | cons c d =>
          cases d
          exact ⟨_, _, _, _, rfl, h1, a, b, c⟩
theorem rp_mk_list {a : Addr} {vs : List V} {xs : List α} (h1 : H a = some (.lst vs)) (h2 : RpAll H vs (xs.map f)) : Rp H (.ref a) (encL f xs) := .lst h1 h2
theorem rp_mk_ints {a : Addr} {xs : List Int} (h1 : H a = some (.lst (xs.map V.int))) : Rp H (.ref a) (encL PyData.int xs) := .lst h1 (RpAll.ints xs)
theorem rp_mk2 {a : Addr} {v1 v2 : V} {x : α} {y : β} (h1 : H a = some (.tup [v1, v2])) (r1 : Rp H v1 (f x)) (r2 : Rp H v2 (g y)) : Rp H (.ref a) (encT2 f g (x, y)) := .tup h1 (.cons r1 (.cons r2 .nil))
theorem rp_mk3 {a : Addr} {v1 v2 v3 : V} {x : α} {y : β} {z : γ} (h1 : H a = some (.tup [v1, v2, v3])) (r1 : Rp H v1 (f x)) (r2 : Rp H v2 (g y)) (r3 : Rp H v3 (h z)) : Rp H (.ref a) (encT3 f g h (x, y, z)) := .tup h1 (.cons r1 (.cons r2 (.cons r3 .nil)))
end

/-! ### the two heaps -/
def SameXs (L : List Addr) (H H' : Hp) : Prop := ∀ b o, H b = some o → b ∉ L → H' b = some o
theorem SameXs.of {H H' : Hp} {m : Addr} (x : SameX m H H') : SameXs [m] H H' := fun b o e n => x b o e (fun z => n (by rw [z]; exact List.mem_cons_self))
theorem ni1 {b m : Addr} (h : b ≠ m) : b ∉ [m] := by simpa using h
theorem ni2 {b m n : Addr} (h : b ≠ m) (h2 : b ≠ n) : b ∉ [m, n] := by simp [h, h2]
theorem ni3 {b m n o : Addr} (h : b ≠ m) (h2 : b ≠ n) (h3 : b ≠ o) : b ∉ [m, n, o] := by simp [h, h2, h3]
theorem ni4 {b m n o p : Addr} (h : b ≠ m) (h2 : b ≠ n) (h3 : b ≠ o) (h4 : b ≠ p) : b ∉ [m, n, o, p] := by simp [h, h2, h3, h4]
def hideL (L : List Addr) (H : Hp) : Hp := fun b => if b ∈ L then none else H b
theorem hideL_same (L : List Addr) (H : Hp) : Same (hideL L H) H := fun b o e => by
  unfold hideL at e
  split at e
  · cases e
  · exact e
theorem hideL_in {L : List Addr} {H : Hp} {b : Addr} (h : b ∈ L) : hideL L H b = none := if_pos h
theorem hideL_out {L : List Addr} {H : Hp} {b : Addr} (h : b ∉ L) : hideL L H b = H b := if_neg h
/-- M: owned from outside; H0, G0: at the entry; G: what stays as it is; O: what may change -/
structure Sep (M : List Addr) (H0 G0 G H : Hp) (O : List Addr) : Prop where
  base : SameXs M H0 H
  pm : ∀ a ∈ M, H a ≠ none
  sG : Same G H
  g0 : Same G0 G
  gn : ∀ b, H0 b ≠ none → G0 b = none → G b = none
  ow : ∀ a ∈ O, G a = none ∧ H a ≠ none ∧ (a ∈ M ∨ H0 a = none)
theorem all_nil {P : Addr → Prop} : ∀ x ∈ ([] : List Addr), P x := fun x h => by cases h
theorem all_cons {P : Addr → Prop} {a : Addr} {l : List Addr} (h : P a) (t : ∀ x ∈ l, P x) : ∀ x ∈ a :: l, P x := fun x hx => by
  cases hx with
  | head => exact h
  | tail _ hx => exact t x hx
theorem some_ne {H : Hp} {a : Addr} {o : HO} (h : H a = some o) : H a ≠ none := by
  rw [h]
  exact fun z => nomatch z
theorem same_ne {H H' : Hp} {a : Addr} (e : Same H H') (h : H a ≠ none) : H' a ≠ none := by
  cases q : H a with
  | none => exact absurd q h
  | some o => exact some_ne (e a o q)
section
variable {M : List Addr} {H0 G0 G H H' : Hp} {O : List Addr} {p m : Addr} {o : HO}
theorem Sep.start (M : List Addr) (H : Hp) (hM : ∀ a ∈ M, H a ≠ none) : Sep M H (hideL M H) (hideL M H) H M :=
  ⟨fun _ _ e _ => e, hM, hideL_same M H, Same.refl _, fun _ _ e => e, fun a ha => ⟨hideL_in ha, hM a ha, .inl ha⟩⟩
theorem Sep.startG {G H : Hp} (e : Same G H) : Sep [] H G G H [] := ⟨fun _ _ e _ => e, all_nil, e, Same.refl _, fun _ _ e => e, fun a ha => by cases ha⟩
theorem Sep.start0 (H : Hp) : Sep [] H H H H [] := Sep.startG (Same.refl H)
theorem Sep.b0 (S : Sep [] H0 G0 G H O) : Same H0 H := fun b o e => S.base b o e List.not_mem_nil
theorem Sep.free (S : Sep M H0 G0 G H O) {q : Addr} (n : H q = none) : H0 q = none := by
  cases e : H0 q with
  | none => rfl
  | some o =>
    by_cases h : q ∈ M
    · exact absurd n (S.pm q h)
    · rw [S.base q o e h] at n
      cases n
theorem Sep.same (S : Sep M H0 G0 G H O) (e : Same H H') : Sep M H0 G0 G H' O :=
  ⟨fun b o h n => e b o (S.base b o h n), fun a ha => same_ne e (S.pm a ha), S.sG.trans e, S.g0, S.gn, fun a ha => ⟨(S.ow a ha).1, same_ne e (S.ow a ha).2.1, (S.ow a ha).2.2⟩⟩
theorem Sep.gfree (S : Sep M H0 G0 G H O) {q : Addr} (n : H q = none) : G q = none := by
  cases e : G q with
  | none => rfl
  | some o => rw [S.sG q o e] at n; cases n
theorem Sep.new (S : Sep M H0 G0 G H O) (n : H p = none) (e : Same H H') (h : H' p = some o) (hm : H0 p = none) : Sep M H0 G0 G H' (p :: O) := by
  have S1 := S.same e
  refine ⟨S1.base, S1.pm, S1.sG, S1.g0, S1.gn, fun a ha => ?_⟩
  cases ha with
  | head => exact ⟨S.gfree n, some_ne h, .inr hm⟩
  | tail _ ha => exact S1.ow a ha
theorem Sep.grow (S : Sep M H0 G0 G H O) (n : H p = none) (e : Same H H') (h : H' p = some o) (hm : H0 p = none) : ∃ G', Same G G' ∧ G' p = some o ∧ Sep M H0 G0 G' H' O := by
  have S1 := S.same e
  have ng := S.gfree n
  refine ⟨upd G p o, fun b u q => by rw [upd_ne (ne_of_none q ng)]; exact q, upd_same, S1.base, S1.pm, fun b u q => ?_, fun b u q => ?_, fun b hb gb => ?_, fun a ha => ?_⟩
  · by_cases z : b = p
    · subst z
      rw [upd_same] at q
      exact q ▸ h
    · rw [upd_ne z] at q
      exact S1.sG b u q
  · have := S.g0 b u q
    rw [upd_ne (ne_of_none this ng)]
    exact this
  · by_cases z : b = p
    · subst z
      exact absurd hm hb
    · rw [upd_ne z]
      exact S.gn b hb gb
  · have hne : a ≠ p := fun z => (S.ow a ha).2.1 (by rw [z]; exact n)
    rw [upd_ne hne]
    exact S1.ow a ha
theorem Sep.mut (S : Sep M H0 G0 G H O) {L : List Addr} (x : SameXs L H H') (hL : ∀ a ∈ L, a ∈ O) (hs : ∀ a ∈ L, H' a ≠ none) : Sep M H0 G0 G H' O := by
  have keep : ∀ a, H a ≠ none → H' a ≠ none := fun a h => by
    by_cases hb : a ∈ L
    · exact hs a hb
    · cases q : H a with
      | none => exact absurd q h
      | some o => exact some_ne (x a o q hb)
  refine ⟨fun b o e n => ?_, fun a ha => keep a (S.pm a ha), fun b o e => ?_, S.g0, S.gn, fun a ha => ⟨(S.ow a ha).1, keep a (S.ow a ha).2.1, (S.ow a ha).2.2⟩⟩
  · refine x b o (S.base b o e n) fun hb => ?_
    rcases (S.ow b (hL b hb)).2.2 with z | z
    · exact n z
    · rw [e] at z; cases z
  · refine x b o (S.sG b o e) fun hb => ?_
    have := (S.ow b (hL b hb)).1
    rw [e] at this
    cases this
theorem Sep.mut1 (S : Sep M H0 G0 G H O) (x : SameX m H H') (hm : m ∈ O) (h : H' m = some o) : Sep M H0 G0 G H' O :=
  S.mut (SameXs.of x) (all_cons hm all_nil) (all_cons (some_ne h) all_nil)
theorem Sep.sub (S : Sep M H0 G0 G H O) {O' : List Addr} (h : ∀ a ∈ O', a ∈ O) : Sep M H0 G0 G H O' := ⟨S.base, S.pm, S.sG, S.g0, S.gn, fun a ha => S.ow a (h a ha)⟩
/-- what was owned and is to stay as it is from now on -/
theorem Sep.freeze (S : Sep M H0 G0 G H O) {O' : List Addr} (hp : p ∈ O) (h : H p = some o) (hm : H0 p = none) (hO : ∀ a ∈ O', a ∈ O ∧ a ≠ p) : ∃ G', Same G G' ∧ G' p = some o ∧ Sep M H0 G0 G' H O' := by
  have ng := (S.ow p hp).1
  refine ⟨upd G p o, fun b u q => by rw [upd_ne (ne_of_none q ng)]; exact q, upd_same, S.base, S.pm, fun b u q => ?_, fun b u q => ?_, fun b hb gb => ?_, fun a ha => ?_⟩
  · by_cases z : b = p
    · subst z
      rw [upd_same] at q
      exact q ▸ h
    · rw [upd_ne z] at q
      exact S.sG b u q
  · have := S.g0 b u q
    rw [upd_ne (ne_of_none this ng)]
    exact this
  · by_cases z : b = p
    · subst z
      exact absurd hm hb
    · rw [upd_ne z]
      exact S.gn b hb gb
  · rw [upd_ne (hO a ha).2]
    exact S.ow a (hO a ha).1
/-- a callee that hands on data in a stable heap of its own -/
theorem Sep.step (S : Sep M H0 G0 G H O) {G' : Hp} (e : Same H H') (eG : Same G G') (sG : Same G' H') (hn : ∀ b, H b ≠ none → G b = none → G' b = none) : Sep M H0 G0 G' H' O := by
  have S1 := S.same e
  refine ⟨S1.base, S1.pm, sG, S.g0.trans eG, fun b hb gb => ?_, fun a ha => ⟨hn a (S.ow a ha).2.1 (S.ow a ha).1, (S1.ow a ha).2⟩⟩
  refine hn b (fun z => ?_) (S.gn b hb gb)
  exact hb (S.free z)
theorem Sep.hid (S : Sep M H0 G0 G H O) {L : List Addr} (h : ∀ a ∈ L, a ∈ O) : Same G (hideL L H) := fun b o e => by
  rw [hideL_out fun z => by
    have := (S.ow b (h b z)).1
    rw [e] at this
    cases this]
  exact S.sG b o e
end
end Vx

namespace Vx
open PySem PySem.Spec PyProof.Rows L2
/-! ### lists of plain things (f : V.int, V.bl, V.str) -/
section
variable {α : Type} {f : α → V} {H : Hp} {p : Addr}
theorem cat_map {xs ys : List α} (h : H p = some (.lst (xs.map f ++ ys.map f))) : H p = some (.lst ((xs ++ ys).map f)) := by
  rw [List.map_append]; exact h
theorem snoc_map {xs : List α} {y : α} (h : H p = some (.lst (xs.map f ++ [f y]))) : H p = some (.lst ((xs ++ [y]).map f)) := by
  rw [List.map_append]; exact h
def repL (xs : List α) (k : Int) : List α := (List.replicate k.toNat xs).flatten
theorem rep_map {xs : List α} {k : Int} (h : H p = some (.lst (List.replicate k.toNat (xs.map f)).flatten)) : H p = some (.lst ((repL xs k).map f)) := by
  rw [h]
  unfold repL
  rw [List.map_flatten, List.map_replicate]
def cutL (xs : List α) (lo hi : Option Int) : List α := (xs.drop (HT.sIx xs.length 0 lo)).take (HT.sIx xs.length xs.length hi - HT.sIx xs.length 0 lo)
theorem cut_map {xs : List α} {lo hi : Option Int} (h : H p = some (.lst (cutV (xs.map f) lo hi))) : H p = some (.lst ((cutL xs lo hi).map f)) := by
  rw [h]
  unfold cutV cutL
  rw [List.length_map, List.map_take, List.map_drop]
theorem cast_map {xs ys : List α} (h : H p = some (.lst (xs.map f))) (e : xs = ys) : H p = some (.lst (ys.map f)) := e ▸ h
theorem drop_map {xs : List α} (h : H p = some (.lst (xs.map f).dropLast)) : H p = some (.lst (xs.dropLast.map f)) := by
  rw [h, List.map_dropLast]
theorem ixN_some {n : Nat} {k : Int} (h : -(n : Int) ≤ k ∧ k < n) : ∃ j, ixN n k = some j ∧ j < n := by
  unfold ixN
  by_cases h0 : 0 ≤ k
  · exact ⟨k.toNat, by rw [if_pos h0, if_pos h.2], by omega⟩
  · exact ⟨(k + n).toNat, by rw [if_neg h0, if_pos h.1], by omega⟩
def itD [Inhabited α] (xs : List α) (k : Int) : α := (atI xs k).getD default
theorem atI_map [Inhabited α] {xs : List α} {k : Int} (h : -(xs.length : Int) ≤ k ∧ k < xs.length) : atI (xs.map f) k = some (f (itD xs k)) := by
  obtain ⟨j, e, hj⟩ := ixN_some h
  unfold itD atI
  rw [List.length_map, e]
  show (xs.map f)[j]? = some (f ((xs[j]?).getD default))
  rw [List.getElem?_map, List.getElem?_eq_getElem hj] <;> rfl
def setL (xs : List α) (k : Int) (y : α) : List α := xs.set ((ixN xs.length k).getD 0) y
theorem ixN_map {xs : List α} {k : Int} (h : -(xs.length : Int) ≤ k ∧ k < xs.length) : ixN (xs.map f).length k = some ((ixN xs.length k).getD 0) := by
  obtain ⟨j, e, hj⟩ := ixN_some h
  rw [List.length_map, e] <;> rfl
theorem set_map {xs : List α} {k : Int} {y : α} (h : H p = some (.lst ((xs.map f).set ((ixN xs.length k).getD 0) (f y)))) : H p = some (.lst ((setL xs k y).map f)) := by
  rw [h]
  unfold setL
  rw [List.map_set]
def lastD [Inhabited α] (xs : List α) : α := xs.getLastD default
theorem pop_map [Inhabited α] {xs : List α} (h : xs ≠ []) : (xs.map f)[(xs.map f).length - 1]? = some (f (lastD xs)) := by
  rw [← List.getLast?_eq_getElem?, List.getLast?_map]
  unfold lastD
  cases e : xs.getLast? with
  | none => exact absurd (List.getLast?_eq_none_iff.mp e) h
  | some y =>
    rw [List.getLastD_eq_getLast?, e] <;> rfl
end
/-! ### lists of data -/
section
variable {α β : Type} {f : α → PyData} {g : β → PyData} {G : Hp} {vs ws : List V} {xs ys : List α}
theorem app_map (a : RpAll G vs (xs.map f)) (b : RpAll G ws (ys.map f)) : RpAll G (vs ++ ws) ((xs ++ ys).map f) := by
  rw [List.map_append]; exact a.append b
theorem one_map {v : V} {y : α} (a : RpAll G vs (xs.map f)) (b : Rp G v (f y)) : RpAll G (vs ++ [v]) ((xs ++ [y]).map f) := by
  rw [List.map_append]; exact a.append (.one b)
theorem rep_all (k : Int) (a : RpAll G vs (xs.map f)) : RpAll G (List.replicate k.toNat vs).flatten ((repL xs k).map f) := by
  unfold repL
  rw [List.map_flatten, List.map_replicate]
  exact a.rep _
theorem cut_all (lo hi : Option Int) (a : RpAll G vs (xs.map f)) : RpAll G (cutV vs lo hi) ((cutL xs lo hi).map f) := by
  unfold cutV cutL
  rw [a.len, List.length_map, List.map_take, List.map_drop]
  exact (a.drop _).take _
theorem rp_cast {v : V} {d e : PyData} (r : Rp G v d) (h : d = e) : Rp G v e := h ▸ r
theorem comp_listD {i : Nat} {x : α} {y : β} {v : V} {h : α → β} (hi : xs[i]? = some x) (a : RpAll G vs (((xs.take i).map h).map g)) (r : Rp G v (g y)) (e : h x = y) : RpAll G (vs ++ [v]) (((xs.take (i + 1)).map h).map g) := by
  rw [take_succ_get hi, List.map_append, List.map_append]
  exact a.append (.one (e ▸ r))
theorem comp_rangeD {i : Nat} {y : β} {v : V} {h : Nat → β} (a : RpAll G vs (((List.range i).map h).map g)) (r : Rp G v (g y)) (e : h i = y) : RpAll G (vs ++ [v]) (((List.range (i + 1)).map h).map g) := by
  rw [List.range_succ, List.map_append, List.map_append]
  exact a.append (.one (e ▸ r))
theorem comp_doneD {n : Nat} {h : List α → List β} (hl : n = xs.length) (a : RpAll G vs ((h (xs.take n)).map g)) : RpAll G vs ((h xs).map g) := by
  rw [hl, List.take_length] at a
  exact a
theorem comp_listFD {i : Nat} {x : α} {y : β} {v : V} {h : α → β} {q : α → Bool} (hi : xs[i]? = some x) (hq : q x = true) (a : RpAll G vs ((((xs.take i).filter q).map h).map g)) (r : Rp G v (g y)) (e : h x = y) : RpAll G (vs ++ [v]) ((((xs.take (i + 1)).filter q).map h).map g) := by
  rw [take_succ_get hi, List.filter_append, List.filter_cons, if_pos hq, List.map_append, List.map_append]
  exact a.append (.one (e ▸ r))
theorem skip_listD {i : Nat} {x : α} {h : α → β} {q : α → Bool} (hi : xs[i]? = some x) (hq : q x = false) (a : RpAll G vs ((((xs.take i).filter q).map h).map g)) : RpAll G vs ((((xs.take (i + 1)).filter q).map h).map g) := by
  rw [take_succ_get hi, List.filter_append, List.filter_cons, if_neg (by rw [hq]; decide), List.filter_nil, List.append_nil]
  exact a
end
section
variable {α β : Type} {f : β → V} {H : Hp} {D : Addr} {xs : List α}
theorem compM_list {i : Nat} {x : α} {y : β} {h : α → β} (hi : xs[i]? = some x) (a : H D = some (.lst (((xs.take i).map h).map f ++ [f y]))) (e : h x = y) : H D = some (.lst (((xs.take (i + 1)).map h).map f)) := by
  rw [a, ← e, take_succ_get hi, List.map_append, List.map_append] <;> rfl
theorem compM_range {i : Nat} {y : β} {h : Nat → β} (a : H D = some (.lst (((List.range i).map h).map f ++ [f y]))) (e : h i = y) : H D = some (.lst (((List.range (i + 1)).map h).map f)) := by
  rw [a, ← e, List.range_succ, List.map_append, List.map_append] <;> rfl
theorem compM_done {n : Nat} {h : List α → List β} (hl : n = xs.length) (a : H D = some (.lst ((h (xs.take n)).map f))) : H D = some (.lst ((h xs).map f)) := by
  rw [hl, List.take_length] at a
  exact a
theorem compM_listF {i : Nat} {x : α} {y : β} {h : α → β} {q : α → Bool} (hi : xs[i]? = some x) (hq : q x = true) (a : H D = some (.lst ((((xs.take i).filter q).map h).map f ++ [f y]))) (e : h x = y) : H D = some (.lst ((((xs.take (i + 1)).filter q).map h).map f)) := by
  rw [a, ← e, take_succ_get hi, List.filter_append, List.filter_cons, if_pos hq, List.map_append, List.map_append] <;> rfl
theorem skipM_list {i : Nat} {x : α} {h : α → β} {q : α → Bool} (hi : xs[i]? = some x) (hq : q x = false) (a : H D = some (.lst ((((xs.take i).filter q).map h).map f))) : H D = some (.lst ((((xs.take (i + 1)).filter q).map h).map f)) := by
  rw [a, take_succ_get hi, List.filter_append, List.filter_cons, if_neg (by rw [hq]; decide), List.filter_nil, List.append_nil]
theorem compM_rangeF {i : Nat} {y : β} {h : Nat → β} {q : Nat → Bool} (hq : q i = true) (a : H D = some (.lst ((((List.range i).filter q).map h).map f ++ [f y]))) (e : h i = y) : H D = some (.lst ((((List.range (i + 1)).filter q).map h).map f)) := by
  rw [a, ← e, List.range_succ, List.filter_append, List.filter_cons, if_pos hq, List.map_append, List.map_append] <;> rfl
theorem skipM_range {i : Nat} {h : Nat → β} {q : Nat → Bool} (hq : q i = false) (a : H D = some (.lst ((((List.range i).filter q).map h).map f))) : H D = some (.lst ((((List.range (i + 1)).filter q).map h).map f)) := by
  rw [a, List.range_succ, List.filter_append, List.filter_cons, if_neg (by rw [hq]; decide), List.filter_nil, List.append_nil]
end
/-! ### more rules -/
section
variable {X : Cx} {K : PySem.W.Frag}
theorem ix_tupK (hK : X.K = K := by rfl) : IxR X (rIxT K) := hK ▸ ix_tup
def rLenLK (K : PySem.W.Frag) : List V → Hp → VK → Prop := fun xs H Q => ∃ (p : Addr) (vs : List V) (n : Nat), xs = [.ref p] ∧ SqL K H p vs ∧ vs.length = n ∧ Q (.int (n : Int)) H
theorem call_lenLK (hK : X.K = K := by rfl) : CallR X (.builtin "len") (rLenLK K) := by
  subst hK
  intro pins s σ H xs us Q I r h
  obtain ⟨p, vs, n, rfl, hs, hn, q⟩ := h
  exact call_len_seq pins s σ H _ us Q I r ⟨p, _, rfl, Or.inl hs, by rw [hn]; exact q⟩
def rListLK (K : PySem.W.Frag) : List V → Hp → VK → Prop := fun xs H Q => ∃ (p : Addr) (vs : List V), xs = [.ref p] ∧ SqL K H p vs ∧ ∀ l, H l = none → Q (.ref l) (upd H l (.lst vs))
theorem call_listLK (hK : X.K = K := by rfl) : CallR X (.type "list") (rListLK K) := by
  subst hK
  intro pins s σ H xs us Q I r h
  obtain ⟨p, vs, rfl, hs, q⟩ := h
  exact call_list_of pins s σ H _ us Q I r ⟨p, _, rfl, Or.inl hs, q⟩
theorem cr_anyK (hc : X.calm = true) (hK : X.K = K := by rfl) : CallR X (.builtin "any") (rAny K) := hK ▸ cr_any hc
theorem cr_allK (hc : X.calm = true) (hK : X.K = K := by rfl) : CallR X (.builtin "all") (rAll K) := hK ▸ cr_all hc
theorem pi_tupK {tg l : Expr} {tl : TE} (hl : PE X l tl) (hK : X.K = K := by rfl) : PI X tg l (iTup K tl) := hK ▸ pi_tup hl
theorem pip {op : Operator} {r : R2} (h : OpR X (inplaceOp op) r) : PIp X op r := fun pins s σ H x y v u Q I rx ry q => h pins s σ H x y v u Q I rx ry q
/-- an item at a place from 0 on, by itself (ahead of o[i] op= e) -/
def rIxP (K : PySem.W.Frag) : R2 := fun x y H Q => ∃ (p : Addr) (xs : List V) (k : Int) (v : V), x = .ref p ∧ y = .int k ∧ SqL K H p xs ∧ 0 ≤ k ∧ k < 2 ^ 62 ∧ atI xs k = some v ∧ Q v H
theorem pget_list (hK : X.K = K := by rfl) : PGet X (rIxP K) := by
  subst hK
  intro pins s σ H o i ov iv Q I ro ri h
  obtain ⟨p, xs, k, v, rfl, rfl, hq, h0, h62, ha, q⟩ := h
  cases ro
  obtain ⟨t, rfl⟩ := ri
  obtain ⟨its, r, pl, hz⟩ := I.list hq
  obtain ⟨j, h1, h2, h3, h4, h5⟩ := atI_get ha
  obtain ⟨w, ew, rw'⟩ := r.get h2
  have hj : k.toNat = j := by
    rw [seqIndex_of h0 h5] at h1
    exact Option.some.inj h1
  exact getItem_listL pl.isList h0 (by omega) (by rw [hj]; simpa using ew) ⟨v, H, I, rw', q⟩
theorem tru_map {α : Type} [DecidableEq α] {f : α → V} {xs : List α} : (!decide (xs = [])) = !(xs.map f).isEmpty := by
  cases xs <;> simp
end
end Vx

namespace Vx
open PySem PySem.Spec PyProof.Rows L2
/-! ### objects -/
section
variable {M : List Addr} {H0 G0 G H H' : Hp} {O : List Addr} {p m : Addr} {o : HO}
theorem gen_obj {x dx : Addr} {o1 o2 : HO} (nx : H x = none) (nd : H dx = none) (ne : dx ≠ x) (h : upd (upd H dx o1) x o2 = H') : Same H H' ∧ H' x = some o2 := by
  subst h
  exact ⟨fun b u e => by rw [upd_ne (ne_of_none e nx), upd_ne (ne_of_none e nd)]; exact e, upd_same⟩
theorem sameX_of {m : Addr} (x : SameXs [m] H H') : SameX m H H' := fun b o e n => x b o e (by simpa using n)
theorem g_ne {a b : Addr} (h : G a = some o) (S : Sep M H0 G0 G H O) (hb : b ∈ O) : a ≠ b := fun z => by
  have := (S.ow b hb).1
  rw [← z, h] at this
  cases this
/-- an object whose making has laid some lists -/
theorem Sep.mutnew (S : Sep M H0 G0 G H O) {L : List Addr} (x : SameXs L H H') (hL : ∀ a ∈ L, a ∈ O) (hs : ∀ a ∈ L, H' a ≠ none) (hn : H p = none) (hp : H' p ≠ none) (h0 : H0 p = none) : Sep M H0 G0 G H' (p :: O) := by
  have S1 := S.mut x hL hs
  refine ⟨S1.base, S1.pm, S1.sG, S1.g0, S1.gn, all_cons ⟨S.gfree hn, hp, .inr h0⟩ S1.ow⟩
theorem Sep.init (S : Sep M H0 G0 G H O) (x : SameX m H H') (hm : m ∈ O) (h : H' m = some o) (L : List Addr) (hL : ∀ a ∈ L, H a = none ∧ H' a ≠ none ∧ H0 a = none) : Sep M H0 G0 G H' (L ++ O) := by
  have S1 := S.mut1 x hm h
  refine ⟨S1.base, S1.pm, S1.sG, S1.g0, S1.gn, fun a ha => ?_⟩
  rcases List.mem_append.mp ha with z | z
  · obtain ⟨h1, h2, h3⟩ := hL a z
    exact ⟨S.gfree h1, h2, .inr h3⟩
  · exact S1.ow a z
end
section
variable {P : Program} {w : World} {K : PySem.W.Frag} {mg : Str → Option Value} {base : Heap}
structure MethIn (K : PySem.W.Frag) (C : Addr) (q m : Str) (st : Stmt) (ps : List Str) : Prop where
  ex : ∃ (f : Addr) (fd : FuncData), Fun K m q st f fd ∧ Meth K C m f ∧ Binds K fd ps []
structure PropIn (K : PySem.W.Frag) (C : Addr) (q m : Str) (st : Stmt) (ps : List Str) : Prop where
  ex : ∃ (r f : Addr) (fd : FuncData), Fun K m q st f fd ∧ PropOf K C m r f ∧ Binds K fd ps []
structure InitIn (K : PySem.W.Frag) (mg : Str → Option Value) (C : Addr) (cn q : Str) (st : Stmt) (ps : List Str) : Prop where
  ex : ∃ (f : Addr) (fd : FuncData), Fun K "__init__" q st f fd ∧ Mk K C f ∧ mg cn = some (.ref C) ∧ Binds K fd ps []
structure MetC (P : Program) (w : World) (K : PySem.W.Frag) (mg : Str → Option Value) (base : Heap) (k : Nat) (C : Addr) (m : Str) (sp : Sp) : Prop where
  ex : ∃ (f : Addr) (fd : FuncData) (ps : List Str), Cls K C ∧ Meth K C m f ∧ FnOk P w K mg base CX0 k f fd ps sp ∧ Binds K fd ps []
structure PropC (P : Program) (w : World) (K : PySem.W.Frag) (mg : Str → Option Value) (base : Heap) (k : Nat) (C : Addr) (m : Str) (sp : Sp) : Prop where
  ex : ∃ (q f : Addr) (fd : FuncData) (ps : List Str), Cls K C ∧ PropOf K C m q f ∧ FnOk P w K mg base CX0 k f fd ps sp ∧ Binds K fd ps []
structure MakC (P : Program) (w : World) (K : PySem.W.Frag) (mg : Str → Option Value) (base : Heap) (k : Nat) (cn : Str) (C : Addr) (sp : Sp) : Prop where
  ex : ∃ (f : Addr) (fd : FuncData) (ps : List Str), Mk K C f ∧ FnOk P w K mg base CX0 k f fd ps sp ∧ mg cn = some (.ref C) ∧ Binds K fd ps []
abbrev Body (P : Program) (w : World) (K : PySem.W.Frag) (mg : Str → Option Value) (base : Heap) (x : Str) (st : Stmt) (N : List Str) (k : Nat) (sp : Sp) : Prop :=
  ∀ (f : Addr) (cdv : Value) (A : Around) (outer : List Env) (s : Shared) (H : Hp) (vs : List V) (Q : VK) (E : XK), Room k (A.deeper (envOfC x (defScope st) s.heap.objs.size f cdv)) → sp vs H Q E →
    ∃ t, PSs (cxOf CX0 P w K mg base N x (defScope st) f cdv A outer s H E).nox (defBody st) t ∧ t { nx := fun _ H' => Q .non H', rt := Q } (start N vs) H
theorem MethIn.ok {C : Addr} {q m : Str} {st : Stmt} {N ps : List Str} {k : Nat} {sp : Sp} (D : MethIn K C q m st ps) (c : Cls K C) (S : FnScope N ps (defScope st)) (len : ∀ vs H Q E, sp vs H Q E → vs.length = ps.length)
    (hbody : Body P w K mg base q st N k sp) : MetC P w K mg base (k + 1) C m sp := by
  obtain ⟨f, fd, F, me, b⟩ := D.ex
  exact ⟨f, fd, ps, c, me, F.ok S len (fun cdv A outer s H vs Q E hr h => hbody f cdv A outer s H vs Q E hr h), b⟩
theorem PropIn.ok {C : Addr} {q m : Str} {st : Stmt} {N ps : List Str} {k : Nat} {sp : Sp} (D : PropIn K C q m st ps) (c : Cls K C) (S : FnScope N ps (defScope st)) (len : ∀ vs H Q E, sp vs H Q E → vs.length = ps.length)
    (hbody : Body P w K mg base q st N k sp) : PropC P w K mg base (k + 1) C m sp := by
  obtain ⟨r, f, fd, F, me, b⟩ := D.ex
  exact ⟨r, f, fd, ps, c, me, F.ok S len (fun cdv A outer s H vs Q E hr h => hbody f cdv A outer s H vs Q E hr h), b⟩
theorem InitIn.ok {C : Addr} {cn q : Str} {st : Stmt} {N ps : List Str} {k : Nat} {sp : Sp} (D : InitIn K mg C cn q st ps) (S : FnScope N ps (defScope st)) (len : ∀ vs H Q E, sp vs H Q E → vs.length = ps.length)
    (hbody : Body P w K mg base q st N k sp) : MakC P w K mg base (k + 1) cn C sp := by
  obtain ⟨f, fd, F, me, hm, b⟩ := D.ex
  exact ⟨f, fd, ps, me, F.ok S len (fun cdv A outer s H vs Q E hr h => hbody f cdv A outer s H vs Q E hr h), hm, b⟩
end
section
variable {X : Cx} {k j : Nat} {C : Addr} {x m : Str} {sp : Sp} {p pos apos : Pos} {e o : Expr} {es : List Expr} {ta : TE} {t : TA}
theorem vx_call0 (c : Cal X.prog X.w X.K X.mg X.base k x sp) (hr : Room j X.A) (hk : k ≤ j) (hg : Gl X x) (hdb : (x == ("__debug__" : Str)) = false := by decide) : PE X (.Call (.Name x p) [] [] pos) (tCall sp [] E0 tNil) := by
  obtain ⟨f, fd, ps, F, hm, kp, b⟩ := c.ex
  exact pe_call0 F (hr.mono hk) hg hm kp b .nil pass0 hdb
theorem vx_make (c : MakC X.prog X.w X.K X.mg X.base k x C sp) (hr : Room j X.A) (hk : k + 1 ≤ j) (hg : Gl X x) (ha : PA X (e :: es) t)
    (hdb : (x == ("__debug__" : Str)) = false := by decide) (he : starEach (e :: es) X.env = (false, eval e X.env) :: starEach es X.env := by rfl) (hpl : (backTo pos (starEach es X.env)).any (·.1) = false := by rfl) :
    PE X (.Call (.Name x p) (e :: es) [] pos) (tMake C sp [] E0 t) := by
  obtain ⟨f, fd, ps, M, F, hm, b⟩ := c.ex
  exact pe_make M F (hr.mono hk) hg hm b .nil pass0 ha hdb he hpl
theorem vx_make0 (c : MakC X.prog X.w X.K X.mg X.base k x C sp) (hr : Room j X.A) (hk : k + 1 ≤ j) (hg : Gl X x) (hdb : (x == ("__debug__" : Str)) = false := by decide) :
    PE X (.Call (.Name x p) [] [] pos) (tMake C sp [] E0 tNil) := by
  obtain ⟨f, fd, ps, M, F, hm, b⟩ := c.ex
  exact pe_make0 M F (hr.mono hk) hg hm b .nil pass0 hdb
theorem vx_meth {pl : Sem Bool} (c : MetC X.prog X.w X.K X.mg X.base k C m sp) (hr : Room j X.A) (hk : k ≤ j) (he : PE X o ta) (ha : PA X (e :: es) t)
    (hst : starEach (e :: es) X.env = (false, eval e X.env) :: starEach es X.env := by rfl) (hpl : (backTo pos (starEach es X.env)).any (·.1) = false := by rfl)
    (ht : eval (.Call (.Attribute o m apos) (e :: es) [] pos) X.env = (do
      let ov ← eval o X.env
      standAt apos.atName
      let (f, first) ← holding [ov] (getMethod ov m pl)
      callWith pos f first (backTo pos (starEach (e :: es) X.env)) (backToKw pos (keywordEach [] X.env))) := by rfl) :
    PE X (.Call (.Attribute o m apos) (e :: es) [] pos) (tMeth C m sp [] E0 ta t) := by
  obtain ⟨f, fd, ps, hc, hm, F, b⟩ := c.ex
  exact pe_meth he hc hm F (hr.mono hk) b .nil pass0 ha hst hpl ht
theorem vx_meth0 {pl : Sem Bool} (c : MetC X.prog X.w X.K X.mg X.base k C m sp) (hr : Room j X.A) (hk : k ≤ j) (he : PE X o ta)
    (ht : eval (.Call (.Attribute o m apos) [] [] pos) X.env = (do
      let ov ← eval o X.env
      standAt apos.atName
      let (f, first) ← holding [ov] (getMethod ov m pl)
      callWith pos f first (backTo pos (starEach [] X.env)) (backToKw pos (keywordEach [] X.env))) := by rfl) :
    PE X (.Call (.Attribute o m apos) [] [] pos) (tMeth C m sp [] E0 ta tNil) := by
  obtain ⟨f, fd, ps, hc, hm, F, b⟩ := c.ex
  exact pe_meth0 he hc hm F (hr.mono hk) b .nil pass0 ht
theorem vx_prop (c : PropC X.prog X.w X.K X.mg X.base k C m sp) (hr : Room j X.A) (hk : k + 1 ≤ j) (he : PE X o ta) (hab : attributeBase o m X.env (eval o X.env) = eval o X.env) : PE X (.Attribute o m pos) (tProp C sp [] E0 ta) := by
  obtain ⟨q, f, fd, ps, hc, hp, F, b⟩ := c.ex
  exact pe_prop he hc hp F (hr.mono hk) b .nil pass0 hab
end
theorem iteBNT {b : Bool} {A B : Prop} (h : b = false) (k : A) : if (!b) = true then A else B := by rw [h]; exact iteT k
theorem iteNN {b : Bool} {A B : Prop} (h : if b = true then A else B) : if (!!b) = true then A else B := by rw [Bool.not_not]; exact h
theorem iteBNF {b : Bool} {A B : Prop} (h : b = true) (k : B) : if (!b) = true then A else B := by rw [h]; exact iteF k
theorem shl_side {i j : Int} (h0 : 0 ≤ j) (h1 : j ≤ 4096) (h2 : -(2 ^ 4096) < i) (h3 : i < 2 ^ 4096) : CShl i j := by
  obtain ⟨k, rfl⟩ := Int.eq_ofNat_of_zero_le h0
  exact shl_ok (n := 4096) (by omega) (by omega)
end Vx

namespace Vx
open PySem PySem.Spec PyProof.Rows L2
section
variable {X : Cx} {K : PySem.W.Frag}
theorem fldK {e : Expr} {f : Str} {pos : Pos} {ta : TE} (he : PE X e ta) (hb : attributeBase e f X.env (eval e X.env) = eval e X.env := by rfl) (hK : X.K = K := by rfl) : PE X (.Attribute e f pos) (tFld K ta f) := hK ▸ pe_fld he hb
theorem pg_tupK {es : List Expr} {k : Nat} {t : TGs} {n : Nat} {pos : Pos} (h : PGs X es t) (hc : X.calm = true := by rfl)
    (hn : (assignEach es X.env).length = n := by rfl) (hst : (assignEach es X.env).findIdx? (·.1) = none := by rfl) (hK : X.K = K := by rfl) : PG X (.Tuple es k pos) (gTup K n t) := hK ▸ pg_tup hc h hn hst
end
end Vx

namespace Vx
open PySem PySem.Spec PyProof.Rows L2
section
variable {α β : Type} {f : α → PyData} {g : β → PyData} {fv : α → V} {gv : β → V} {G : Hp} {vs ws : List V} {xs : List α} {ys : List β}
theorem big1 {n : Nat} (h : n ≤ 1000000) : n ≤ sizeLine := smallE h
theorem cat_len (a : RpAll G vs (xs.map f)) (b : RpAll G ws (ys.map g)) (h : xs.length + ys.length ≤ 1000000) : vs.length + ws.length ≤ sizeLine := by
  rw [a.len, b.len, List.length_map, List.length_map]; exact smallE h
theorem cat_lenM (h : xs.length + ys.length ≤ 1000000) : (xs.map fv).length + (ys.map gv).length ≤ sizeLine := by
  rw [List.length_map, List.length_map]; exact smallE h
theorem rep_len {k : Nat} (a : RpAll G vs (xs.map f)) (h : xs.length * k ≤ 1000000) : vs.length * k ≤ sizeLine := by
  rw [a.len, List.length_map]; exact smallE h
theorem rep_lenM {k : Nat} (h : xs.length * k ≤ 1000000) : (xs.map fv).length * k ≤ sizeLine := by
  rw [List.length_map]; exact smallE h
theorem app_len (a : RpAll G vs (xs.map f)) (h : xs.length ≤ 1000000) : vs.length < sizeLine := by
  rw [a.len, List.length_map]; exact small h
theorem app_lenM (h : xs.length ≤ 1000000) : (xs.map fv).length < sizeLine := by
  rw [List.length_map]; exact small h
theorem cutL_len {α : Type} (xs : List α) (lo hi : Option Int) : (cutL xs lo hi).length ≤ xs.length := by
  unfold cutL
  rw [List.length_take, List.length_drop]
  omega
theorem repL_len {α : Type} (xs : List α) (k : Int) : (repL xs k).length = k.toNat * xs.length := by
  unfold repL
  simp
end
end Vx
/-! # promises of defs that know that nothing is being shown (so that repr may be called) -/
namespace Vx
open PySem PySem.Spec PyProof.Rows L2
structure RoomG (k : Nat) (A : Around) : Prop extends Room k A where
  gd : True
theorem RoomG.low {j k : Nat} {A : Around} (r : RoomG k A) (h : j ≤ k) : RoomG j A := ⟨r.toRoom.mono h, r.gd⟩
theorem RoomG.one {k : Nat} {A : Around} (r : RoomG (k + 1) A) : RoomG k A.in1 := ⟨r.toRoom.in1, r.gd⟩
theorem make_gd {A : Around} (C : Addr) (us : List Value) (kw : List (Str × Value)) (h : A.guards = some []) : (A.under (.builtin "type.__call__" ⟨.ref C :: us, kw⟩)).guards = some [] := by
  obtain ⟨hd, d, fr, gs, u⟩ := A
  subst h
  simp [Around.under, Code.guards, Code.isGuard, guardIds, pushGuards]
theorem RoomG.made {k : Nat} {A : Around} (r : RoomG (k + 1) A) (C : Addr) (us : List Value) (kw : List (Str × Value)) : RoomG k (A.under (.builtin "type.__call__" ⟨.ref C :: us, kw⟩)) := ⟨r.toRoom.make C us kw, trivial⟩
structure FnG (P : Program) (w : World) (K : PySem.W.Frag) (mg : Str → Option Value) (base : Heap) (cx : CXT) (k : Nat) (f : Addr) (fd : FuncData) (ps : List Str) (sp : Sp) : Prop where
  len : ∀ vs H Q E, sp vs H Q E → vs.length = ps.length
  run : ∀ (A : Around) (outer : List Env) (s : Shared) (H : Hp) (args : Args) (us : List Value) (vs : List V) (Q : VK) (E : XK), RoomG k A → Env0 P w K mg base A outer s H → BindsTo s fd args (ps.zip us) → Vals vs us → sp vs H Q E → codeAny (model P w) A (.call (.ref f) args) (CR cx outer P w H s Q E) s
section
variable {P : Program} {w : World} {K : PySem.W.Frag} {mg : Str → Option Value} {base : Heap} {cx : CXT} {j k : Nat} {f : Addr} {fd : FuncData} {ps : List Str} {sp sp' : Sp}
theorem FnG.imp (F : FnG P w K mg base cx k f fd ps sp) (h : ∀ vs H Q E, sp' vs H Q E → sp vs H Q E) : FnG P w K mg base cx k f fd ps sp' := ⟨fun vs H Q E q => F.len vs H Q E (h vs H Q E q), fun A o s H a us vs Q E r e b v q => F.run A o s H a us vs Q E r e b v (h vs H Q E q)⟩
/-- the body's promise is the def's -/
theorem FnG.body {x qual : Str} {params : Arguments} {body : List Stmt} {scope : Scope} {dvs : List V} {kws : List (Str × V)} {N : List Str} (F : FunD K x qual params body scope dvs kws f fd) (S : FnScope N ps scope) (len : ∀ vs H Q E, sp vs H Q E → vs.length = ps.length)
    (hb : ∀ (cdv : Value) (A : Around) (outer : List Env) (s : Shared) (H : Hp) (vs : List V) (Q : VK) (E : XK), RoomG k (A.deeper (envOfC qual scope s.heap.objs.size f cdv)) → sp vs H Q E →
      ∃ t, PSs (cxOf cx P w K mg base N qual scope f cdv A outer s H E) body t ∧ t { nx := fun _ H' => Q .non H', rt := Q } (start N vs) H) : FnG P w K mg base cx (k + 1) f fd ps sp := by
  obtain ⟨oc, od, dV, kV, doc, pm, an, cdv, ct, osl, rfl, lk, code, _, _⟩ := F.ex
  constructor
  · exact len
  · intro A outer s H args us vs Q E room env binds vals prom
    have nvs := len vs H Q E prom
    have kin : K.In s.heap := env.mod.kin.keeps fun b o q => (env.bs b o q).1
    have nolim : s.heap.NoLimit := env.mod.nolimit.keeps fun b o q => (env.bs b o q).1
    have kinds : ∀ q ∈ ps.zip us, scope.names.lookup q.1 = some .local ∨ (scope.names.lookup q.1 = some .cell ∧ ((cellsFrom (s.heap.objs.size + 1) scope.names []).lookup q.1).isSome = true) := by
      rintro ⟨n, v⟩ hq
      cases S.par n (List.of_mem_zip hq).1 with
      | inl z => exact .inl z
      | inr z => exact .inr ⟨z, PySem.W.cellsFrom_some _ _ _ (.inl z)⟩
    refine codeAny_call_function room.toRoom.depth (kin _ _ lk) rfl S.co S.gen rfl (PySem.W.codeRec_of kin code) (binds _ _ _ _ ?_)
    refine wpAny_newFunctionEnv_cells S.kind kinds ?_
    rintro _ rfl s1 made
    refine ⟨nolim.keeps made.toInCall.keep, codeAny_func ?_⟩
    obtain ⟨t, pss, start_⟩ := hb cdv A outer s H vs Q E ⟨room.toRoom.deeper _, room.gd⟩ prom
    have inv := inv_start (CX := cx) (E := E) S room.hd env nvs vals made
    have close : ∀ {τ : L2.St} {H2 : Hp} {v : V} {u : Value} {s2 : Shared}, Inv (cxOf cx P w K mg base N qual scope f cdv A outer s H E) [] τ H2 s2 → RelV v u → Q v H2 → CE outer P w H s Q u s2 := fun inv2 rel q => ⟨_, _, inv2.os, inv2.bare, inv2.base, inv2.hok, rel, q⟩
    refine wpAny_mono (pss.run [] s1 (start N vs) H _ inv start_) ?_ fun _ _ z => z
    intro flow s2 out
    cases flow with
    | next =>
      obtain ⟨τ, H2, inv2, q⟩ := out
      exact close (v := .non) (u := .none) inv2 rfl q
    | ret u =>
      obtain ⟨v, τ, H2, inv2, rel, q⟩ := out
      exact close inv2 rel q
    | brk =>
      obtain ⟨_, _, _, q⟩ := out
      exact q.elim
    | cont =>
      obtain ⟨_, _, _, q⟩ := out
      exact q.elim
/-- the same of a body that nothing leaves -/
theorem FnG.bodyN {x qual : Str} {params : Arguments} {body : List Stmt} {scope : Scope} {dvs : List V} {kws : List (Str × V)} {N : List Str} (F : FunD K x qual params body scope dvs kws f fd) (S : FnScope N ps scope) (len : ∀ vs H Q E, sp vs H Q E → vs.length = ps.length)
    (hb : ∀ (cdv : Value) (A : Around) (outer : List Env) (s : Shared) (H : Hp) (vs : List V) (Q : VK) (E : XK), RoomG k (A.deeper (envOfC qual scope s.heap.objs.size f cdv)) → sp vs H Q E →
      ∃ t, PSs (cxOf CX0 P w K mg base N qual scope f cdv A outer s H E).nox body t ∧ t { nx := fun _ H' => Q .non H', rt := Q } (start N vs) H) : FnG P w K mg base CX0 (k + 1) f fd ps sp :=
  FnG.body F S len fun cdv A outer s H vs Q E r p => by
    obtain ⟨t, h, q⟩ := hb cdv A outer s H vs Q E r p
    exact ⟨t, h.nox, q⟩
end
/-- where a law's call begins: an abstract heap that tells the script at most -/
theorem law_start {P : Program} {w : World} {K : PySem.W.Frag} {mg mb : Str → Option Value} {a : Addr} {s : Shared} {vs : List Value} {ns : List Int} (kin : K.In s.heap) (top : s.heap.Ns mainGlobals mg) (blt : s.heap.Ns builtinsNs mb) (boot : ∀ y : Str, y ≠ "__name__" → mb y = bootBuiltins y)
    (lim : s.heap.NoLimit) (gens : s.gens = #[]) (script : s.heap.get? a = some { cls := .type "list", data := .seq vs.toArray }) (whole : IntsAre vs ns) (short : ns.length ≤ sizeLine) :
    ∃ (H : Hp) (base : Heap), SqL K H a (ns.map V.int) ∧ K.In base ∧ base.Ns mainGlobals mg ∧ Env0 P w K mg base callerA [] s H ∧
      ∀ (Z : V → Prop) (u : Value) (s2 : Shared), CE [] P w H s (fun v _ => Z v) u s2 → (∃ v, RelV v u ∧ Z v) ∧ OldK s.heap s2.heap ∧ s2.os = s.os ∧ AllBare s2.gens := by
  have rel := vals_ints whole
  have lenV := whole.length
  -- any H that tells no more than the script, and that only where the written part does not hold it, will do
  have fits : ∀ H : Hp, (∀ b, H b = none ∨ ∃ o xs, H b = some (.frz o (.lst xs))) → SqL K H a (ns.map V.int) → HOk P w H s.heap → (∀ b, b ≠ a → H b = none) → (∀ o, K.lookup a = some o → H a = none) →
      ∃ (H : Hp) (base : Heap), SqL K H a (ns.map V.int) ∧ K.In base ∧ base.Ns mainGlobals mg ∧ Env0 P w K mg base callerA [] s H ∧
        ∀ (Z : V → Prop) (u : Value) (s2 : Shared), CE [] P w H s (fun v _ => Z v) u s2 → (∃ v, RelV v u ∧ Z v) ∧ OldK s.heap s2.heap ∧ s2.os = s.os ∧ AllBare s2.gens := by
    intro H only seq ok else_ apart
    have dictFree : ∀ (b : Addr) (o : Obj) (es : Array DictEntry) (n : Nat), s.heap.get? b = some o → o.data = .dict es n → H b = none := by
      intro b o es n e d
      by_cases z : b = a
      · subst z
        rw [script] at e
        injection e with e
        subst e
        cases d
      · exact else_ b z
    have nsOf : ∀ {b : Addr} {m : Str → Option Value}, s.heap.Ns b m → (hidT s.heap H).Ns b m := by
      rintro b m ⟨o, es, n, e, d, r⟩
      exact ⟨o, es, n, hidT_get e (dictFree b o es n e d), d, r⟩
    have kinB : K.In (hidT s.heap H) := by
      intro b o e
      refine hidT_get (kin b o e) ?_
      by_cases z : b = a
      · subst z
        exact apart o e
      · exact else_ b z
    obtain ⟨mc, lim1, lim2⟩ := lim
    refine ⟨H, hidT s.heap H, seq, kinB, nsOf top, ⟨rfl, ⟨kinB, nsOf top, ⟨mb, nsOf blt, boot⟩, mc, nsOf lim1, lim2⟩, fun b o e => of_hidT e, Nat.le_of_eq (hidT_size _ _), trivial, fun b hb => (nomatch (show b ∈ ([] : List Addr) from hb)), ok, .of_eq gens⟩, ?_⟩
    rintro Z u s2 ⟨v, H2, os, bare, un, ok2, r, z⟩
    refine ⟨⟨v, r, z⟩, OldK.of_keep fun b o e => ?_, os, bare⟩
    rcases only b with n | ⟨o1, xs, n⟩
    · exact un.keep b o e n (fun y => nomatch (show b ∈ ([] : List Addr) from y)) (fun y => nomatch y)
    · obtain ⟨e1, _⟩ := ok b _ n
      obtain ⟨e2, _⟩ := ok2 b _ (un.frzs b o1 _ n)
      rw [e] at e1
      injection e1 with e1
      subst e1
      exact e2
  cases kl : K.lookup a with
  | some o =>
    have e := kin a o kl
    rw [script] at e
    injection e with e
    subst e
    exact fits (fun _ => none) (fun _ => .inl rfl) (.inr ⟨_, vs.toArray, _, kl, rfl, rfl, rfl, by rw [List.size_toArray, lenV]; exact short, by simpa using rel⟩) (fun _ _ z => nomatch z) (fun _ _ => rfl) fun _ _ => rfl
  | none =>
    refine fits (fun b => if b = a then some (.frz { cls := .type "list", data := .seq vs.toArray } (.lst (ns.map V.int))) else none) ?_ (.inl (.inr ⟨_, if_pos rfl⟩)) ?_ (fun b n => if_neg n) fun o z => ?_
    · intro b
      by_cases z : b = a
      · exact .inr ⟨_, _, if_pos z⟩
      · exact .inl (if_neg z)
    · intro b u q
      by_cases z : b = a
      · subst z
        have q := (if_pos rfl).symm.trans q
        injection q with q
        subst q
        exact ⟨script, by rw [List.length_map]; exact short, vs, _, rel, script⟩
      · have q := (if_neg z).symm.trans q
        cases q
    · rw [kl] at z
      cases z
/-- the goal that the head leaves, from the law's promise; the script's numbers have at most 2 ^ 20 bits -/
theorem walkG {l : PySem.W.OpenLaw} {n k : Nat} {q : Program} {loose : List Str} {XP : (Str → Option Value) → Heap → Prop} {YP : World → Heap → Prop} {d : DefRec} {K : Params → PySem.W.Frag} {x : Str} (hn : l.most = some n) (hn2 : n ≤ sizeLine) (hdf : d.params.defaults = []) (room : Room k callerA)
    (hY : ∀ (w : World) (h : Heap), YP w h → (K w.params).In h)
    (F : ∀ (w : World) (mg : Str → Option Value) (fa : Addr) (h : Heap), (K w.params).In h → h.Ns mainGlobals mg → mg d.name = some (.ref fa) →
      ∃ fd : FuncData, (∀ (s : Shared) (u : Value), BindsTo s fd ⟨[u], []⟩ [(x, u)]) ∧ ∀ base : Heap, (K w.params).In base → base.Ns mainGlobals mg → FnG l.prog w (K w.params) mg base CX0 k fa fd [x] (fun vs H Q _ => ∃ (a : Addr) (ns : List Int), vs = [.ref a] ∧ SqL (K w.params) H a (ns.map V.int) ∧ ns.length ≤ n ∧ ∀ H', Q (.bl true) H')) :
    PySem.W.WalkO q loose XP YP l.row.toRowW d [] (fun f vs => PySem.call f vs) := by
  refine Att.attach_call hn hdf ?_
  intro w s₀ s₁ mg mb fa o pm cd doc a vs ns G Y _ _ _ hmg script whole short gens
  have kin := hY w _ Y
  obtain ⟨fd, bind, prom⟩ := F w mg fa _ kin G.T.g hmg
  obtain ⟨H, base, seq, kinB, nsB, env, fin⟩ := law_start (P := l.prog) (w := w) kin G.T.g G.T.b G.T.builtins G.T.nolimit gens script whole (Nat.le_trans short hn2)
  refine codeAny_mono ((prom base kinB nsB).run callerA [] s₁ H ⟨[.ref a], []⟩ [.ref a] [.ref a] (fun v _ => v = .bl true) (fun _ _ _ => False) ⟨room, trivial⟩ env (bind s₁ (.ref a)) (.cons rfl .nil) ⟨a, ns, rfl, seq, short, fun _ => rfl⟩) ?_
  intro r s2 out
  cases r with
  | error e => exact out.elim
  | ok flow =>
    cases flow with
    | ret u =>
      obtain ⟨⟨v, rv, z⟩, h1, h2, h3⟩ := fin (fun v => v = .bl true) u s2 out
      subst z
      obtain rfl : u = Value.bool true := rv
      exact ⟨rfl, h1, h2, h3⟩
    | next => exact out.elim
    | brk => exact out.elim
    | cont => exact out.elim
end Vx
/-! # third part: what a def computes, as a plain function with refusals -/
namespace Vx
open PySem PySem.Spec PyProof.Rows L2
inductive Rx (α : Type) where
  | ok (a : α)
  | er (e : Nat)
  | bad
def Rx.bind {α β : Type} (m : Rx α) (f : α → Rx β) : Rx β :=
  match m with
  | .ok a => f a
  | .er e => .er e
  | .bad => .bad
/-- what is wanted of an outcome -/
@[irreducible] def cW {α : Type} (m : Rx α) (K : α → Prop) (E : Nat → Prop) : Prop :=
  match m with
  | .ok a => K a
  | .er e => E e
  | .bad => False
def grd {α : Type} (p : Prop) [Decidable p] (m : Rx α) : Rx α := if p then m else .bad
/-- within a comprehension nothing may be raised -/
def noEr {α : Type} (m : Rx α) : Rx α :=
  match m with
  | .ok a => .ok a
  | _ => .bad
/-- what the clause does not name may not come -/
def tryR {α β : Type} (m : Rx α) (cs : List Nat) (f : α → Rx β) (h : Nat → Rx β) : Rx β :=
  match m with
  | .ok a => f a
  | .er e => if e ∈ cs then h e else .bad
  | .bad => .bad
def bnd {α β : Type} (a : α) (f : α → Rx β) : Rx β := f a
inductive Lp (σ ρ : Type) where
  | go (s : σ)
  | bk (s : σ)
  | rt (r : ρ)
def Lp.aft {σ ρ τ : Type} (l : Lp σ ρ) (kr : ρ → Rx τ) (k : σ → Rx τ) : Rx τ :=
  match l with
  | .go s => k s
  | .bk s => k s
  | .rt r => kr r
def forS {σ α : Type} : List α → σ → (σ → α → Rx σ) → Rx σ
  | [], s, _ => .ok s
  | x :: r, s, f => (f s x).bind fun s' => forS r s' f
def forR {σ α ρ : Type} : List α → σ → (σ → α → Rx (Lp σ ρ)) → Rx (Lp σ ρ)
  | [], s, _ => .ok (.go s)
  | x :: r, s, f => (f s x).bind fun l =>
    match l with
    | .go s' => forR r s' f
    | .bk s' => .ok (.go s')
    | .rt v => .ok (.rt v)
def whileR {σ ρ : Type} : Nat → σ → (σ → Rx (Lp σ ρ)) → Rx (Lp σ ρ)
  | 0, _, _ => .bad
  | n + 1, s, f => (f s).bind fun l =>
    match l with
    | .go s' => whileR n s' f
    | .bk s' => .ok (.go s')
    | .rt v => .ok (.rt v)
def mapA {α β : Type} : List α → List β → (α → Rx β) → Rx (List β)
  | [], acc, _ => .ok acc
  | x :: r, acc, f => grd (acc.length ≤ 1000000) ((f x).bind fun y => mapA r (acc ++ [y]) f)
def mapF {α β : Type} : List α → List β → (α → Rx (Option β)) → Rx (List β)
  | [], acc, _ => .ok acc
  | x :: r, acc, f => grd (acc.length ≤ 1000000) ((f x).bind fun y =>
    match y with
    | some z => mapF r (acc ++ [z]) f
    | none => mapF r acc f)
section
variable {α β γ σ ρ τ : Type} {K : α → Prop} {E : Nat → Prop}
theorem cW_ok {a : α} (h : cW (.ok a) K E) : K a := by
  unfold cW at h
  exact h
theorem cW_er {e : Nat} (h : cW (.er e : Rx α) K E) : E e := by
  unfold cW at h
  exact h
theorem cW_bad {C : Prop} (h : cW (.bad : Rx α) K E) : C := by
  unfold cW at h
  exact h.elim
theorem cW_mk {a : α} (h : K a) : cW (.ok a) K E := by
  unfold cW
  exact h
theorem cW_mkE {e : Nat} (h : E e) : cW (.er e : Rx α) K E := by
  unfold cW
  exact h
theorem cW_gen {m : Rx α} (h : cW m K E) : ∃ (K' : α → Prop) (E' : Nat → Prop), (∀ v, K' v → K v) ∧ (∀ e, E' e → E e) ∧ cW m K' E' := ⟨K, E, fun _ x => x, fun _ x => x, h⟩
theorem cW_grd {p : Prop} {dp : Decidable p} {m : Rx α} (h : cW (grd p m) K E) : p ∧ cW m K E := by
  unfold grd at h
  split at h
  · exact ⟨‹p›, h⟩
  · exact cW_bad h
theorem cW_pos {p : Prop} {dp : Decidable p} {a b : Rx α} (c : p) (h : cW (if p then a else b) K E) : cW a K E := by rwa [if_pos c] at h
theorem cW_neg {p : Prop} {dp : Decidable p} {a b : Rx α} (c : ¬ p) (h : cW (if p then a else b) K E) : cW b K E := by rwa [if_neg c] at h
theorem cW_call {m : Rx β} {f : β → Rx α} {K2 : β → Prop} {E2 : Nat → Prop} (h : cW (m.bind f) K E) (ho : ∀ v, cW (f v) K E → K2 v) (he : ∀ e, E e → E2 e) : cW m K2 E2 := by
  cases m with
  | ok a => exact cW_mk (ho a h)
  | er e => exact cW_mkE (he e (cW_er (α := α) h))
  | bad => exact cW_bad (α := α) h
theorem cW_push {m : Rx β} {f : β → Rx α} (h : cW (m.bind f) K E) : ∃ K2 : β → Prop, (∀ v, K2 v → cW (f v) K E) ∧ cW m K2 E := ⟨fun v => cW (f v) K E, fun _ x => x, cW_call h (fun _ x => x) fun _ x => x⟩
theorem cW_name {m : Rx α} (h : cW m K E) : ∃ K' : α → Prop, (∀ v, K' v → K v) ∧ cW m K' E := ⟨K, fun _ x => x, h⟩
theorem cW_noEr {m : Rx α} (h : cW (noEr m) K E) : cW m K (fun _ => False) := by
  cases m with
  | ok a => exact cW_mk (cW_ok (α := α) h)
  | er e => exact cW_bad (α := α) h
  | bad => exact cW_bad (α := α) h
theorem cW_try {m : Rx β} {cs : List Nat} {f : β → Rx α} {g : Nat → Rx α} {K2 : β → Prop} {E2 : Nat → Prop} (h : cW (tryR m cs f g) K E) (ho : ∀ v, cW (f v) K E → K2 v) (hc : ∀ e, e ∈ cs → cW (g e) K E → E2 e) : cW m K2 E2 := by
  cases m with
  | ok a => exact cW_mk (ho a h)
  | er e =>
    have h2 : cW (if e ∈ cs then g e else .bad) K E := h
    by_cases q : e ∈ cs
    · exact cW_mkE (hc e q (cW_pos q h2))
    · exact cW_bad (cW_neg q h2)
  | bad => exact cW_bad (α := α) h
theorem cW_bnd {a : β} {f : β → Rx α} (h : cW (bnd a f) K E) : cW (f a) K E := h
theorem cW_negB {b : Bool} {x y : Rx α} (c : b = false) (h : cW (if b = true then x else y) K E) : cW y K E := cW_neg (by rw [c]; decide) h
theorem cW_forS {xs : List β} {i : Nat} {x : β} {s : α} {f : α → β → Rx α} (hx : xs[i]? = some x) (h : cW (forS (xs.drop i) s f) K E) : cW (f s x) (fun s' => cW (forS (xs.drop (i + 1)) s' f) K E) E := by
  rw [List.drop_eq_getElem?_toList_append, hx] at h
  exact cW_call h (fun _ z => z) fun _ z => z
theorem cW_forS0 {xs : List β} {n : Nat} {s : α} {f : α → β → Rx α} (hn : n = xs.length) (h : cW (forS (xs.drop n) s f) K E) : K s := by
  subst hn
  rw [List.drop_length] at h
  exact cW_ok h
theorem cW_forR {K : Lp σ ρ → Prop} {xs : List β} {i : Nat} {x : β} {s : σ} {f : σ → β → Rx (Lp σ ρ)} (hx : xs[i]? = some x) (h : cW (forR (xs.drop i) s f) K E) :
    cW (f s x) (fun l => match l with | .go s' => cW (forR (xs.drop (i + 1)) s' f) K E | .bk s' => K (.go s') | .rt v => K (.rt v)) E := by
  rw [List.drop_eq_getElem?_toList_append, hx] at h
  refine cW_call h (fun l z => ?_) fun _ z => z
  cases l with
  | go s' => exact z
  | bk s' => exact cW_ok (K := K) (a := .go s') z
  | rt v => exact cW_ok (K := K) (a := .rt v) z
theorem cW_forR0 {K : Lp σ ρ → Prop} {xs : List β} {n : Nat} {s : σ} {f : σ → β → Rx (Lp σ ρ)} (hn : n = xs.length) (h : cW (forR (xs.drop n) s f) K E) : K (.go s) := by
  subst hn
  rw [List.drop_length] at h
  exact cW_ok h
theorem cW_whileR {K : Lp σ ρ → Prop} {m : Nat} {s : σ} {f : σ → Rx (Lp σ ρ)} (h : cW (whileR m s f) K E) :
    ∃ n, m = n + 1 ∧ cW (f s) (fun l => match l with | .go s' => cW (whileR n s' f) K E | .bk s' => K (.go s') | .rt v => K (.rt v)) E := by
  cases m with
  | zero => exact cW_bad h
  | succ n =>
    refine ⟨n, rfl, cW_call h (fun l z => ?_) fun _ z => z⟩
    cases l with
    | go s' => exact z
    | bk s' => exact cW_ok (K := K) (a := .go s') z
    | rt v => exact cW_ok (K := K) (a := .rt v) z
theorem cW_mapA {K : List α → Prop} {xs : List β} {acc : List α} {i : Nat} {x : β} {f : β → Rx α} (hx : xs[i]? = some x) (h : cW (mapA (xs.drop i) acc f) K E) :
    acc.length ≤ 1000000 ∧ cW (f x) (fun y => cW (mapA (xs.drop (i + 1)) (acc ++ [y]) f) K E) E := by
  rw [List.drop_eq_getElem?_toList_append, hx] at h
  obtain ⟨z, h⟩ := cW_grd h
  exact ⟨z, cW_call h (fun _ z => z) fun _ z => z⟩
theorem cW_mapA0 {K : List α → Prop} {xs : List β} {acc : List α} {n : Nat} {f : β → Rx α} (hn : n = xs.length) (h : cW (mapA (xs.drop n) acc f) K E) : K acc := by
  subst hn
  rw [List.drop_length] at h
  exact cW_ok h
theorem cW_mapF {K : List α → Prop} {xs : List β} {acc : List α} {i : Nat} {x : β} {f : β → Rx (Option α)} (hx : xs[i]? = some x) (h : cW (mapF (xs.drop i) acc f) K E) :
    acc.length ≤ 1000000 ∧ cW (f x) (fun y => match y with | some z => cW (mapF (xs.drop (i + 1)) (acc ++ [z]) f) K E | none => cW (mapF (xs.drop (i + 1)) acc f) K E) E := by
  rw [List.drop_eq_getElem?_toList_append, hx] at h
  obtain ⟨z, h⟩ := cW_grd h
  refine ⟨z, cW_call h (fun y z => ?_) fun _ z => z⟩
  cases y with
  | none => exact z
  | some w => exact z
theorem cW_mapF0 {K : List α → Prop} {xs : List β} {acc : List α} {n : Nat} {f : β → Rx (Option α)} (hn : n = xs.length) (h : cW (mapF (xs.drop n) acc f) K E) : K acc := by
  subst hn
  rw [List.drop_length] at h
  exact cW_ok h
end
/-- the numbers of a range -/
def rng (lo : Int) (n : Nat) : List Int := (List.range n).map fun (j : Nat) => lo + (j : Int)
theorem rng_get {lo : Int} {n i : Nat} (h : i < n) : (rng lo n)[i]? = some (lo + (i : Int)) := by
  unfold rng
  rw [List.getElem?_map, List.getElem?_range h] <;> rfl
theorem rng_len (lo : Int) (n : Nat) : (rng lo n).length = n := by
  unfold rng
  rw [List.length_map, List.length_range]

def rngD (lo : Int) (n : Nat) : List Int := (List.range n).map fun (j : Nat) => lo + (j : Int) * (-1)
theorem rngD_get {lo : Int} {n i : Nat} (h : i < n) : (rngD lo n)[i]? = some (lo + (i : Int) * (-1)) := by
  unfold rngD
  rw [List.getElem?_map, List.getElem?_range h] <;> rfl
theorem rngD_len (lo : Int) (n : Nat) : (rngD lo n).length = n := by
  unfold rngD
  rw [List.length_map, List.length_range]

/-! ### calls that may raise -/
/-- what a call with n values and keywords ks gives the parameters -/
structure Bnd (K : PySem.W.Frag) (fd : FuncData) (ps : List Str) (n : Nat) (ks : List Str) (g : List V → List V → List V) : Prop where
  to : ∀ (s : Shared) (us ws : List Value) (vs zs : List V), K.In s.heap → vs.length = n → zs.length = ks.length → Vals vs us → Vals zs ws → ∃ vv : List Value, BindsTo s fd ⟨us, ks.zip ws⟩ (ps.zip vv) ∧ Vals (g vs zs) vv
theorem Bnd.of_kbn {K : PySem.W.Frag} {fd : FuncData} {ps ks : List Str} {n : Nat} {g : List Value → List Value → List Value} {gV : List V → List V → List V} (b : KBn K fd ps n ks g gV) : Bnd K fd ps n ks gV :=
  ⟨fun s us ws vs zs X l1 l2 r rz => ⟨g us ws, b.to s us ws X (r.length.symm.trans l1) (rz.length.symm.trans l2), b.rel r rz⟩⟩
theorem Bnd.all {K : PySem.W.Frag} {fd : FuncData} {ps ks : List Str} {n : Nat} {g : List V → List V → List V} (h : ∀ (us ws : List Value) (vs zs : List V), vs.length = n → zs.length = ks.length → Vals vs us → Vals zs ws →
    ∃ vv : List Value, bindArgs fd ⟨us, ks.zip ws⟩ = pure (ps.zip vv) ∧ Vals (g vs zs) vv) : Bnd K fd ps n ks g :=
  ⟨fun s us ws vs zs _ l1 l2 r rz => by
    obtain ⟨vv, e, q⟩ := h us ws vs zs l1 l2 r rz
    exact ⟨vv, BindsTo.of_eq e, q⟩⟩
abbrev Pat := Nat × List Str × (List V → List V → List V)
def Bnd1 (K : PySem.W.Frag) (fd : FuncData) (ps : List Str) (p : Pat) : Prop := Bnd K fd ps p.1 p.2.1 p.2.2
section
variable {P : Program} {w : World} {K : PySem.W.Frag} {mg : Str → Option Value} {base : Heap}
/-- a def of the top, with the ways it is called -/
structure DefX (K : PySem.W.Frag) (mg : Str → Option Value) (x : Str) (st : Stmt) (ps : List Str) (pats : List Pat) : Prop where
  ex : ∃ (f : Addr) (fd : FuncData) (dvs : List V) (kws : List (Str × V)), FunD K x x (defArgs st) (defBody st) (defScope st) dvs kws f fd ∧ mg x = some (.ref f) ∧ ∀ p ∈ pats, Bnd1 K fd ps p
structure CalX (P : Program) (w : World) (K : PySem.W.Frag) (mg : Str → Option Value) (base : Heap) (k : Nat) (x : Str) (sp : Sp) (pats : List Pat) : Prop where
  ex : ∃ (f : Addr) (fd : FuncData) (ps : List Str), FnG P w K mg base (L2.CX P w) k f fd ps sp ∧ mg x = some (.ref f) ∧ PySem.W.keepIn K (.ref f) = true ∧ ∀ p ∈ pats, Bnd1 K fd ps p
abbrev BodyX (P : Program) (w : World) (K : PySem.W.Frag) (mg : Str → Option Value) (base : Heap) (x : Str) (st : Stmt) (N : List Str) (k : Nat) (sp : Sp) : Prop :=
  ∀ (f : Addr) (cdv : Value) (A : Around) (outer : List Env) (s : Shared) (H : Hp) (vs : List V) (Q : VK) (E : XK), RoomG k (A.deeper (envOfC x (defScope st) s.heap.objs.size f cdv)) → sp vs H Q E →
    ∃ t, PSs (cxOf (L2.CX P w) P w K mg base N x (defScope st) f cdv A outer s H E) (defBody st) t ∧ t { nx := fun _ H' => Q .non H', rt := Q } (start N vs) H
theorem DefX.ok {x : Str} {st : Stmt} {N ps : List Str} {pats : List Pat} {k : Nat} {sp : Sp} (D : DefX K mg x st ps pats) (S : FnScope N ps (defScope st)) (len : ∀ vs H Q E, sp vs H Q E → vs.length = ps.length)
    (hbody : BodyX P w K mg base x st N k sp) : CalX P w K mg base (k + 1) x sp pats := by
  obtain ⟨f, fd, dvs, kws, F, hm, b⟩ := D.ex
  exact ⟨f, fd, ps, FnG.body F S len (fun cdv A outer s H vs Q E hr h => hbody f cdv A outer s H vs Q E hr h), hm, F.kp, b⟩
end
section
variable {X : Cx} {k j n : Nat} {f : Addr} {fd : FuncData} {ps ks : List Str} {g : List V → List V → List V} {sp : Sp} {x : Str} {pos p : Pos} {e : Expr} {es : List Expr} {kws : List Keyword} {t tk : TA} {W : WX}
theorem run_X {pins : List (Addr × Obj)} {σ : L2.St} {H : Hp} {s : Shared} {Q : VK} {us ws : List Value} {vs zs : List V} (F : FnG X.prog X.w X.K X.mg X.base (L2.CX X.prog X.w) k f fd ps sp) (hr : RoomG k X.A) (hb : Bnd X.K fd ps n ks g) (tkW : Takes X W)
    (I : Inv X pins σ H s) (r : Vals vs us) (rz : Vals zs ws) (l1 : vs.length = n) (l2 : zs.length = ks.length) (h : sp (g vs zs) H Q (WE W σ)) :
    wpAny (model X.prog X.w) X.A (call (.ref f) us (ks.zip ws)) (EP X pins σ Q) X.xe s := by
  obtain ⟨vv, b, r2⟩ := hb.to s us ws vs zs I.kIn l1 l2 r rz
  refine wpAny_call (codeAny_mono (F.run X.A X.stack s H ⟨us, ks.zip ws⟩ vv (g vs zs) Q (WE W σ) hr I.env0 b r2 h) fun rr s' hq => ?_)
  cases rr with
  | error er => exact passAt tkW σ pins H s er s' I hq
  | ok fl =>
    cases fl with
    | ret u => exact I.after hq
    | next => exact hq.elim
    | brk => exact hq.elim
    | cont => exact hq.elim
/-- f(e, .., k = v, ..) -/
def tCallX (n m : Nat) (sp : Sp) (g : List V → List V → List V) (W : WX) (t tk : TA) : TE := fun σ H Q => t σ H fun vs H1 => tk σ H1 fun zs H2 => vs.length = n ∧ zs.length = m ∧ sp (g vs zs) H2 Q (WE W σ)
theorem vx_callX {pats : List Pat} (c : CalX X.prog X.w X.K X.mg X.base k x sp pats) (pt : Pat) (hpt : pt ∈ pats) (hr : RoomG j X.A) (hk : k ≤ j) (tkW : Takes X W) (hg : Gl X x) (ha : PA X (e :: es) t) (hkw : PK X kws tk)
    (hall : (backToKw pos (keywordEach kws X.env)).all (·.1.isSome) = true := by rfl) (hks : (backToKw pos (keywordEach kws X.env)).filterMap (·.1) = pt.2.1 := by rfl)
    (hdb : (x == ("__debug__" : Str)) = false := by decide) (he : starEach (e :: es) X.env = (false, eval e X.env) :: starEach es X.env := by rfl)
    (hpl : ((backTo pos (starEach (e :: es) X.env)).any (·.1) || (backToKw pos (keywordEach kws X.env)).any (·.1.isNone)) = false := by rfl) :
    PE X (.Call (.Name x p) (e :: es) kws pos) (tCallX pt.1 pt.2.1.length sp pt.2.2 W t tk) := by
  obtain ⟨f, fd, ps, F, hm, kp, b⟩ := c.ex
  refine ⟨fun pins s σ H Q I h => ?_⟩
  refine wpAny_Call_Name_kw (ld_glob I hg hm ?_ hdb)
  refine PySem.W.callWith_KW (h₀ := X.base) I.ok.mod.kin kp hall (thn (ha.run pos pins s σ H _ I h) fun us s1 ⟨vs, H1, I1, r, q⟩ => ?_) hpl he
  refine thn (hkw.run pos pins s1 σ H1 _ I1 q) fun ws s2 ⟨zs, H2, I2, rz, l1, l2, q2⟩ => ⟨I2.kIn, ?_⟩
  rw [hks]
  exact run_X F (hr.low hk) (b pt hpt) tkW I2 r rz l1 l2 q2
theorem vx_callX0 {pats : List Pat} (c : CalX X.prog X.w X.K X.mg X.base k x sp pats) (pt : Pat) (hpt : pt ∈ pats) (hr : RoomG j X.A) (hk : k ≤ j) (tkW : Takes X W) (hg : Gl X x) (hks : pt.2.1 = [] := by rfl)
    (hdb : (x == ("__debug__" : Str)) = false := by decide) : PE X (.Call (.Name x p) [] [] pos) (tCallX pt.1 pt.2.1.length sp pt.2.2 W tNil tNil) := by
  obtain ⟨f, fd, ps, F, hm, kp, b⟩ := c.ex
  refine ⟨fun pins s σ H Q I h => ?_⟩
  refine wpAny_Call_Name_kw (ld_glob I hg hm ?_ hdb)
  obtain ⟨l1, l2, q2⟩ := h
  have hz := run_X (us := []) (ws := []) F (hr.low hk) (b pt hpt) tkW I .nil .nil l1 l2 q2
  rw [hks] at hz
  exact PySem.W.callWith_K0 I.kIn kp hz
end
/-! ### borrowed things -/
theorem Sep.bM {M : List Addr} {H0 G0 G H : Hp} {O : List (Addr)} (S : Sep M H0 G0 G H O) : Same (hideL M H0) H := fun b o e => by
  by_cases h : b ∈ M
  · rw [hideL_in h] at e
    cases e
  · rw [hideL_out h] at e
    exact S.base b o e h
theorem b_ne {M : List Addr} {H0 G0 G H : Hp} {O : List Addr} {a b : Addr} {o : HO} (h : (hideL M H0) a = some o) (S : Sep M H0 G0 G H O) (hb : b ∈ O) : a ≠ b := fun z => by
  subst z
  rcases (S.ow a hb).2.2 with q | q
  · rw [hideL_in q] at h
    cases h
  · by_cases hM : a ∈ M
    · rw [hideL_in hM] at h
      cases h
    · rw [hideL_out hM, q] at h
      cases h
theorem hide0 {H : Hp} : hideL [] H = H := by
  funext b
  unfold hideL
  rw [if_neg List.not_mem_nil]
theorem hide_nil {H : Hp} {a : Addr} {o : HO} (h : H a = some o) : (hideL [] H) a = some o := by
  rw [hide0]
  exact h
theorem Rp.hide_nil {H : Hp} {v : V} {d : PyData} (h : Rp H v d) : Rp (hideL [] H) v d := by
  rw [hide0]
  exact h
theorem Sep.startM {M : List Addr} {G H : Hp} (e : Same G H) (hM : ∀ a ∈ M, H a ≠ none) (hG : ∀ a ∈ M, G a = none) : Sep M H G G H M :=
  ⟨fun _ _ e _ => e, hM, e, Same.refl _, fun _ _ e => e, fun a ha => ⟨hG a ha, hM a ha, .inl ha⟩⟩
theorem Sep.gno {M : List Addr} {H0 G0 G H : Hp} {O L : List Addr} (S : Sep M H0 G0 G H O) (h : ∀ a ∈ L, a ∈ O) : ∀ a ∈ L, G a = none := fun a ha => (S.ow a (h a ha)).1
theorem RpAll.ixD {α : Type} [Inhabited α] {f : α → PyData} {H : Hp} {vs : List V} {xs : List α} {k : Int} (r : RpAll H vs (xs.map f)) (h : -(xs.length : Int) ≤ k ∧ k < xs.length) : ∃ v, atI vs k = some v ∧ Rp H v (f (itD xs k)) := by
  obtain ⟨v, x, h1, h2, h3⟩ := RpAll.ix r h
  refine ⟨v, h1, ?_⟩
  unfold itD
  rw [h2]
  exact h3
theorem tru_all {α : Type} [DecidableEq α] {f : α → PyData} {H : Hp} {vs : List V} {xs : List α} (r : RpAll H vs (xs.map f)) : (!decide (xs = [])) = !vs.isEmpty := by
  have h := r.len
  rw [List.length_map] at h
  cases xs <;> cases vs <;> simp_all
theorem ix_nn {α : Type} {xs : List α} {k : Int} (h0 : 0 ≤ k) (h1 : k < xs.length) : -(xs.length : Int) ≤ k ∧ k < xs.length := ⟨by omega, h1⟩
theorem all_nilQ {α : Type} {P : α → Prop} : ∀ x ∈ ([] : List α), P x := fun x h => by cases h
theorem all_consQ {α : Type} {P : α → Prop} {a : α} {l : List α} (h : P a) (t : ∀ x ∈ l, P x) : ∀ x ∈ a :: l, P x := fun x hx => by
  rcases List.mem_cons.mp hx with rfl | hx
  · exact h
  · exact t x hx
theorem mem_one {a b : Nat} (h : a ∈ [b]) : a = b := by simpa using h
theorem mem_cons2 {a b : Nat} {l : List Nat} (h : a ∈ b :: l) : a = b ∨ a ∈ l := List.mem_cons.mp h
theorem len0 {α : Type} {l : List α} (h : l.length = 0) : l = [] := List.length_eq_zero_iff.mp h
theorem len1 {α : Type} {l : List α} (h : l.length = 1) : ∃ a, l = [a] := List.length_eq_one_iff.mp h
theorem len_s {α : Type} {l : List α} {n : Nat} (h : l.length = n + 1) : ∃ a r, l = a :: r ∧ r.length = n := by
  cases l with
  | nil => cases h
  | cons a r => exact ⟨a, r, rfl, Nat.succ.inj h⟩
theorem len2 {α : Type} {l : List α} (h : l.length = 2) : ∃ a b, l = [a, b] := by
  obtain ⟨a, r, rfl, h2⟩ := len_s h
  obtain ⟨b, rfl⟩ := len1 h2
  exact ⟨a, b, rfl⟩
theorem len3 {α : Type} {l : List α} (h : l.length = 3) : ∃ a b c, l = [a, b, c] := by
  obtain ⟨a, r, rfl, h2⟩ := len_s h
  obtain ⟨b, c, rfl⟩ := len2 h2
  exact ⟨a, b, c, rfl⟩
theorem len4 {α : Type} {l : List α} (h : l.length = 4) : ∃ a b c d, l = [a, b, c, d] := by
  obtain ⟨a, r, rfl, h2⟩ := len_s h
  obtain ⟨b, c, d, rfl⟩ := len3 h2
  exact ⟨a, b, c, d, rfl⟩
theorem len5 {α : Type} {l : List α} (h : l.length = 5) : ∃ a b c d e, l = [a, b, c, d, e] := by
  obtain ⟨a, r, rfl, h2⟩ := len_s h
  obtain ⟨b, c, d, e, rfl⟩ := len4 h2
  exact ⟨a, b, c, d, e, rfl⟩
theorem len6 {α : Type} {l : List α} (h : l.length = 6) : ∃ a b c d e f, l = [a, b, c, d, e, f] := by
  obtain ⟨a, r, rfl, h2⟩ := len_s h
  obtain ⟨b, c, d, e, f, rfl⟩ := len5 h2
  exact ⟨a, b, c, d, e, f, rfl⟩
theorem len7 {α : Type} {l : List α} (h : l.length = 7) : ∃ a b c d e f g, l = [a, b, c, d, e, f, g] := by
  obtain ⟨a, r, rfl, h2⟩ := len_s h
  obtain ⟨b, c, d, e, f, g, rfl⟩ := len6 h2
  exact ⟨a, b, c, d, e, f, g, rfl⟩
def rLenTK (K : PySem.W.Frag) : List V → Hp → VK → Prop := fun xs H Q => ∃ (p : Addr) (vs : List V) (n : Nat), xs = [.ref p] ∧ SqT K H p vs ∧ vs.length = n ∧ Q (.int (n : Int)) H
theorem call_lenTK {X : Cx} {K : PySem.W.Frag} (hK : X.K = K := by rfl) : CallR X (.builtin "len") (rLenTK K) := by
  subst hK
  intro pins s σ H xs us Q I r h
  obtain ⟨p, vs, n, rfl, hs, hn, q⟩ := h
  exact call_len_seq pins s σ H _ us Q I r ⟨p, _, rfl, Or.inr hs, by rw [hn]; exact q⟩
theorem exm_mk {K : PySem.W.Frag} {S C : Addr} (h1 : PySem.W.subIn K (.ref C) (.type "BaseException") = some true) (h2 : PySem.W.isClsIn K C = true) (h3 : PySem.W.typeIn K (.ref C) = some (.type "type")) (h4 : PySem.W.subIn K (.ref S) (.ref C) = some true) :
    PySem.W.exmOne K (.ref S) (.ref C) = some true := by
  unfold PySem.W.isClsIn at h2
  unfold PySem.W.exmOne
  unfold PySem.W.kitCls
  simp only [h1, h2, h3, h4, beq_self_eq_true, Bool.and_self, if_true]
theorem kit_mk {K : PySem.W.Frag} {S C : Addr} (h2 : PySem.W.isClsIn K C = true) (h3 : PySem.W.typeIn K (.ref C) = some (.type "type")) (h4 : PySem.W.subIn K (.ref S) (.ref C) = some true) :
    PySem.W.kitOne K (.ref S) (.ref C) = some true := by
  unfold PySem.W.isClsIn at h2
  unfold PySem.W.kitOne
  split
  · rfl
  · unfold PySem.W.kitCls
    simp only [h2, h3, h4, beq_self_eq_true, Bool.and_self, if_true]
/-- isinstance(e, C) of the exception in hand -/
def rIsX (K : PySem.W.Frag) (a : Addr) (cls : Value) (d : Option Addr) : List V → Hp → VK → Prop := fun xs H Q => ∃ (D C : Addr) (b : Bool), cls = .ref D ∧ d = none ∧ ExcC K D ∧ xs = [.ref a, .ref C] ∧ PySem.W.kitOne K (.ref D) (.ref C) = some b ∧ Q (.bl b) H
theorem call_isX {X : Cx} {K : PySem.W.Frag} {a : Addr} {cls : Value} {d : Option Addr} {oe : Obj} {pn : List (Addr × Obj)} (hz : Zc cls d oe) (hf : ∃ vs, oe.data = .fields vs) (hK : X.K = K := by rfl) : CallR (X.suite a ((a, oe) :: pn)) (.builtin "isinstance") (rIsX K a cls d) := by
  subst hK
  intro pins s σ H xs us Q I r h
  obtain ⟨D, C, b, rfl, rfl, c, rfl, e, q⟩ := h
  exact call_isE c hz hf pins s σ H _ us Q I r ⟨_, _, b, rfl, fun u z => z, e, q⟩
/-! ### unpacking a list -/
section
variable {X : Cx} {K : PySem.W.Frag} {pos : Pos}
theorem pg_seqK {es : List Expr} {k : Nat} {t : TGs} {n : Nat} (h : PGs X es t) (hc : X.calm = true := by rfl) (hK : X.K = K := by rfl)
    (hn : (assignEach es X.env).length = n := by rfl) (hst : (assignEach es X.env).findIdx? (·.1) = none := by rfl) : PG X (.Tuple es k pos) (gLst K n t) := hK ▸ pg_lst hc h hn hst
end
theorem SqL.cast {K : PySem.W.Frag} {H : Hp} {a : Addr} {xs ys : List V} (h : SqL K H a xs) (e : xs = ys) : SqL K H a ys := e ▸ h
section
variable {α : Type} [Inhabited α] {f : α → V}
theorem unp2 {xs : List α} (h : xs.length = 2) : xs.map f = [f (itD xs 0), f (itD xs 1)] := by
  obtain ⟨a, b, rfl⟩ := len2 h
  rfl
theorem unp3 {xs : List α} (h : xs.length = 3) : xs.map f = [f (itD xs 0), f (itD xs 1), f (itD xs 2)] := by
  obtain ⟨a, b, c, rfl⟩ := len3 h
  rfl
theorem unp4 {xs : List α} (h : xs.length = 4) : xs.map f = [f (itD xs 0), f (itD xs 1), f (itD xs 2), f (itD xs 3)] := by
  obtain ⟨a, b, c, d, rfl⟩ := len4 h
  rfl
theorem unp6 {xs : List α} (h : xs.length = 6) : xs.map f = [f (itD xs 0), f (itD xs 1), f (itD xs 2), f (itD xs 3), f (itD xs 4), f (itD xs 5)] := by
  obtain ⟨a, b, c, d, e, g, rfl⟩ := len6 h
  rfl
theorem unp8 {xs : List α} (h : xs.length = 8) : xs.map f = [f (itD xs 0), f (itD xs 1), f (itD xs 2), f (itD xs 3), f (itD xs 4), f (itD xs 5), f (itD xs 6), f (itD xs 7)] := by
  obtain ⟨a, r, rfl, h2⟩ := len_s h
  obtain ⟨b, c, d, e, g, i, j, rfl⟩ := len7 h2
  rfl
end
/-! ### classes -/
section
variable {P : Program} {w : World} {K : PySem.W.Frag} {mg : Str → Option Value} {base : Heap}
structure MethX (K : PySem.W.Frag) (C : Addr) (q m : Str) (st : Stmt) (ps : List Str) (pats : List Pat) : Prop where
  ex : ∃ (f : Addr) (fd : FuncData) (dvs : List V) (kws : List (Str × V)), FunD K m q (defArgs st) (defBody st) (defScope st) dvs kws f fd ∧ Meth K C m f ∧ ∀ p ∈ pats, Bnd1 K fd ps p
structure InitX (K : PySem.W.Frag) (mg : Str → Option Value) (C : Addr) (cn q : Str) (st : Stmt) (ps : List Str) (pats : List Pat) : Prop where
  ex : ∃ (f : Addr) (fd : FuncData) (dvs : List V) (kws : List (Str × V)), FunD K "__init__" q (defArgs st) (defBody st) (defScope st) dvs kws f fd ∧ Mk K C f ∧ mg cn = some (.ref C) ∧ ∀ p ∈ pats, Bnd1 K fd ps p
structure PropX (K : PySem.W.Frag) (C : Addr) (q m : Str) (st : Stmt) (ps : List Str) (pats : List Pat) : Prop where
  ex : ∃ (r f : Addr) (fd : FuncData) (dvs : List V) (kws : List (Str × V)), FunD K m q (defArgs st) (defBody st) (defScope st) dvs kws f fd ∧ PropOf K C m r f ∧ Binds K fd ps []
structure MetX (P : Program) (w : World) (K : PySem.W.Frag) (mg : Str → Option Value) (base : Heap) (k : Nat) (C : Addr) (m : Str) (sp : Sp) (pats : List Pat) : Prop where
  ex : ∃ (f : Addr) (fd : FuncData) (ps : List Str), Cls K C ∧ Meth K C m f ∧ FnG P w K mg base (L2.CX P w) k f fd ps sp ∧ ∀ p ∈ pats, Bnd1 K fd ps p
structure PropY (P : Program) (w : World) (K : PySem.W.Frag) (mg : Str → Option Value) (base : Heap) (k : Nat) (C : Addr) (m : Str) (sp : Sp) (pats : List Pat) : Prop where
  ex : ∃ (q f : Addr) (fd : FuncData) (ps : List Str), Cls K C ∧ PropOf K C m q f ∧ FnG P w K mg base (L2.CX P w) k f fd ps sp ∧ Binds K fd ps []
structure MakX (P : Program) (w : World) (K : PySem.W.Frag) (mg : Str → Option Value) (base : Heap) (k : Nat) (cn : Str) (C : Addr) (sp : Sp) (pats : List Pat) : Prop where
  ex : ∃ (f : Addr) (fd : FuncData) (ps : List Str), Mk K C f ∧ FnG P w K mg base (L2.CX P w) k f fd ps sp ∧ mg cn = some (.ref C) ∧ ∀ p ∈ pats, Bnd1 K fd ps p
theorem MethX.ok {C : Addr} {q m : Str} {st : Stmt} {N ps : List Str} {pats : List Pat} {k : Nat} {sp : Sp} (D : MethX K C q m st ps pats) (c : Cls K C) (S : FnScope N ps (defScope st)) (len : ∀ vs H Q E, sp vs H Q E → vs.length = ps.length)
    (hbody : BodyX P w K mg base q st N k sp) : MetX P w K mg base (k + 1) C m sp pats := by
  obtain ⟨f, fd, dvs, kws, F, me, b⟩ := D.ex
  exact ⟨f, fd, ps, c, me, FnG.body F S len (fun cdv A outer s H vs Q E hr h => hbody f cdv A outer s H vs Q E hr h), b⟩
theorem PropX.ok {C : Addr} {q m : Str} {st : Stmt} {N ps : List Str} {pats : List Pat} {k : Nat} {sp : Sp} (D : PropX K C q m st ps pats) (c : Cls K C) (S : FnScope N ps (defScope st)) (len : ∀ vs H Q E, sp vs H Q E → vs.length = ps.length)
    (hbody : BodyX P w K mg base q st N k sp) : PropY P w K mg base (k + 1) C m sp pats := by
  obtain ⟨r, f, fd, dvs, kws, F, me, b⟩ := D.ex
  exact ⟨r, f, fd, ps, c, me, FnG.body F S len (fun cdv A outer s H vs Q E hr h => hbody f cdv A outer s H vs Q E hr h), b⟩
theorem InitX.ok {C : Addr} {cn q : Str} {st : Stmt} {N ps : List Str} {pats : List Pat} {k : Nat} {sp : Sp} (D : InitX K mg C cn q st ps pats) (S : FnScope N ps (defScope st)) (len : ∀ vs H Q E, sp vs H Q E → vs.length = ps.length)
    (hbody : BodyX P w K mg base q st N k sp) : MakX P w K mg base (k + 1) cn C sp pats := by
  obtain ⟨f, fd, dvs, kws, F, me, hm, b⟩ := D.ex
  exact ⟨f, fd, ps, me, FnG.body F S len (fun cdv A outer s H vs Q E hr h => hbody f cdv A outer s H vs Q E hr h), hm, b⟩
end
theorem cW_callN {α β : Type} {m : Rx β} {f : β → Rx α} {K : α → Prop} {E : Nat → Prop} {K2 : β → Prop} {E2 : Nat → Prop} (h : cW ((noEr m).bind f) K E) (ho : ∀ v, cW (f v) K E → K2 v) (_ : True) : cW m K2 E2 := by
  cases m with
  | ok a => exact cW_mk (ho a h)
  | er e => exact cW_bad (α := α) h
  | bad => exact cW_bad (α := α) h
section
variable {X : Cx} {k j n : Nat} {f C : Addr} {fd : FuncData} {ps ks : List Str} {g : List V → List V → List V} {sp : Sp} {x m : Str} {pos p apos : Pos} {e o : Expr} {es : List Expr} {kws : List Keyword} {ta : TE} {t tk : TA} {W : WX}
theorem run_mkX {pins : List (Addr × Obj)} {σ : L2.St} {H : Hp} {s : Shared} {Q : VK} {us ws : List Value} {vs zs : List V} (M : Mk X.K C f) (F : FnG X.prog X.w X.K X.mg X.base (L2.CX X.prog X.w) k f fd ps sp) (hr : RoomG (k + 1) X.A) (hb : Bnd X.K fd ps n ks g) (tkW : Takes X W)
    (I : Inv X pins σ H s) (r : Vals vs us) (rz : Vals zs ws) (l1 : vs.length + 1 = n) (l2 : zs.length = ks.length)
    (h : ∀ x dx, H x = none → H dx = none → dx ≠ x → sp (g (.ref x :: vs) zs) (upd (upd H dx (.own x)) x (.ins C dx [])) (fun v H2 => v = .non ∧ Q (.ref x) H2) (WE W σ)) :
    wpAny (model X.prog X.w) X.A (call (.ref C) us (ks.zip ws)) (EP X pins σ Q) X.xe s := by
  have hq := h (s.heap.objs.size + 1) s.heap.objs.size (I.hok.fresh (Nat.le_succ _)) (I.hok.fresh (Nat.le_refl _)) (Nat.ne_of_lt (Nat.lt_succ_self _))
  have I2 := Inv.made (C := C) I
  have r1 : Vals (V.ref (s.heap.objs.size + 1) :: vs) (Value.ref (s.heap.objs.size + 1) :: us) := .cons rfl r
  obtain ⟨vv, b, r2⟩ := hb.to _ (Value.ref (s.heap.objs.size + 1) :: us) ws (V.ref (s.heap.objs.size + 1) :: vs) zs I2.kIn (by rw [List.length_cons, l1]) l2 r1 rz
  refine wpAny_call (make_map (f := f) I.kIn M.makes M.init (beq_iff_eq.mp M.fn) (codeAny_mono (F.run _ X.stack _ _ ⟨Value.ref (s.heap.objs.size + 1) :: us, ks.zip ws⟩ vv _ _ (WE W σ) (hr.made C us (ks.zip ws))
    (I2.env0.make C us (ks.zip ws)) b r2 hq) fun r s' hq' => ?_))
  cases r with
  | error e => exact passAt tkW σ pins _ _ e s' I2 hq'
  | ok fl =>
    cases fl with
    | ret u =>
      obtain ⟨v, H', I3, rv, ev, q3⟩ := I2.after hq'
      subst ev
      exact ⟨rv, ⟨V.ref (s.heap.objs.size + 1), H', I3, rfl, q3⟩⟩
    | next => exact False.elim hq'
    | brk => exact False.elim hq'
    | cont => exact False.elim hq'
/-- C(e, .., k = v, ..) -/
def tMakeX (C : Addr) (n m : Nat) (sp : Sp) (g : List V → List V → List V) (W : WX) (t tk : TA) : TE := fun σ H Q => t σ H fun vs H1 => tk σ H1 fun zs H2 => vs.length + 1 = n ∧ zs.length = m ∧ ∀ x dx, H2 x = none → H2 dx = none → dx ≠ x →
  sp (g (.ref x :: vs) zs) (upd (upd H2 dx (.own x)) x (.ins C dx [])) (fun v H3 => v = .non ∧ Q (.ref x) H3) (WE W σ)
theorem vx_makeX {pats : List Pat} (c : MakX X.prog X.w X.K X.mg X.base k x C sp pats) (pt : Pat) (hpt : pt ∈ pats) (hr : RoomG j X.A) (hk : k + 1 ≤ j) (tkW : Takes X W) (hg : Gl X x) (ha : PA X (e :: es) t) (hkw : PK X kws tk)
    (hall : (backToKw pos (keywordEach kws X.env)).all (·.1.isSome) = true := by rfl) (hks : (backToKw pos (keywordEach kws X.env)).filterMap (·.1) = pt.2.1 := by rfl) (hdb : (x == ("__debug__" : Str)) = false := by decide)
    (he : starEach (e :: es) X.env = (false, eval e X.env) :: starEach es X.env := by rfl) (hpl : ((backTo pos (starEach (e :: es) X.env)).any (·.1) || (backToKw pos (keywordEach kws X.env)).any (·.1.isNone)) = false := by rfl) :
    PE X (.Call (.Name x p) (e :: es) kws pos) (tMakeX C pt.1 pt.2.1.length sp pt.2.2 W t tk) := by
  obtain ⟨f, fd, ps, M, F, hm, b⟩ := c.ex
  refine ⟨fun pins s σ H Q I h => ?_⟩
  refine wpAny_Call_Name_kw (ld_glob I hg hm ?_ hdb)
  refine PySem.W.callWith_KW (h₀ := X.base) I.ok.mod.kin M.kp hall (thn (ha.run pos pins s σ H _ I h) fun us s1 ⟨vs, H1, I1, r, q⟩ => ?_) hpl he
  refine thn (hkw.run pos pins s1 σ H1 _ I1 q) fun ws s2 ⟨zs, H2, I2, rz, l1, l2, q2⟩ => ⟨I2.kIn, ?_⟩
  rw [hks]
  exact run_mkX M F (hr.low hk) (b pt hpt) tkW I2 r rz l1 l2 q2
theorem vx_makeX0 {pats : List Pat} (c : MakX X.prog X.w X.K X.mg X.base k x C sp pats) (pt : Pat) (hpt : pt ∈ pats) (hr : RoomG j X.A) (hk : k + 1 ≤ j) (tkW : Takes X W) (hg : Gl X x) (hks : pt.2.1 = [] := by rfl)
    (hdb : (x == ("__debug__" : Str)) = false := by decide) : PE X (.Call (.Name x p) [] [] pos) (tMakeX C pt.1 pt.2.1.length sp pt.2.2 W tNil tNil) := by
  obtain ⟨f, fd, ps, M, F, hm, b⟩ := c.ex
  refine ⟨fun pins s σ H Q I h => ?_⟩
  refine wpAny_Call_Name_kw (ld_glob I hg hm ?_ hdb)
  obtain ⟨l1, l2, q2⟩ := h
  have hz := run_mkX (us := []) (ws := []) M F (hr.low hk) (b pt hpt) tkW I .nil .nil l1 l2 q2
  rw [hks] at hz
  exact PySem.W.callWith_K0 I.kIn M.kp hz
/-- o.m(e, .., k = v, ..) -/
def tMethX (C : Addr) (m : Str) (n mm : Nat) (sp : Sp) (g : List V → List V → List V) (W : WX) (ta : TE) (t tk : TA) : TE := fun σ H Q => ta σ H fun x H1 => ∃ a dx fs, x = .ref a ∧ H1 a = some (.ins C dx fs) ∧ fs.lookup m = none ∧
  t σ H1 fun vs H2 => tk σ H2 fun zs H3 => (x :: vs).length = n ∧ zs.length = mm ∧ sp (g (x :: vs) zs) H3 Q (WE W σ)
theorem vx_methX {pats : List Pat} {pl : Sem Bool} (c : MetX X.prog X.w X.K X.mg X.base k C m sp pats) (pt : Pat) (hpt : pt ∈ pats) (hr : RoomG j X.A) (hk : k ≤ j) (tkW : Takes X W) (he : PE X o ta) (ha : PA X (e :: es) t) (hkw : PK X kws tk)
    (hall : (backToKw pos (keywordEach kws X.env)).all (·.1.isSome) = true := by rfl) (hks : (backToKw pos (keywordEach kws X.env)).filterMap (·.1) = pt.2.1 := by rfl)
    (hst : starEach (e :: es) X.env = (false, eval e X.env) :: starEach es X.env := by rfl) (hpl : ((backTo pos (starEach (e :: es) X.env)).any (·.1) || (backToKw pos (keywordEach kws X.env)).any (·.1.isNone)) = false := by rfl)
    (ht : eval (.Call (.Attribute o m apos) (e :: es) kws pos) X.env = (do
      let ov ← eval o X.env
      standAt apos.atName
      let (f, first) ← holding [ov] (getMethod ov m pl)
      callWith pos f first (backTo pos (starEach (e :: es) X.env)) (backToKw pos (keywordEach kws X.env))) := by rfl) :
    PE X (.Call (.Attribute o m apos) (e :: es) kws pos) (tMethX C m pt.1 pt.2.1.length sp pt.2.2 W ta t tk) := by
  obtain ⟨f, fd, ps, hc, hm, F, b⟩ := c.ex
  refine ⟨fun pins s σ H Q I h => ?_⟩
  refine PySem.W.methodCall_KW (pl := pl) (thn (he.run pins s σ H _ I h) fun u s1 ⟨x, H1, I1, rx, a, dx, fs, ex, ea, l, q⟩ => ?_) ht
  subst ex
  obtain rfl : u = Value.ref a := rx
  refine getmeth_ok I1 ea hc hm l ?_
  refine PySem.W.callWith_KW (first := [.ref a]) (h₀ := X.base) I.ok.mod.kin hm.kp hall (thn (ha.run pos pins s1 σ H1 _ I1 q) fun us s2 ⟨vs, H2, I2, r, q2⟩ => ?_) hpl hst
  refine thn (hkw.run pos pins s2 σ H2 _ I2 q2) fun ws s3 ⟨zs, H3, I3, rz, l1, l2, q3⟩ => ⟨I3.kIn, ?_⟩
  rw [hks]
  exact run_X (us := .ref a :: us) (vs := .ref a :: vs) F (hr.low hk) (b pt hpt) tkW I3 (.cons rfl r) rz l1 l2 q3
theorem vx_methX0 {pats : List Pat} {pl : Sem Bool} (c : MetX X.prog X.w X.K X.mg X.base k C m sp pats) (pt : Pat) (hpt : pt ∈ pats) (hr : RoomG j X.A) (hk : k ≤ j) (tkW : Takes X W) (he : PE X o ta) (hks : pt.2.1 = [] := by rfl)
    (ht : eval (.Call (.Attribute o m apos) [] [] pos) X.env = (do
      let ov ← eval o X.env
      standAt apos.atName
      let (f, first) ← holding [ov] (getMethod ov m pl)
      callWith pos f first (backTo pos (starEach [] X.env)) (backToKw pos (keywordEach [] X.env))) := by rfl) :
    PE X (.Call (.Attribute o m apos) [] [] pos) (tMethX C m pt.1 pt.2.1.length sp pt.2.2 W ta tNil tNil) := by
  obtain ⟨f, fd, ps, hc, hm, F, b⟩ := c.ex
  refine ⟨fun pins s σ H Q I h => ?_⟩
  refine PySem.W.methodCall_KW (pl := pl) (thn (he.run pins s σ H _ I h) fun u s1 ⟨x, H1, I1, rx, a, dx, fs, ex, ea, l, q⟩ => ?_) ht
  subst ex
  obtain rfl : u = Value.ref a := rx
  refine getmeth_ok I1 ea hc hm l ?_
  obtain ⟨l1, l2, q3⟩ := q
  have hz := run_X (us := [.ref a]) (vs := [.ref a]) (ws := []) F (hr.low hk) (b pt hpt) tkW I1 (.cons rfl .nil) .nil l1 l2 q3
  rw [hks] at hz
  exact PySem.W.callWith_K0 (first := [.ref a]) I1.kIn hm.kp hz
theorem vx_propX {pats : List Pat} (c : PropY X.prog X.w X.K X.mg X.base k C m sp pats) (hr : RoomG j X.A) (hk : k + 1 ≤ j) (he : PE X o ta) (hab : attributeBase o m X.env (eval o X.env) = eval o X.env := by rfl) : PE X (.Attribute o m pos) (tProp C sp [] E0 ta) := by
  obtain ⟨q, f, fd, ps, cls, prop, F, bind⟩ := c.ex
  constructor
  intro pins s σ H Q I h
  refine attr_of hab (thn (he.run pins s σ H _ I h) ?_)
  rintro u s1 ⟨x, H1, I1, rx, a, dx, fs, rfl, ea, prom⟩
  cases rx
  obtain ⟨mA, O, _⟩ := ins_get I1.hok ea
  obtain ⟨od, J, _⟩ := O.look
  obtain ⟨rest, rec_⟩ := prop.rec_
  have short : [Value.ref a].length = ps.length := (F.len _ _ _ _ prom).symm ▸ rfl
  have isCls : (PySem.W.clsIn X.K C).isSome = true := by
    obtain ⟨cd, e, _⟩ := PySem.W.any_some cls.hd
    rw [e]
    rfl
  refine PySem.W.get_bind I1.kIn J (PySem.W.plainGet_of (cls.get m)).1 (PySem.W.findObj_data isCls prop.at_ prop.get prop.tak) (PySem.W.plainGet_of (cls.get m)).2 (wpAny_call (PySem.W.prop_get (s := { s1 with toks := s1.toks + 1 }) I1.kIn rec_ ?_))
  have I2 := I1.tok (s1.toks + 1)
  refine codeAny_mono (F.run X.A.in1 X.stack _ H1 ⟨[.ref a], []⟩ [.ref a] [.ref a] Q E0 (hr.low hk).one I2.env0.in1 (by simpa using bind _ [.ref a] I2.kIn (by simpa using short)) (.cons rfl .nil) prom) ?_
  intro r s2 out
  cases r with
  | error er => exact (passL (X := X.nox) pins σ H1 _ er s2 (I2.wish _) out).elim
  | ok flow =>
    cases flow with
    | ret v =>
      obtain ⟨y, H2, I3, ry, qy⟩ := I2.after out
      have given := PySem.W.handedOut_of (handed_of ry)
      show wpAny _ _ (handedOut v) _ _ s2
      rw [given]
      exact wpAny_pure ⟨y, H2, I3, ry, qy⟩
    | next => exact out.elim
    | brk => exact out.elim
    | cont => exact out.elim
end
theorem Sep.news {M : List Addr} {H0 G0 G H H' : Hp} {O : List Addr} (S : Sep M H0 G0 G H O) (e : Same H H') (L : List Addr) (hL : ∀ a ∈ L, H a = none ∧ H' a ≠ none ∧ H0 a = none) : Sep M H0 G0 G H' (L ++ O) := by
  have S2 := S.same e
  refine ⟨S2.base, S2.pm, S2.sG, S2.g0, S2.gn, fun a ha => ?_⟩
  rcases List.mem_append.mp ha with h | h
  · obtain ⟨h1, h2, h3⟩ := hL a h
    exact ⟨S.gfree h1, h2, .inr h3⟩
  · exact S2.ow a h
theorem vv_chain {r r' : R2} {ta tb tc : TE} {σ : L2.St} {H : Hp} {x y z : V} {a b : Bool} (ha : Val ta σ H x) (hb : Val tb σ H y) (hc : Val tc σ H z) (h1 : ∀ Q : VK, Q (.bl a) H → r x y H Q) (h2 : ∀ Q : VK, Q (.bl b) H → r' y z H Q) :
    Val (tChain r r' ta tb tc) σ H (.bl (a && b)) := fun Q q => ha _ (hb _ (h1 _ ⟨a, rfl, by
  cases a with
  | true =>
    rw [if_pos rfl]
    exact hc _ (h2 _ q)
  | false =>
    rw [if_neg Bool.false_ne_true]
    exact q⟩))
/-! ### constants that are tuples, lists backwards, zip -/
theorem inV_ints (x : Int) : ∀ xs : List Int, inV (V.int x) (xs.map V.int) = decide (x ∈ xs)
  | [] => by simp [inV]
  | y :: r => by
    have h := inV_ints x r
    unfold inV at h ⊢
    rw [List.map_cons, List.any_cons, h]
    by_cases c : x = y
    · subst c
      simp [eqV]
    · simp [eqV, c, Ne.symm c]
theorem flat_ints : ∀ xs : List Int, (xs.map V.int).all flatV = true
  | [] => rfl
  | _ :: r => flat_ints r
def rInI (K : PySem.W.Frag) : R2 := fun x y H Q => ∃ (i : Int) (p : Addr) (xs : List Int), x = .int i ∧ y = .ref p ∧ (SqL K H p (xs.map V.int) ∨ SqT K H p (xs.map V.int)) ∧ Q (.bl (decide (i ∈ xs))) H
def rNotInI (K : PySem.W.Frag) : R2 := fun x y H Q => ∃ (i : Int) (p : Addr) (xs : List Int), x = .int i ∧ y = .ref p ∧ (SqL K H p (xs.map V.int) ∨ SqT K H p (xs.map V.int)) ∧ Q (.bl (!decide (i ∈ xs))) H
theorem op_inI {X : Cx} {K : PySem.W.Frag} (hK : X.K = K := by rfl) : OpR X (compareOp .In) (rInI K) := by
  subst hK
  intro pins s σ H x y v u Q I rx ry h
  obtain ⟨i, p, xs, rfl, rfl, hs, q⟩ := h
  refine op_in_seq pins s σ H _ _ v u Q I rx ry ⟨p, _, rfl, hs, rfl, flat_ints xs, ?_⟩
  rw [if_neg Bool.false_ne_true, inV_ints]
  exact q
theorem op_notInI {X : Cx} {K : PySem.W.Frag} (hK : X.K = K := by rfl) : OpR X (compareOp .NotIn) (rNotInI K) := by
  subst hK
  intro pins s σ H x y v u Q I rx ry h
  obtain ⟨i, p, xs, rfl, rfl, hs, q⟩ := h
  refine op_notIn_seq pins s σ H _ _ v u Q I rx ry ⟨p, _, rfl, hs, rfl, flat_ints xs, ?_⟩
  rw [if_pos rfl, inV_ints]
  exact q
theorem pe_revLK {X : Cx} {K : PySem.W.Frag} {e : Expr} {te : TE} {k : Nat} {p1 p2 p3 pos : Pos} (he : PE X e te) (hK : X.K = K := by rfl) : PE X (.Subscript e (.Slice none none (some (.UnaryOp .USub (.Constant (.int 1) k p1) p2)) p3) pos) (tRevL K te) := hK ▸ pe_revL he
theorem rev_map {α : Type} {f : α → V} {xs : List α} {H : Hp} {p : Addr} (h : H p = some (.lst (xs.map f).reverse)) : H p = some (.lst (xs.reverse.map f)) := by
  rw [List.map_reverse]
  exact h
theorem RpAll.rev {G : Hp} : ∀ {vs : List V} {ds : List PyData}, RpAll G vs ds → RpAll G vs.reverse ds.reverse
  | _, _, .nil => .nil
  | _, _, .cons h t => by
    rw [List.reverse_cons, List.reverse_cons]
    exact (RpAll.rev t).append (.one h)
theorem rev_all {α : Type} {f : α → PyData} {xs : List α} {G : Hp} {vs : List V} (a : RpAll G vs (xs.map f)) : RpAll G vs.reverse (xs.reverse.map f) := by
  rw [List.map_reverse]
  exact a.rev
theorem pi_zipK {X : Cx} {K : PySem.W.Frag} {e e2 : Expr} {ta : TA} {p pos tpos : Pos} {elts : List Expr} {kk : Nat} (hg : Gl X "zip") (hm : X.mg "zip" = none) (ha : PA X [e, e2] ta) (hK : X.K = K := by rfl)
    (hs : starEach [e, e2] X.env = (false, eval e X.env) :: starEach [e2] X.env := by rfl) (hpl : (backTo pos (starEach [e2] X.env)).any (·.1) = false := by rfl) :
    PI X (.Tuple elts kk tpos) (.Call (.Name "zip" p) [e, e2] [] pos) (RZ.iZipA K ta) := hK ▸ RZ.pi_zipA hg hm ha hs hpl
/-- a comprehension over zip of two lists of one length -/
theorem lc_zipL {K : PySem.W.Frag} {a b : Addr} {xs ys : List V} {g : TG} {tt : TT} {te : TE} {vs : List Nat} {σ : L2.St} {H1 : Hp} {D : Addr} {Qd : Hp → Prop} (hl : xs.length = ys.length) (Pv : Nat → Hp → Prop) (h0 : Pv 0 (upd H1 D (.lst []))) (hq : ∀ i H, i ≤ xs.length → Pv i H → SqL K H a xs ∧ SqL K H b ys)
    (hs : ∀ (i : Nat) (x y : V) (T : Addr) (H : Hp), xs[i]? = some x → ys[i]? = some y → H T = none → Pv i H → g (.ref T) (wipe σ vs) (upd H T (.tup [x, y])) fun σ2 H2 => wipe σ2 vs = wipe σ vs ∧ tt σ2 H2 fun b H3 =>
      if b = true then te σ2 H3 fun y H4 => ∃ acc, H4 D = some (.lst acc) ∧ acc.length < sizeLine ∧ Pv (i + 1) (upd H4 D (.lst (acc ++ [y]))) else Pv (i + 1) H3) (hd : ∀ H, Pv xs.length H → Qd H) :
    ∃ W : Nat → Nat → Hp → Prop, (∃ m, W 0 m (upd H1 D (.lst []))) ∧ ∀ i m H, W i m H →
      ((Itz K a b).stop i H ∧ Qd H) ∨ ((Itz K a b).go i H ∧ ∃ Nx : Hp → Prop, (∀ H', Nx H' → ∃ m', m' < m ∧ W (i + 1) m' H') ∧ ∀ x H', (Itz K a b).yld i H x H' → g x (wipe σ vs) H' fun σ2 H2 => wipe σ2 vs = wipe σ vs ∧ tt σ2 H2 fun b H3 =>
        if b = true then te σ2 H3 fun y H4 => ∃ acc, H4 D = some (.lst acc) ∧ acc.length < sizeLine ∧ Nx (upd H4 D (.lst (acc ++ [y]))) else Nx H3) := by
  refine ⟨fun i m H => m = xs.length - i ∧ i ≤ xs.length ∧ Pv i H, ⟨xs.length, by simp, Nat.zero_le _, h0⟩, ?_⟩
  rintro i m H ⟨rfl, hi, p⟩
  obtain ⟨qx, qy⟩ := hq i H hi p
  by_cases hlt : i < xs.length
  · have hlt2 : i < ys.length := by omega
    refine .inr ⟨⟨xs, ys, xs[i], ys[i], qx, qy, List.getElem?_eq_getElem hlt, List.getElem?_eq_getElem hlt2⟩, Pv (i + 1), fun H' p' => ⟨xs.length - (i + 1), by omega, rfl, hlt, p'⟩, fun v H' y => ?_⟩
    obtain ⟨T, x', y', rfl, hT, rfl, f1, f2⟩ := y
    exact hs i x' y' T H (f1 xs qx) (f2 ys qy) hT p
  · have e : i = xs.length := by omega
    subst e
    exact .inl ⟨⟨xs, ys, qx, qy, Or.inl (Nat.le_refl _)⟩, hd H p⟩
theorem zip_get {α β : Type} {xs : List α} {ys : List β} {i : Nat} {x : α} {y : β} (h1 : xs[i]? = some x) (h2 : ys[i]? = some y) : (xs.zip ys)[i]? = some (x, y) := by
  rw [List.getElem?_zip_eq_some]
  exact ⟨h1, h2⟩
theorem zip_len {α β : Type} {xs : List α} {ys : List β} {n : Nat} (h : xs.length = ys.length) (e : n = xs.length) : n = (xs.zip ys).length := by
  rw [List.length_zip, ← h, Nat.min_self]
  exact e
theorem zlen {α β : Type} {vs ws : List V} {xs : List α} {ys : List β} (a : vs.length = xs.length) (b : ws.length = ys.length) (h : xs.length = ys.length) : vs.length = ws.length := by rw [a, b, h]
section
variable {t : TT} {ta tb : TE} {σ : L2.St} {H : Hp}
theorem vv_ifP {p : Prop} [Decidable p] {a b : Int} (ht : Ans t σ H (decide p)) (hx : p → Val ta σ H (.int a)) (hy : ¬ p → Val tb σ H (.int b)) : Val (tIf t ta tb) σ H (.int (if p then a else b)) := by
  by_cases h : p
  · have := vv_if (p := p) (a := a) (b := a) ht (hx h) (tb := ta) (hx h)
    intro Q q
    refine ht _ ?_
    rw [decide_eq_true h, if_pos rfl]
    rw [if_pos h] at q
    exact hx h _ q
  · intro Q q
    refine ht _ ?_
    rw [decide_eq_false h, if_neg Bool.false_ne_true]
    rw [if_neg h] at q
    exact hy h _ q
theorem vv_ifQ {c : Bool} {a b : Int} (ht : Ans t σ H c) (hx : c = true → Val ta σ H (.int a)) (hy : c = false → Val tb σ H (.int b)) : Val (tIf t ta tb) σ H (.int (if c = true then a else b)) := by
  intro Q q
  refine ht _ ?_
  cases c with
  | true =>
    rw [if_pos rfl]
    rw [if_pos rfl] at q
    exact hx rfl _ q
  | false =>
    rw [if_neg Bool.false_ne_true]
    rw [if_neg Bool.false_ne_true] at q
    exact hy rfl _ q
end
theorem kit_mk0 {K : PySem.W.Frag} {S C : Addr} (h1 : (Value.ref S == Value.ref C) = false) (h2 : PySem.W.isClsIn K C = true) (h3 : PySem.W.typeIn K (.ref C) = some (.type "type")) (h4 : PySem.W.subIn K (.ref S) (.ref C) = some false) :
    PySem.W.kitOne K (.ref S) (.ref C) = some false := by
  unfold PySem.W.isClsIn at h2
  unfold PySem.W.kitOne
  rw [if_neg (by rw [h1]; exact Bool.false_ne_true)]
  unfold PySem.W.kitCls
  simp only [h2, h3, h4, beq_self_eq_true, Bool.and_self, if_true]
theorem vv_call2 {ta tb : TE} {σ : L2.St} {H : Hp} {x y z : V} {r : List V → Hp → VK → Prop} (ha : Val ta σ H x) (hb : Val tb σ H y) (hr : ∀ Q : VK, Q z H → r [x, y] H Q) : Val (tCB r (tCons ta (tCons tb tNil))) σ H z := fun Q q => ha _ (hb _ (hr Q q))
/-! ### lists of data that the caller owns; values that are a truth value or a number -/
theorem Sep.stepnew {M : List Addr} {H0 G0 G H H' : Hp} {O : List Addr} {p : Addr} {o : HO} (S : Sep M H0 G0 G H O) {G' : Hp} (e : Same H H') (eG : Same G G') (sG : Same G' H') (hn : ∀ b, H b ≠ none → G b = none → G' b = none) (_n : H p = none) (h : H' p = some o) (g : G' p = none) (hm : H0 p = none) : Sep M H0 G0 G' H' (p :: O) := by
  have S2 := S.step e eG sG hn
  refine ⟨S2.base, S2.pm, S2.sG, S2.g0, S2.gn, fun a ha => ?_⟩
  rcases List.mem_cons.mp ha with rfl | ha
  · exact ⟨g, (fun z => by rw [z] at h; cases h), .inr hm⟩
  · exact S2.ow a ha
inductive Bi where
  | b (x : Bool)
  | n (i : Int)
deriving DecidableEq
def biV : Bi → V
  | .b x => .bl x
  | .n i => .int i
def Bi.el {α : Type} (v : Bi) (f : Bool → α) (g : Int → α) : α :=
  match v with
  | .b x => f x
  | .n i => g i
theorem cW_elb {α : Type} {x : Bool} {f : Bool → Rx α} {g : Int → Rx α} {K : α → Prop} {E : Nat → Prop} (h : cW (Bi.el (.b x) f g) K E) : cW (f x) K E := h
theorem cW_eln {α : Type} {x : Int} {f : Bool → Rx α} {g : Int → Rx α} {K : α → Prop} {E : Nat → Prop} (h : cW (Bi.el (.n x) f g) K E) : cW (g x) K E := h
theorem rp_tup4 {α β γ δ : Type} {f : α → PyData} {g : β → PyData} {h : γ → PyData} {i : δ → PyData} {H : Hp} {v : V} {x : α × β × γ × δ} (r : Rp H v (encT4 f g h i x)) : ∃ a v1 v2 v3 v4, v = .ref a ∧ H a = some (.tup [v1, v2, v3, v4]) ∧ Rp H v1 (f x.1) ∧ Rp H v2 (g x.2.1) ∧ Rp H v3 (h x.2.2.1) ∧ Rp H v4 (i x.2.2.2) := by
  unfold encT4 at r
  cases r with
  | tup h1 h2 =>
    cases h2 with
    | cons a b =>
      cases b with
      | cons b c =>
        cases c with
        | cons c d =>
          cases d with
          | cons d e =>
            cases e
            exact ⟨_, _, _, _, _, rfl, h1, a, b, c, d⟩
theorem rp_mk4 {α β γ δ : Type} {f : α → PyData} {g : β → PyData} {h : γ → PyData} {i : δ → PyData} {H : Hp} {a : Addr} {v1 v2 v3 v4 : V} {x : α} {y : β} {z : γ} {w : δ} (h1 : H a = some (.tup [v1, v2, v3, v4])) (r1 : Rp H v1 (f x)) (r2 : Rp H v2 (g y)) (r3 : Rp H v3 (h z)) (r4 : Rp H v4 (i w)) : Rp H (.ref a) (encT4 f g h i (x, y, z, w)) := .tup h1 (.cons r1 (.cons r2 (.cons r3 (.cons r4 .nil))))
theorem Sep.b0M {M : List Addr} {H0 G0 G H : Hp} {O : List Addr} (S : Sep M H0 G0 G H O) (h : ∀ a ∈ M, H a = H0 a) : Same H0 H := fun b o e => by
  by_cases z : b ∈ M
  · rw [h b z]
    exact e
  · exact S.base b o e z
section
variable {X : Cx} {k j n : Nat} {f C : Addr} {fd : FuncData} {ps ks : List Str} {g : List V → List V → List V} {sp : Sp} {x m : Str} {pos p apos : Pos} {e o : Expr} {es : List Expr} {kws : List Keyword} {ta : TE} {t tk : TA} {W : WX}
/-- keywords alone -/
theorem vx_makeXK {pats : List Pat} (c : MakX X.prog X.w X.K X.mg X.base k x C sp pats) (pt : Pat) (hpt : pt ∈ pats) (hr : RoomG j X.A) (hk : k + 1 ≤ j) (tkW : Takes X W) (hg : Gl X x) (hkw : PK X kws tk)
    (hall : (backToKw pos (keywordEach kws X.env)).all (·.1.isSome) = true := by rfl) (hks : (backToKw pos (keywordEach kws X.env)).filterMap (·.1) = pt.2.1 := by rfl) (hdb : (x == ("__debug__" : Str)) = false := by decide)
    (hpl : ((backTo pos (starEach [] X.env)).any (·.1) || (backToKw pos (keywordEach kws X.env)).any (·.1.isNone)) = false := by rfl) :
    PE X (.Call (.Name x p) [] kws pos) (tMakeX C pt.1 pt.2.1.length sp pt.2.2 W tNil tk) := by
  obtain ⟨f, fd, ps, M, F, hm, b⟩ := c.ex
  refine ⟨fun pins s σ H Q I h => ?_⟩
  refine wpAny_Call_Name_kw (ld_glob I hg hm ?_ hdb)
  refine PySem.W.callWith_KW0 (h₀ := X.base) I.ok.mod.kin M.kp hall ?_ hpl
  refine thn (hkw.run pos pins s σ H _ I h) fun ws s2 ⟨zs, H2, I2, rz, l1, l2, q2⟩ => ⟨I2.kIn, ?_⟩
  rw [hks]
  exact run_mkX (us := []) (vs := []) M F (hr.low hk) (b pt hpt) tkW I2 .nil rz l1 l2 q2
theorem vx_callXK {pats : List Pat} (c : CalX X.prog X.w X.K X.mg X.base k x sp pats) (pt : Pat) (hpt : pt ∈ pats) (hr : RoomG j X.A) (hk : k ≤ j) (tkW : Takes X W) (hg : Gl X x) (hkw : PK X kws tk)
    (hall : (backToKw pos (keywordEach kws X.env)).all (·.1.isSome) = true := by rfl) (hks : (backToKw pos (keywordEach kws X.env)).filterMap (·.1) = pt.2.1 := by rfl) (hdb : (x == ("__debug__" : Str)) = false := by decide)
    (hpl : ((backTo pos (starEach [] X.env)).any (·.1) || (backToKw pos (keywordEach kws X.env)).any (·.1.isNone)) = false := by rfl) :
    PE X (.Call (.Name x p) [] kws pos) (tCallX pt.1 pt.2.1.length sp pt.2.2 W tNil tk) := by
  obtain ⟨f, fd, ps, F, hm, kp, b⟩ := c.ex
  refine ⟨fun pins s σ H Q I h => ?_⟩
  refine wpAny_Call_Name_kw (ld_glob I hg hm ?_ hdb)
  refine PySem.W.callWith_KW0 (h₀ := X.base) I.ok.mod.kin kp hall ?_ hpl
  refine thn (hkw.run pos pins s σ H _ I h) fun ws s2 ⟨zs, H2, I2, rz, l1, l2, q2⟩ => ⟨I2.kIn, ?_⟩
  rw [hks]
  exact run_X (us := []) (vs := []) F (hr.low hk) (b pt hpt) tkW I2 .nil rz l1 l2 q2
theorem vx_methXK {pats : List Pat} {pl : Sem Bool} (c : MetX X.prog X.w X.K X.mg X.base k C m sp pats) (pt : Pat) (hpt : pt ∈ pats) (hr : RoomG j X.A) (hk : k ≤ j) (tkW : Takes X W) (he : PE X o ta) (hkw : PK X kws tk)
    (hall : (backToKw pos (keywordEach kws X.env)).all (·.1.isSome) = true := by rfl) (hks : (backToKw pos (keywordEach kws X.env)).filterMap (·.1) = pt.2.1 := by rfl)
    (hpl : ((backTo pos (starEach [] X.env)).any (·.1) || (backToKw pos (keywordEach kws X.env)).any (·.1.isNone)) = false := by rfl)
    (ht : eval (.Call (.Attribute o m apos) [] kws pos) X.env = (do
      let ov ← eval o X.env
      standAt apos.atName
      let (f, first) ← holding [ov] (getMethod ov m pl)
      callWith pos f first (backTo pos (starEach [] X.env)) (backToKw pos (keywordEach kws X.env))) := by rfl) :
    PE X (.Call (.Attribute o m apos) [] kws pos) (tMethX C m pt.1 pt.2.1.length sp pt.2.2 W ta tNil tk) := by
  obtain ⟨f, fd, ps, hc, hm, F, b⟩ := c.ex
  refine ⟨fun pins s σ H Q I h => ?_⟩
  refine PySem.W.methodCall_KW (pl := pl) (thn (he.run pins s σ H _ I h) fun u s1 ⟨x, H1, I1, rx, a, dx, fs, ex, ea, l, q⟩ => ?_) ht
  subst ex
  obtain rfl : u = Value.ref a := rx
  refine getmeth_ok I1 ea hc hm l ?_
  refine PySem.W.callWith_KW0 (first := [.ref a]) (h₀ := X.base) I.ok.mod.kin hm.kp hall ?_ hpl
  refine thn (hkw.run pos pins s1 σ H1 _ I1 q) fun ws s3 ⟨zs, H3, I3, rz, l1, l2, q3⟩ => ⟨I3.kIn, ?_⟩
  rw [hks]
  exact run_X (us := [.ref a]) (vs := [.ref a]) F (hr.low hk) (b pt hpt) tkW I3 (.cons rfl .nil) rz l1 l2 q3
end
end Vx
/-! # lists within lists that are owned as a whole -/
namespace Vx
open PySem PySem.Spec PyProof.Rows L2
inductive Kd where
  | lst
  | tup
  | ins (C dx : Addr) (ns : List Str)
def Kd.ho : Kd → List V → HO
  | .lst, vs => .lst vs
  | .tup, vs => .tup vs
  | .ins C dx ns, vs => .ins C dx (ns.zip vs)
/-- what stands in the heap as a tree: values as they are, data that stay, nodes of its own -/
inductive Dt where
  | val (v : V)
  | frz (d : PyData)
  | nod (k : Kd) (xs : List Dt)
mutual
inductive Ow (G H : Hp) : List Addr → V → Dt → Prop
  | val (v : V) : Ow G H [] v (.val v)
  | frz {v : V} {d : PyData} : Rp G v d → Ow G H [] v (.frz d)
  | nod {a : Addr} {k : Kd} {vs : List V} {ds : List Dt} {L : List Addr} : H a = some (k.ho vs) → OwAll G H L vs ds → a ∉ L → Ow G H (a :: L) (.ref a) (.nod k ds)
inductive OwAll (G H : Hp) : List Addr → List V → List Dt → Prop
  | nil : OwAll G H [] [] []
  | cons {L1 L2 : List Addr} {v : V} {vs : List V} {d : Dt} {ds : List Dt} : Ow G H L1 v d → OwAll G H L2 vs ds → (∀ b ∈ L1, b ∉ L2) → OwAll G H (L1 ++ L2) (v :: vs) (d :: ds)
end
def Keeps (L : List Addr) (H H' : Hp) : Prop := ∀ b ∈ L, ∀ o, H b = some o → H' b = some o
mutual
theorem Ow.mono {G G' H H' : Hp} (e : Same G G') : ∀ {L : List Addr} {v : V} {d : Dt}, Keeps L H H' → Ow G H L v d → Ow G' H' L v d
  | _, _, _, _, .val v => .val v
  | _, _, _, _, .frz r => .frz (r.mono e)
  | _, _, _, k, .nod h r n => .nod (k _ List.mem_cons_self _ h) (OwAll.mono e (fun b hb => k b (List.mem_cons_of_mem _ hb)) r) n
theorem OwAll.mono {G G' H H' : Hp} (e : Same G G') : ∀ {L : List Addr} {vs : List V} {ds : List Dt}, Keeps L H H' → OwAll G H L vs ds → OwAll G' H' L vs ds
  | _, _, _, _, .nil => .nil
  | _, _, _, k, .cons a r d => .cons (Ow.mono e (fun b hb => k b (List.mem_append_left _ hb)) a) (OwAll.mono e (fun b hb => k b (List.mem_append_right _ hb)) r) d
end
mutual
theorem Ow.there {G H : Hp} : ∀ {L : List Addr} {v : V} {d : Dt}, Ow G H L v d → ∀ b ∈ L, H b ≠ none
  | _, _, _, .val _, _, hb => nomatch hb
  | _, _, _, .frz _, _, hb => nomatch hb
  | _, _, _, .nod h r n, b, hb => by
    rcases List.mem_cons.mp hb with rfl | hb
    · exact some_ne h
    · exact OwAll.there r b hb
theorem OwAll.there {G H : Hp} : ∀ {L : List Addr} {vs : List V} {ds : List Dt}, OwAll G H L vs ds → ∀ b ∈ L, H b ≠ none
  | _, _, _, .nil, _, hb => nomatch hb
  | _, _, _, .cons a r d, b, hb => by
    rcases List.mem_append.mp hb with hb | hb
    · exact Ow.there a b hb
    · exact OwAll.there r b hb
end
theorem OwAll.len {G H : Hp} : ∀ {L : List Addr} {vs : List V} {ds : List Dt}, OwAll G H L vs ds → vs.length = ds.length
  | _, _, _, .nil => rfl
  | _, _, _, .cons _ r _ => congrArg Nat.succ r.len
theorem OwAll.snoc {G H : Hp} {L1 : List Addr} {v : V} {d : Dt} (h : Ow G H L1 v d) : ∀ {L : List Addr} {vs : List V} {ds : List Dt}, OwAll G H L vs ds → (∀ b ∈ L, b ∉ L1) → OwAll G H (L ++ L1) (vs ++ [v]) (ds ++ [d])
  | _, _, _, .nil, _ => by
    have z : OwAll G H (L1 ++ []) [v] [d] := .cons h .nil (fun _ _ z => nomatch z)
    rw [List.append_nil] at z
    exact z
  | _, _, _, .cons (L1 := La) (L2 := Lb) a r n, k => by
    have z := OwAll.cons a (OwAll.snoc h r fun b hb => k b (List.mem_append_right _ hb)) (fun b hb q => by
      rcases List.mem_append.mp q with q | q
      · exact n b hb q
      · exact k b (List.mem_append_left _ hb) q)
    rw [← List.append_assoc] at z
    exact z
theorem OwAll.app {G H : Hp} {L2 : List Addr} {ws : List V} {es : List Dt} (h : OwAll G H L2 ws es) : ∀ {L : List Addr} {vs : List V} {ds : List Dt}, OwAll G H L vs ds → (∀ b ∈ L, b ∉ L2) → OwAll G H (L ++ L2) (vs ++ ws) (ds ++ es)
  | _, _, _, .nil, _ => h
  | _, _, _, .cons (L1 := La) (L2 := Lb) a r n, k => by
    have z := OwAll.cons a (OwAll.app h r fun b hb => k b (List.mem_append_right _ hb)) (fun b hb q => by
      rcases List.mem_append.mp q with q | q
      · exact n b hb q
      · exact k b (List.mem_append_left _ hb) q)
    rw [← List.append_assoc] at z
    exact z
/-! ### trees that are data -/
mutual
inductive Dd : Dt → PyData → Prop
  | non : Dd (.val .non) .none
  | bl (b : Bool) : Dd (.val (.bl b)) (.bool b)
  | int (i : Int) : Dd (.val (.int i)) (.int i)
  | str (x : Str) : Dd (.val (.str x)) (.str x)
  | frz (d : PyData) : Dd (.frz d) d
  | lst {xs : List Dt} {ds : List PyData} : DdAll xs ds → Dd (.nod .lst xs) (.list ds)
  | tup {xs : List Dt} {ds : List PyData} : DdAll xs ds → Dd (.nod .tup xs) (.tuple ds)
inductive DdAll : List Dt → List PyData → Prop
  | nil : DdAll [] []
  | cons {x : Dt} {xs : List Dt} {d : PyData} {ds : List PyData} : Dd x d → DdAll xs ds → DdAll (x :: xs) (d :: ds)
end
mutual
/-- read in any heap that holds its nodes -/
theorem Ow.rp {G H I : Hp} (e : Same G I) : ∀ {L : List Addr} {v : V} {d : Dt} {p : PyData}, Keeps L H I → Ow G H L v d → Dd d p → Rp I v p
  | _, _, _, _, _, .val _, .non => .non
  | _, _, _, _, _, .val _, .bl b => .bl b
  | _, _, _, _, _, .val _, .int i => .int i
  | _, _, _, _, _, .val _, .str x => .str x
  | _, _, _, _, _, .frz r, .frz _ => r.mono e
  | _, _, _, _, k, .nod h r _, .lst q => .lst (k _ List.mem_cons_self _ h) (OwAll.rp e (fun b hb => k b (List.mem_cons_of_mem _ hb)) r q)
  | _, _, _, _, k, .nod h r _, .tup q => .tup (k _ List.mem_cons_self _ h) (OwAll.rp e (fun b hb => k b (List.mem_cons_of_mem _ hb)) r q)
theorem OwAll.rp {G H I : Hp} (e : Same G I) : ∀ {L : List Addr} {vs : List V} {ds : List Dt} {ps : List PyData}, Keeps L H I → OwAll G H L vs ds → DdAll ds ps → RpAll I vs ps
  | _, _, _, _, _, .nil, .nil => .nil
  | _, _, _, _, k, .cons a r _, .cons x xs => .cons (Ow.rp e (fun b hb => k b (List.mem_append_left _ hb)) a x) (OwAll.rp e (fun b hb => k b (List.mem_append_right _ hb)) r xs)
end
def oI (i : Int) : Dt := .val (.int i)
def oB (b : Bool) : Dt := .val (.bl b)
def oF {α : Type} (f : α → PyData) (x : α) : Dt := .frz (f x)
def oL {α : Type} (f : α → Dt) (xs : List α) : Dt := .nod .lst (xs.map f)
def EncO {α : Type} (f : α → Dt) (g : α → PyData) : Prop := ∀ x, Dd (f x) (g x)
theorem encO_I : EncO oI PyData.int := fun i => .int i
theorem encO_B : EncO oB PyData.bool := fun i => .bl i
theorem encO_F {α : Type} {f : α → PyData} : EncO (oF f) f := fun _ => .frz _
theorem EncO.all {α : Type} {f : α → Dt} {g : α → PyData} (h : EncO f g) : ∀ xs : List α, DdAll (xs.map f) (xs.map g)
  | [] => .nil
  | x :: xs => .cons (h x) (EncO.all h xs)
theorem encO_L {α : Type} {f : α → Dt} {g : α → PyData} (h : EncO f g) : EncO (oL f) (encL g) := fun xs => .lst (h.all xs)
theorem keeps_same {L : List Addr} {H H' : Hp} (e : Same H H') : Keeps L H H' := fun b _ o q => e b o q
theorem keeps_refl {L : List Addr} {H : Hp} : Keeps L H H := fun _ _ _ q => q
theorem keeps_mut {L : List Addr} {H H' : Hp} {m : Addr} (x : SameX m H H') (n : ∀ b ∈ L, b ≠ m) : Keeps L H H' := fun b hb o q => x b o q (n b hb)
theorem keeps_muts {L M : List Addr} {H H' : Hp} (x : SameXs M H H') (n : ∀ b ∈ L, b ∉ M) : Keeps L H H' := fun b hb o q => x b o q (n b hb)
theorem keeps_hide {L M : List Addr} {H : Hp} (n : ∀ b ∈ L, b ∉ M) : Keeps L H (hideL M H) := fun b hb o q => by
  rw [hideL_out (n b hb)]
  exact q
section
variable {α : Type} {f : α → Dt} {g : α → PyData} {G H I : Hp} {L : List Addr} {vs : List V} {xs : List α}
theorem OwAll.rpA (w : OwAll G H L vs (xs.map f)) (h : EncO f g) (e : Same G H) : RpAll H vs (xs.map g) := OwAll.rp e keeps_refl w (h.all xs)
theorem OwAll.rpH (w : OwAll G H L vs (xs.map f)) (h : EncO f g) (e : Same G I) (k : Keeps L H I) : RpAll I vs (xs.map g) := OwAll.rp e k w (h.all xs)
theorem OwAll.lenM (w : OwAll G H L vs (xs.map f)) : vs.length = xs.length := by rw [w.len, List.length_map]
theorem OwAll.snocM {L1 : List Addr} {v : V} {y : α} (w : OwAll G H L vs (xs.map f)) (h : Ow G H L1 v (f y)) (n : ∀ b ∈ L, b ∉ L1) : OwAll G H (L ++ L1) (vs ++ [v]) ((xs ++ [y]).map f) := by
  rw [List.map_append]
  exact OwAll.snoc h w n
theorem Ow.ints {a : Addr} {ys : List Int} (h : H a = some (.lst (ys.map V.int))) : Ow G H [a] (.ref a) (oL oI ys) := by
  have z : ∀ ys : List Int, OwAll G H [] (ys.map V.int) (ys.map oI) := fun ys => by
    induction ys with
    | nil => exact .nil
    | cons y r ih => exact .cons (L1 := []) (L2 := []) (.val _) ih (fun _ z => nomatch z)
  exact .nod (k := .lst) h (z ys) (fun z => nomatch z)
theorem Ow.list {a : Addr} {xs : List α} {L : List Addr} {vs : List V} (h : H a = some (.lst vs)) (w : OwAll G H L vs (xs.map f)) (n : ∀ b ∈ L, b ≠ a) : Ow G H (a :: L) (.ref a) (oL f xs) := .nod (k := .lst) h w (fun z => n a z rfl)
theorem Ow.toList {v : V} {L : List Addr} {xs : List α} (w : Ow G H L v (oL f xs)) : ∃ a vs L', v = .ref a ∧ L = a :: L' ∧ H a = some (.lst vs) ∧ OwAll G H L' vs (xs.map f) ∧ ∀ b ∈ L', b ≠ a := by
  unfold oL at w
  cases w with
  | nod h r n => exact ⟨_, _, _, rfl, rfl, h, r, fun b hb z => n (z ▸ hb)⟩
theorem OwAll.toInts : ∀ {L : List Addr} {vs : List V} {xs : List Int}, OwAll G H L vs (xs.map oI) → L = [] ∧ vs = xs.map V.int
  | _, _, [], .nil => ⟨rfl, rfl⟩
  | _, _, x :: xs, .cons a r _ => by
    obtain ⟨h1, h2⟩ := OwAll.toInts r
    cases a
    exact ⟨by rw [h1] <;> rfl, by rw [h2] <;> rfl⟩
theorem Ow.toInts {v : V} {L : List Addr} {xs : List Int} (w : Ow G H L v (oL oI xs)) : ∃ a, v = .ref a ∧ L = [a] ∧ H a = some (.lst (xs.map V.int)) := by
  obtain ⟨a, vs, L', rfl, rfl, h, r, _⟩ := w.toList
  obtain ⟨rfl, rfl⟩ := r.toInts
  exact ⟨a, rfl, rfl, h⟩
/-- the part at a place, and how a change of it alone changes the whole -/
theorem OwAll.part : ∀ {L : List Addr} {vs : List V} {ds : List Dt} {i : Nat} {d : Dt}, OwAll G H L vs ds → ds[i]? = some d → ∃ v L1, vs[i]? = some v ∧ Ow G H L1 v d ∧ (∀ b ∈ L1, b ∈ L) ∧
    ∀ H' d', (∀ b ∈ L, b ∉ L1 → ∀ o, H b = some o → H' b = some o) → Ow G H' L1 v d' → OwAll G H' L vs (ds.set i d')
  | _, _, _, _, _, .nil, h => by simp at h
  | _, _, _, 0, _, .cons (L1 := La) (L2 := Lb) a r n, h => by
    simp at h
    subst h
    refine ⟨_, La, rfl, a, fun b hb => List.mem_append_left _ hb, fun H' d' k w => ?_⟩
    exact .cons w (OwAll.mono (Same.refl G) (fun b hb => k b (List.mem_append_right _ hb) fun z => n b z hb) r) n
  | _, _, _, i + 1, _, .cons (L1 := La) (L2 := Lb) a r n, h => by
    obtain ⟨v, L1, h1, h2, h3, h4⟩ := OwAll.part (i := i) r (by simpa using h)
    refine ⟨v, L1, by simpa using h1, h2, fun b hb => List.mem_append_right _ (h3 b hb), fun H' d' k w => ?_⟩
    refine .cons (Ow.mono (Same.refl G) (fun b hb => k b (List.mem_append_left _ hb) fun z => n b hb (h3 b z)) a) (h4 H' d' (fun b hb nb => k b (List.mem_append_right _ hb) nb) w) n
/-- the same, where the part grows: its new footprint is the old one and what is new -/
theorem OwAll.part2 : ∀ {L : List Addr} {vs : List V} {ds : List Dt} {i : Nat} {d : Dt}, OwAll G H L vs ds → ds[i]? = some d → ∃ v L1, vs[i]? = some v ∧ Ow G H L1 v d ∧ (∀ b ∈ L1, b ∈ L) ∧
    (∀ H' d', (∀ b ∈ L, b ∉ L1 → ∀ o, H b = some o → H' b = some o) → Ow G H' L1 v d' → OwAll G H' L vs (ds.set i d')) ∧
    ∀ G' H' d' Fv L1', Same G G' → (∀ b ∈ L, b ∉ L1 → ∀ o, H b = some o → H' b = some o) → (∀ b ∈ L1', b ∈ L1 ++ Fv) → (∀ b ∈ Fv, b ∉ L) → Ow G' H' L1' v d' → ∃ L', (∀ b ∈ L', b ∈ L ++ Fv) ∧ OwAll G' H' L' vs (ds.set i d')
  | _, _, _, _, _, .nil, h => by simp at h
  | _, _, _, 0, _, .cons (L1 := La) (L2 := Lb) a r n, h => by
    simp at h
    subst h
    refine ⟨_, La, rfl, a, fun b hb => List.mem_append_left _ hb, fun H' d' k w => ?_, fun G' H' d' Fv L1' eG k s nf w => ⟨L1' ++ Lb, fun b hb => ?_, ?_⟩⟩
    · exact .cons w (OwAll.mono (Same.refl G) (fun b hb => k b (List.mem_append_right _ hb) fun z => n b z hb) r) n
    · rcases List.mem_append.mp hb with hb | hb
      · rcases List.mem_append.mp (s b hb) with q | q
        · exact List.mem_append_left _ (List.mem_append_left _ q)
        · exact List.mem_append_right _ q
      · exact List.mem_append_left _ (List.mem_append_right _ hb)
    · refine .cons w (OwAll.mono eG (fun b hb => k b (List.mem_append_right _ hb) fun z => n b z hb) r) fun b hb q => ?_
      rcases List.mem_append.mp (s b hb) with z | z
      · exact n b z q
      · exact nf b z (List.mem_append_right _ q)
  | _, _, _, i + 1, _, .cons (L1 := La) (L2 := Lb) a r n, h => by
    obtain ⟨v, L1, h1, h2, h3, h4, h5⟩ := OwAll.part2 (i := i) r (by simpa using h)
    refine ⟨v, L1, by simpa using h1, h2, fun b hb => List.mem_append_right _ (h3 b hb), fun H' d' k w => ?_, fun G' H' d' Fv L1' eG k s nf w => ?_⟩
    · refine .cons (Ow.mono (Same.refl G) (fun b hb => k b (List.mem_append_left _ hb) fun z => n b hb (h3 b z)) a) (h4 H' d' (fun b hb nb => k b (List.mem_append_right _ hb) nb) w) n
    · obtain ⟨L', s2, z⟩ := h5 G' H' d' Fv L1' eG (fun b hb nb => k b (List.mem_append_right _ hb) nb) s (fun b hb q => nf b hb (List.mem_append_right _ q)) w
      refine ⟨La ++ L', fun b hb => ?_, .cons (Ow.mono eG (fun b hb => k b (List.mem_append_left _ hb) fun z => n b hb (h3 b z)) a) z fun b hb q => ?_⟩
      · rcases List.mem_append.mp hb with hb | hb
        · exact List.mem_append_left _ (List.mem_append_left _ hb)
        · rcases List.mem_append.mp (s2 b hb) with q | q
          · exact List.mem_append_left _ (List.mem_append_right _ q)
          · exact List.mem_append_right _ q
      · rcases List.mem_append.mp (s2 b q) with y | y
        · exact n b hb y
        · exact nf b y (List.mem_append_left _ hb)
theorem OwAll.partM [Inhabited α] {k : Int} (w : OwAll G H L vs (xs.map f)) (h : -(xs.length : Int) ≤ k ∧ k < xs.length) : ∃ v L1, atI vs k = some v ∧ Ow G H L1 v (f (itD xs k)) ∧ (∀ b ∈ L1, b ∈ L) ∧
    (∀ H' y, (∀ b ∈ L, b ∉ L1 → ∀ o, H b = some o → H' b = some o) → Ow G H' L1 v (f y) → OwAll G H' L vs ((setL xs k y).map f)) ∧
    ∀ G' H' y Fv L1', Same G G' → (∀ b ∈ L, b ∉ L1 → ∀ o, H b = some o → H' b = some o) → (∀ b ∈ L1', b ∈ L1 ++ Fv) → (∀ b ∈ Fv, b ∉ L) → Ow G' H' L1' v (f y) → ∃ L', (∀ b ∈ L', b ∈ L ++ Fv) ∧ OwAll G' H' L' vs ((setL xs k y).map f) := by
  obtain ⟨j, e, hj⟩ := ixN_some h
  have hx := List.getElem?_eq_getElem hj
  obtain ⟨v, L1, h1, h2, h3, h4, h5⟩ := OwAll.part2 (i := j) (d := f xs[j]) w (by rw [List.getElem?_map, hx] <;> rfl)
  have ei : itD xs k = xs[j] := by
    unfold itD atI
    rw [e]
    show (xs[j]?).getD default = _
    rw [hx] <;> rfl
  refine ⟨v, L1, ?_, by rw [ei]; exact h2, h3, fun H' y q w2 => ?_, fun G' H' y Fv L1' eG q s nf w2 => ?_⟩
  · unfold atI
    rw [w.lenM, e]
    exact h1
  · have z := h4 H' (f y) q w2
    unfold setL
    rw [e, List.map_set]
    exact z
  · obtain ⟨L', s2, z⟩ := h5 G' H' (f y) Fv L1' eG q s nf w2
    refine ⟨L', s2, ?_⟩
    unfold setL
    rw [e, List.map_set]
    exact z
theorem grow_keeps {L L1 : List Addr} {m : Addr} {H H1 H2 : Hp} (e : Same H H1) (x : SameX m H1 H2) (hm : m ∈ L1) : ∀ b ∈ L, b ∉ L1 → ∀ o, H b = some o → H2 b = some o := fun b _ n o q => x b o (e b o q) (fun z => n (z ▸ hm))
theorem grow_sub {a : Addr} {L' Lr Fv : List Addr} (h : ∀ b ∈ L', b ∈ Lr ++ Fv) : ∀ b ∈ a :: L', b ∈ (a :: Lr) ++ Fv := fun b hb => by
  rcases List.mem_cons.mp hb with rfl | hb
  · exact List.mem_cons_self
  · exact List.mem_cons_of_mem _ (h b hb)
/-- the item of a turn -/
theorem OwAll.turn {i : Nat} {v : V} (w : OwAll G H L vs (xs.map f)) (h : vs[i]? = some v) : ∃ x L1, xs[i]? = some x ∧ Ow G H L1 v (f x) ∧ ∀ b ∈ L1, b ∈ L := by
  have hl := get_len h
  have e := w.lenM
  have hx := List.getElem?_eq_getElem (show i < xs.length by omega)
  obtain ⟨v2, L1, h1, h2, h3, _⟩ := OwAll.part (i := i) (d := f xs[i]) w (by rw [List.getElem?_map, hx] <;> rfl)
  rw [h] at h1
  cases h1
  exact ⟨_, L1, hx, h2, h3⟩
end
/-! ### what is owned, in pieces -/
theorem all_app {P : Addr → Prop} {L l : List Addr} (h : ∀ x ∈ L, P x) (t : ∀ x ∈ l, P x) : ∀ x ∈ L ++ l, P x := fun x hx => by
  rcases List.mem_append.mp hx with q | q
  · exact h x q
  · exact t x q
theorem nm_nil {a : Addr} : a ∉ ([] : List Addr) := fun z => nomatch z
theorem nm_cons {a m : Addr} {l : List Addr} (h : a ≠ m) (t : a ∉ l) : a ∉ m :: l := fun z => by
  rcases List.mem_cons.mp z with q | q
  · exact h q
  · exact t q
theorem nm_app {a : Addr} {L l : List Addr} (h : a ∉ L) (t : a ∉ l) : a ∉ L ++ l := fun z => by
  rcases List.mem_append.mp z with q | q
  · exact h q
  · exact t q
theorem there_ne {H : Hp} {L : List Addr} {x : Addr} (t : ∀ b ∈ L, H b ≠ none) (n : H x = none) : ∀ b ∈ L, b ≠ x := fun b hb z => t b hb (z ▸ n)
theorem new_ne {H : Hp} {L : List Addr} {x : Addr} {o : HO} (n : ∀ b ∈ L, H b = none) (h : H x = some o) : ∀ b ∈ L, b ≠ x := fun b hb z => by
  have := n b hb
  rw [z, h] at this
  cases this
theorem new_nl {H : Hp} {L L2 : List Addr} (n : ∀ b ∈ L, H b = none) (t : ∀ b ∈ L2, H b ≠ none) : ∀ b ∈ L, b ∉ L2 := fun b hb z => t b z (n b hb)
theorem nl_symm {L L2 : List Addr} (h : ∀ b ∈ L, b ∉ L2) : ∀ b ∈ L2, b ∉ L := fun b hb z => h b z hb
theorem none_of_same {H H' : Hp} {x : Addr} (e : Same H H') (n : H' x = none) : H x = none := by
  cases q : H x with
  | none => rfl
  | some o =>
    rw [e x o q] at n
    cases n
section
variable {M : List Addr} {H0 G0 G H H' : Hp} {O L : List Addr} {p m : Addr} {o : HO}
theorem Sep.h0 (S : Sep M H0 G0 G H O) {b : Addr} (hb : b ∈ O) (hM : b ∉ M) : H0 b = none := (S.ow b hb).2.2.elim (fun z => (hM z).elim) id
theorem g_nl {a : Addr} {o : HO} (h : G a = some o) (S : Sep M H0 G0 G H O) (hL : ∀ b ∈ L, b ∈ O) : ∀ b ∈ L, b ≠ a := fun b hb => (g_ne h S (hL b hb)).symm
theorem b_nl {a : Addr} {o : HO} (h : (hideL M H0) a = some o) (S : Sep M H0 G0 G H O) (hL : ∀ b ∈ L, b ∈ O) : ∀ b ∈ L, b ≠ a := fun b hb => (b_ne h S (hL b hb)).symm
/-- a whole tree that is to stay as it is -/
theorem Sep.freezeL (S : Sep M H0 G0 G H O) {O' : List Addr} (hL : ∀ b ∈ L, b ∈ O) (h0 : ∀ b ∈ L, H0 b = none) (hO : ∀ b ∈ O', b ∈ O ∧ b ∉ L) : ∃ G', Same G G' ∧ Keeps L H G' ∧ Sep M H0 G0 G' H O' := by
  have gn : ∀ b ∈ L, G b = none := fun b hb => (S.ow b (hL b hb)).1
  refine ⟨fun b => if b ∈ L then H b else G b, fun b u q => ?_, fun b hb u q => ?_, S.base, S.pm, fun b u q => ?_, fun b u q => ?_, fun b hb gb => ?_, fun a ha => ?_⟩
  · have n : b ∉ L := fun z => by
      rw [gn b z] at q
      cases q
    show (if b ∈ L then H b else G b) = _
    rw [if_neg n]
    exact q
  · show (if b ∈ L then H b else G b) = _
    rw [if_pos hb]
    exact q
  · by_cases z : b ∈ L
    · exact (if_pos z).symm.trans q
    · exact S.sG b u ((if_neg z).symm.trans q)
  · have z : b ∉ L := fun z => by
      have := S.g0 b u q
      rw [gn b z] at this
      cases this
    show (if b ∈ L then H b else G b) = _
    rw [if_neg z]
    exact S.g0 b u q
  · have z : b ∉ L := fun z => hb (h0 b z)
    show (if b ∈ L then H b else G b) = _
    rw [if_neg z]
    exact S.gn b hb gb
  · obtain ⟨h1, h2⟩ := hO a ha
    refine ⟨?_, (S.ow a h1).2⟩
    show (if a ∈ L then H a else G a) = _
    rw [if_neg h2]
    exact (S.ow a h1).1
/-- a callee hands over a list of lists of its own making -/
theorem Sep.steptree (S : Sep M H0 G0 G H O) {G' : Hp} (e : Same H H') (eG : Same G G') (sG : Same G' H') (hn : ∀ b, H b ≠ none → G b = none → G' b = none) (L : List Addr) (hL : ∀ b ∈ L, H b = none ∧ G' b = none ∧ H' b ≠ none) : Sep M H0 G0 G' H' (L ++ O) := by
  have S2 := S.step e eG sG hn
  refine ⟨S2.base, S2.pm, S2.sG, S2.g0, S2.gn, all_app (fun b hb => ⟨(hL b hb).2.1, (hL b hb).2.2, .inr (S.free (hL b hb).1)⟩) S2.ow⟩
end
theorem Rp.list_of {α : Type} {g : α → PyData} {H : Hp} {a : Addr} {vs : List V} {xs : List α} (h : H a = some (.lst vs)) (r : RpAll H vs (xs.map g)) : Rp H (.ref a) (encL g xs) := .lst h r
/-! ### repr of data -/
mutual
def nodes : PyData → Nat
  | .list xs => 1 + nodesAll xs
  | .tuple xs => 1 + nodesAll xs
  | _ => 1
def nodesAll : List PyData → Nat
  | [] => 0
  | x :: xs => nodes x + nodesAll xs
end
mutual
def smallD : PyData → Bool
  | .none => true
  | .bool _ => true
  | .int i => decide (i.natAbs < 10 ^ 19)
  | .str x => decide ((reprText x).length ≤ 20)
  | .list xs => smallAll xs
  | .tuple xs => smallAll xs
  | _ => false
def smallAll : List PyData → Bool
  | [] => true
  | x :: xs => smallD x && smallAll xs
end
theorem piled_list (ts : List Str) : (listText ts).length ≤ piled ts + 2 := by
  cases ts with
  | nil => exact Nat.le_refl 2
  | cons t r =>
    have e : (listText (t :: r)).length = (textFrom 1 ("[" ++ ("" : String) ++ t) r).length + 1 := by
      show (textFrom 0 "[" (t :: r) ++ "]").length = _
      rw [strLen_append]
      rfl
    rw [e, textFrom_length_pos r 1 _ (by decide), piled_cons, strLen_append, strLen_append]
    have h1 : (("[" : String) : Str).length = 1 := rfl
    have h2 : (("" : String) : Str).length = 0 := rfl
    omega
theorem piled_tup (ts : List Str) : (tupleText ts).length ≤ piled ts + 3 := by
  unfold tupleText
  rw [strLen_append, strLen_append]
  have h1 : (("(" : String) : Str).length = 1 := rfl
  have h2 : (((if ts.length == 1 then ",)" else ")" : String) : Str)).length ≤ 2 := by split <;> decide
  by_cases h : ts = []
  · subst h
    exact Nat.le_of_lt (by decide)
  · have := join_length_add ts h
    omega
mutual
theorem small_shown : ∀ d : PyData, smallD d = true → d.shown.length + 4 ≤ 26 * nodes d ∧ d.showable = true ∧ d.hasDict = false
  | .none, _ => ⟨by simp only [PyData.shown, nodes]; decide, by simp [PyData.showable], by simp [PyData.hasDict]⟩
  | .bool b, _ => ⟨by cases b <;> simp only [PyData.shown, nodes] <;> decide, by simp [PyData.showable], by simp [PyData.hasDict]⟩
  | .int i, h => by
    have h : i.natAbs < 10 ^ 19 := by simpa [smallD] using h
    refine ⟨?_, ?_, by simp [PyData.hasDict]⟩
    · have := int_text_length_le10 (k := 19) (by decide) h
      simp only [PyData.shown, nodes]
      rw [PySem.ofString_length]
      omega
    · simp only [PyData.showable, decide_eq_true_eq]
      have : i.natAbs < 2 ^ 64 := by omega
      rcases Nat.eq_zero_or_pos i.natAbs with z | z
      · rw [z]
        decide
      · have := (Nat.log2_lt (by omega)).mpr this
        omega
  | .str x, h => by
    have h : (reprText x).length ≤ 20 := by simpa [smallD] using h
    refine ⟨by simp only [PyData.shown, nodes]; omega, by simp [PyData.showable], by simp [PyData.hasDict]⟩
  | .list xs, h => by
    obtain ⟨h1, h2, h3⟩ := small_shownAll xs (by simpa [smallD] using h)
    refine ⟨?_, by simpa [PyData.showable] using h2, by simpa [PyData.hasDict] using h3⟩
    have := piled_list (PyData.shownAll xs)
    simp only [PyData.shown, nodes]
    omega
  | .tuple xs, h => by
    obtain ⟨h1, h2, h3⟩ := small_shownAll xs (by simpa [smallD] using h)
    refine ⟨?_, by simpa [PyData.showable] using h2, by simpa [PyData.hasDict] using h3⟩
    have := piled_tup (PyData.shownAll xs)
    simp only [PyData.shown, nodes]
    omega
  | .dict kvs, h => by simp [smallD] at h
theorem small_shownAll : ∀ ds : List PyData, smallAll ds = true → piled (PyData.shownAll ds) ≤ 26 * nodesAll ds ∧ PyData.showableAll ds = true ∧ PyData.hasDictAll ds = false
  | [], _ => ⟨by simp [PyData.shownAll, nodesAll, piled], by simp [PyData.showableAll], by simp [PyData.hasDictAll]⟩
  | d :: ds, h => by
    have h : smallD d = true ∧ smallAll ds = true := by simpa [smallAll] using h
    obtain ⟨a1, a2, a3⟩ := small_shown d h.1
    obtain ⟨b1, b2, b3⟩ := small_shownAll ds h.2
    refine ⟨?_, by simp [PyData.showableAll, a2, b2], by simp [PyData.hasDictAll, a3, b3]⟩
    simp only [PyData.shownAll, nodesAll, piled_cons]
    omega
end
/-- data that repr may show -/
def ShowOk (d : PyData) : Prop := smallD d = true ∧ nodes d ≤ 600000 ∧ d.depth ≤ 60
instance (d : PyData) : Decidable (ShowOk d) := by unfold ShowOk; infer_instance
def rRepr : List V → Hp → VK → Prop := fun xs H Q => ∃ (a : Addr) (d : PyData), xs = [.ref a] ∧ Rp H (.ref a) d ∧ ShowOk d ∧ Q (.str d.shown) H
theorem call_reprD {X : Cx} (hg : X.A.guards = some []) (hu : X.A.units + 64 < cLine) : CallR X (.builtin "repr") rRepr := by
  intro pins s σ H xs us Q I r h
  obtain ⟨a, d, rfl, rp, ⟨ok, nd, dp⟩, q⟩ := h
  obtain ⟨h1, h2, h3⟩ := small_shown d ok
  cases r with
  | cons ra rn =>
    cases rn
    cases ra
    obtain ⟨as, reads⟩ := Dp.reads I d _ _ rp.dp rfl
    refine repr_of_reads' reads h2 (PyData.noDict_hsm h3) hg (by omega) (fun _ _ e => e) (fun h' u tk k => ⟨.str d.shown, H, I.kept k, ⟨u, rfl⟩, q⟩) ?_
    show d.shown.length ≤ 2 ^ 24
    omega
/-- small data: nodes, depth -/
def Sm (n k : Nat) (d : PyData) : Prop := smallD d = true ∧ nodes d ≤ n ∧ d.depth ≤ k
theorem Sm.imp {n k n' k' : Nat} {d : PyData} (h : Sm n k d) (a : n ≤ n') (b : k ≤ k') : Sm n' k' d := ⟨h.1, Nat.le_trans h.2.1 a, Nat.le_trans h.2.2 b⟩
theorem Sm.show {n k : Nat} {d : PyData} (h : Sm n k d) (a : n ≤ 600000 := by decide) (b : k ≤ 60 := by decide) : ShowOk d := h.imp a b
theorem sm_non : Sm 1 0 .none := ⟨by simp [smallD], by simp [nodes], by simp [PyData.depth]⟩
theorem sm_bool (b : Bool) : Sm 1 0 (.bool b) := ⟨by simp [smallD], by simp [nodes], by simp [PyData.depth]⟩
theorem sm_int {i : Int} (h : -10000000000000000000 < i ∧ i < 10000000000000000000) : Sm 1 0 (.int i) := ⟨by simp only [smallD, decide_eq_true_eq]; omega, by simp [nodes], by simp [PyData.depth]⟩
theorem sm_all {α : Type} {f : α → PyData} {n k : Nat} : ∀ {xs : List α}, (∀ x ∈ xs, Sm n k (f x)) → smallAll (xs.map f) = true ∧ nodesAll (xs.map f) ≤ xs.length * n ∧ PyData.depthAll (xs.map f) ≤ k
  | [], _ => ⟨by simp [smallAll], by simp [nodesAll], by simp [PyData.depthAll]⟩
  | x :: xs, h => by
    obtain ⟨a1, a2, a3⟩ := h x List.mem_cons_self
    obtain ⟨b1, b2, b3⟩ := sm_all fun y hy => h y (List.mem_cons_of_mem _ hy)
    refine ⟨by simp [smallAll, a1, b1], ?_, ?_⟩
    · simp only [List.map_cons, nodesAll, List.length_cons, Nat.succ_mul]
      omega
    · simp only [List.map_cons, PyData.depthAll]
      omega
theorem sm_L {α : Type} {f : α → PyData} {n k m : Nat} {xs : List α} (h : ∀ x ∈ xs, Sm n k (f x)) (hm : xs.length ≤ m) : Sm (1 + m * n) (k + 1) (encL f xs) := by
  obtain ⟨a1, a2, a3⟩ := sm_all h
  refine ⟨by simp [encL, smallD, a1], ?_, ?_⟩
  · have := Nat.mul_le_mul_right n hm
    simp only [encL, nodes]
    omega
  · simp only [encL, PyData.depth]
    omega
theorem sm_ints {xs : List Int} {m : Nat} (h : ∀ x ∈ xs, -10000000000000000000 < x ∧ x < 10000000000000000000) (hm : xs.length ≤ m) : Sm (1 + m * 1) 1 (encL PyData.int xs) := sm_L (fun x hx => sm_int (h x hx)) hm
theorem sm_T2 {α β : Type} {f : α → PyData} {g : β → PyData} {n k m j : Nat} {p : α × β} (h1 : Sm n k (f p.1)) (h2 : Sm m j (g p.2)) : Sm (1 + n + m) (max k j + 1) (encT2 f g p) := by
  obtain ⟨a1, a2, a3⟩ := h1
  obtain ⟨b1, b2, b3⟩ := h2
  refine ⟨by simp [encT2, smallD, smallAll, a1, b1], ?_, ?_⟩
  · simp only [encT2, nodes, nodesAll]
    omega
  · simp only [encT2, PyData.depth, PyData.depthAll]
    omega
theorem sm_T3 {α β γ : Type} {f : α → PyData} {g : β → PyData} {h : γ → PyData} {n k m j l i : Nat} {p : α × β × γ} (h1 : Sm n k (f p.1)) (h2 : Sm m j (g p.2.1)) (h3 : Sm l i (h p.2.2)) : Sm (1 + n + m + l) (max k (max j i) + 1) (encT3 f g h p) := by
  obtain ⟨a1, a2, a3⟩ := h1
  obtain ⟨b1, b2, b3⟩ := h2
  obtain ⟨c1, c2, c3⟩ := h3
  refine ⟨by simp [encT3, smallD, smallAll, a1, b1, c1], ?_, ?_⟩
  · simp only [encT3, nodes, nodesAll]
    omega
  · simp only [encT3, PyData.depth, PyData.depthAll]
    omega
end Vx
namespace Vx
open PySem PySem.Spec PyProof.Rows L2
theorem new_ne2 {H : Hp} {L : List Addr} {x : Addr} (n : ∀ b ∈ L, H b = none) (h : H x ≠ none) : ∀ b ∈ L, b ≠ x := fun b hb z => h (z ▸ n b hb)
theorem upd_tree {α : Type} {f : α → Dt} {G H H' : Hp} {L L1 : List Addr} {vs : List V} {xs : List α} {k : Int} {v : V} {m : Addr} {y : α} (up : ∀ H' y, (∀ b ∈ L, b ∉ L1 → ∀ o, H b = some o → H' b = some o) → Ow G H' L1 v (f y) → OwAll G H' L vs ((setL xs k y).map f)) (x : SameX m H H') (hm : m ∈ L1) (w : Ow G H' L1 v (f y)) :
    OwAll G H' L vs ((setL xs k y).map f) := up H' y (fun c _ n o q => x c o q (fun z => n (z ▸ hm))) w
theorem Ow.toFrz {α : Type} {f : α → PyData} {G H : Hp} {L : List Addr} {v : V} {x : α} (w : Ow G H L v (oF f x)) : L = [] ∧ Rp G v (f x) := by
  unfold oF at w
  cases w with
  | frz r => exact ⟨rfl, r⟩
section
variable {α : Type} {f : α → Dt} {G H : Hp} {L : List Addr} {vs : List V} {xs : List α}
theorem OwAll.pin {i : Nat} {v : V} {x : α} (w : OwAll G H L vs (xs.map f)) (h : vs[i]? = some v) (hx : xs[i]? = some x) : ∃ L1, Ow G H L1 v (f x) ∧ ∀ b ∈ L1, b ∈ L := by
  obtain ⟨y, L1, h1, h2, h3⟩ := OwAll.turn w h
  rw [hx] at h1
  cases h1
  exact ⟨L1, h2, h3⟩
theorem OwAll.pinInts {i : Nat} {b : Addr} {xs : List (List Int)} {x : List Int} (w : OwAll G H L vs (xs.map (oL oI))) (h : vs[i]? = some (.ref b)) (hx : xs[i]? = some x) : H b = some (.lst (x.map V.int)) ∧ b ∈ L := by
  obtain ⟨L1, w1, h1⟩ := OwAll.pin w h hx
  obtain ⟨c, e, rfl, h2⟩ := Ow.toInts w1
  cases e
  exact ⟨h2, h1 _ List.mem_cons_self⟩
end
end Vx
namespace Vx
open PySem PySem.Spec PyProof.Rows L2
theorem lookup_relab {c : Str → Bool} {y : Str} : ∀ l : List (Str × NameKind), (l.lookup y = some .cell ∨ l.lookup y = some .free) →
    ((l.map fun (n, k) => if (k == .free && c n) then (n, NameKind.cell) else (n, k)).lookup y = some .cell ∨ (l.map fun (n, k) => if (k == .free && c n) then (n, NameKind.cell) else (n, k)).lookup y = some .free)
  | [], h => by simp at h
  | (n, k) :: r, h => by
    rw [List.map_cons]
    dsimp only
    by_cases e : y == n
    · have hk : k = .cell ∨ k = .free := by
        rw [List.lookup_cons, e] at h
        simpa using h
      by_cases q : (k == .free && c n) = true
      · left
        rw [if_pos q, List.lookup_cons, e]
      · rw [if_neg q, List.lookup_cons, e]
        simpa using hk
    · have e : (y == n) = false := by simpa using e
      rw [List.lookup_cons, e] at h
      have ih := lookup_relab (c := c) r h
      by_cases q : (k == .free && c n) = true
      · rw [if_pos q, List.lookup_cons, e]
        exact ih
      · rw [if_neg q, List.lookup_cons, e]
        exact ih
theorem blk_relabel {N : List Str} {sc scope : Scope} {env : Env} {own : List (Str × Nat)} (h : BlkOk N sc scope own) : BlkOk N (relabel sc env) scope own := by
  refine ⟨h.kind, h.uniq, h.ix, fun y hy e => ?_, h.own⟩
  have z := lookup_relab (c := fun n => env.scope.kind == .function && env.kindOf n == some .cell) (y := y.1) sc.names (h.free y hy e)
  unfold relabel
  simpa only [Bool.and_assoc] using z
end Vx
namespace Vx
open PySem PySem.Spec PyProof.Rows L2
theorem FnG.low {P : Program} {w : World} {K : PySem.W.Frag} {mg : Str → Option Value} {base : Heap} {cx : CXT} {j k : Nat} {f : Addr} {fd : FuncData} {ps : List Str} {sp : Sp} (F : FnG P w K mg base cx j f fd ps sp) (h : j ≤ k) : FnG P w K mg base cx k f fd ps sp := ⟨F.len, fun A o s H a us vs Q E r => F.run A o s H a us vs Q E (r.low h)⟩
/-! ### a local name that holds one of several defs -/
structure HeldX (P : Program) (w : World) (K : PySem.W.Frag) (mg : Str → Option Value) (base : Heap) (k n : Nat) (f : Addr) (sp : Sp) : Prop where
  ex : ∃ (fd : FuncData) (ps : List Str), FnG P w K mg base (L2.CX P w) k f fd ps sp ∧ PySem.W.keepIn K (.ref f) = true ∧ Bnd K fd ps n [] (fun vs _ => vs)
theorem HeldX.of {P : Program} {w : World} {K : PySem.W.Frag} {mg : Str → Option Value} {base : Heap} {j k n : Nat} {x : Str} {sp : Sp} {pats : List Pat} {a : Addr} (c : CalX P w K mg base j x sp pats) (hx : mg x = some (.ref a)) (hp : (n, [], fun vs _ => vs) ∈ pats) (hj : j ≤ k) : HeldX P w K mg base k n a sp := by
  obtain ⟨f, fd, ps, F, hm, kp, b⟩ := c.ex
  rw [hx] at hm
  injection hm with hm
  injection hm with hm
  subst hm
  exact ⟨fd, ps, F.low hj, kp, b _ hp⟩
def tCallF (i n : Nat) (L : List (Addr × Sp)) (W : WX) (t : TA) : TE := fun σ H Q => ∃ f sp, σ[i]? = some (some (.ref f)) ∧ (f, sp) ∈ L ∧ t σ H fun vs H1 => vs.length = n ∧ ([] : List V).length = 0 ∧ sp vs H1 Q (WE W σ)
theorem vx_callF {X : Cx} {k j i n : Nat} {x : Str} {p pos : Pos} {e : Expr} {es : List Expr} {t : TA} {W : WX} (L : List (Addr × Sp)) (A : ∀ q ∈ L, HeldX X.prog X.w X.K X.mg X.base k n q.1 q.2) (hr : RoomG j X.A) (hk : k ≤ j) (tkW : Takes X W) (hN : X.N[i]? = some x) (hv : Vis X.env.scope x) (ha : PA X (e :: es) t)
    (hdb : (x == ("__debug__" : Str)) = false := by decide) (hcd : (x == ("__classdict__" : Str)) = false := by decide) (he : starEach (e :: es) X.env = (false, eval e X.env) :: starEach es X.env := by rfl) (hpl : (backTo pos (starEach es X.env)).any (·.1) = false := by rfl) :
    PE X (.Call (.Name x p) (e :: es) [] pos) (tCallF i n L W t) := by
  constructor
  intro pins s σ H Q I h
  obtain ⟨f, sp, slot, mem, rest⟩ := h
  obtain ⟨fd, ps, F, kp, b⟩ := (A _ mem).ex
  refine wpAny_Call_Name_kw (thn ((pe_var (pos := p) hN hv hdb hcd).run pins s σ H (fun v H1 => v = .ref f ∧ H1 = H) I ⟨.ref f, slot, rfl, rfl⟩) ?_)
  rintro u s1 ⟨v, H1, I1, r1, rfl, rfl⟩
  cases r1
  refine PySem.W.callWith_K (h₀ := X.base) I.ok.mod.kin kp (thn (ha.run pos pins s1 σ _ _ I1 rest) ?_) he hpl
  rintro us s2 ⟨vs, H2, I2, r, l1, l2, q⟩
  exact ⟨I2.kIn, run_X (us := us) (ws := []) (zs := []) F (hr.low hk) b tkW I2 r .nil l1 l2 q⟩
/-! ### the least of a list, the place of an item -/
def minL : List Int → Int
  | [] => 0
  | [x] => x
  | x :: y :: r => if x ≤ minL (y :: r) then x else minL (y :: r)
theorem minL_spec : ∀ (xs : List Int), xs ≠ [] → minL xs ∈ xs ∧ ∀ y ∈ xs, minL xs ≤ y
  | [], h => absurd rfl h
  | [x], _ => ⟨List.mem_cons_self, fun y hy => by rw [List.mem_singleton.mp hy]; exact Int.le_refl x⟩
  | x :: y :: r, _ => by
    obtain ⟨h1, h2⟩ := minL_spec (y :: r) (fun z => nomatch z)
    unfold minL
    split
    · refine ⟨List.mem_cons_self, fun z hz => ?_⟩
      rcases List.mem_cons.mp hz with rfl | hz
      · exact Int.le_refl _
      · have := h2 z hz
        omega
    · refine ⟨List.mem_cons_of_mem _ h1, fun z hz => ?_⟩
      rcases List.mem_cons.mp hz with rfl | hz
      · omega
      · exact h2 z hz
def maxL (xs : List Int) : Int := -(minL (xs.map fun x => -x))
theorem maxL_spec (xs : List Int) (h : xs ≠ []) : maxL xs ∈ xs ∧ ∀ y ∈ xs, y ≤ maxL xs := by
  obtain ⟨h1, h2⟩ := minL_spec (xs.map fun x => -x) (by simpa using h)
  obtain ⟨z, hz, e⟩ := List.mem_map.mp h1
  unfold maxL
  refine ⟨by rw [← e, Int.neg_neg]; exact hz, fun y hy => ?_⟩
  have := h2 _ (List.mem_map_of_mem hy)
  omega
section
variable {X : Cx} {K : PySem.W.Frag}
def rMinL (K : PySem.W.Frag) : List V → Hp → VK → Prop := fun vs H Q => ∃ (a : Addr) (ns : List Int), vs = [V.ref a] ∧ SqL K H a (ns.map V.int) ∧ ns ≠ [] ∧ Q (.int (minL ns)) H
def rMaxL (K : PySem.W.Frag) : List V → Hp → VK → Prop := fun vs H Q => ∃ (a : Addr) (ns : List Int), vs = [V.ref a] ∧ SqL K H a (ns.map V.int) ∧ ns ≠ [] ∧ Q (.int (maxL ns)) H
theorem cr_minL (hc : X.calm = true) (hK : X.K = K := by rfl) : CallR X (.builtin "min") (rMinL K) := by
  subst hK
  intro pins s σ H vs us Q I r h
  obtain ⟨a, ns, rfl, hs, hn, q⟩ := h
  refine cr_min hc pins s σ H _ us Q I r ⟨a, ns, rfl, hs, List.length_pos_iff.mpr hn, fun m hm hle => ?_⟩
  obtain ⟨h1, h2⟩ := minL_spec ns hn
  have e : m = minL ns := Int.le_antisymm (by have := hle _ h1; omega) (h2 m hm)
  rw [e]
  exact q
theorem cr_maxL (hc : X.calm = true) (hK : X.K = K := by rfl) : CallR X (.builtin "max") (rMaxL K) := by
  subst hK
  intro pins s σ H vs us Q I r h
  obtain ⟨a, ns, rfl, hs, hn, q⟩ := h
  refine cr_max hc pins s σ H _ us Q I r ⟨a, ns, rfl, hs, List.length_pos_iff.mpr hn, fun m hm hle => ?_⟩
  obtain ⟨h1, h2⟩ := maxL_spec ns hn
  have e : m = maxL ns := Int.le_antisymm (h2 m hm) (by have := hle _ h1; omega)
  rw [e]
  exact q
end
end Vx
namespace Vx
open PySem PySem.Spec PyProof.Rows L2
def idxL (ns : List Int) (i : Int) : Int := (ns.idxOf i : Nat)
def rIndexI (K : PySem.W.Frag) : V → List V → Hp → VK → Prop := fun x xs H Q => ∃ (a : Addr) (ns : List Int) (i : Int), x = V.ref a ∧ xs = [.int i] ∧ SqL K H a (ns.map V.int) ∧ i ∈ ns ∧ Q (.int (idxL ns i)) H
theorem mt_indexI {X : Cx} {K : PySem.W.Frag} (hK : X.K = K := by rfl) : MtR X "list.index" (rIndexI K) := by
  subst hK
  intro pins s σ H x xs v us Q I rx rxs h
  obtain ⟨a, ns, i, rfl, rfl, hs, hi, q⟩ := h
  have hl := List.idxOf_lt_length_of_mem hi
  refine mt_index pins s σ H _ _ v us Q I rx rxs ⟨a, _, .int i, ns.idxOf i, .int i, rfl, rfl, hs, rfl, flat_ints ns, ?_, by simp [eqV], fun m z hm hz => ?_, q⟩
  · rw [List.getElem?_map, List.getElem?_eq_getElem hl, List.getElem_idxOf hl] <;> rfl
  · rw [List.getElem?_map] at hz
    cases e : ns[m]? with
    | none => rw [e] at hz; cases hz
    | some y =>
      rw [e] at hz
      cases hz
      have hml : m < ns.length := by omega
      have hy : ns[m] = y := by
        rw [List.getElem?_eq_getElem hml] at e
        exact Option.some.inj e
      have := List.not_of_lt_findIdx (p := (· == i)) (xs := ns) (i := m) hm
      simp only [beq_iff_eq, hy] at this
      simp [eqV, this]
theorem cW_aftgo {σ ρ τ : Type} {s : σ} {kr : ρ → Rx τ} {k : σ → Rx τ} {K : τ → Prop} {E : Nat → Prop} (h : cW ((Lp.go s : Lp σ ρ).aft kr k) K E) : cW (k s) K E := h
end Vx
namespace Vx
open PySem PySem.Spec PyProof.Rows L2
/-! ### a truth value or a number beside a number -/
def Bi.num : Bi → Int
  | .b x => if x then 1 else 0
  | .n i => i
def Bi.dat : Bi → PyData
  | .b x => .bool x
  | .n i => .int i
section
variable {X : Cx}
def rEqBI : R2 := fun x y H Q => ∃ (b : Bi) (i : Int), x = biV b ∧ y = .int i ∧ Q (.bl (decide (b.num = i))) H
def rNeBI : R2 := fun x y H Q => ∃ (b : Bi) (i : Int), x = biV b ∧ y = .int i ∧ Q (.bl (!decide (b.num = i))) H
theorem eqv_bi (b : Bi) (i : Int) : PyData.eqv b.dat (.int i) = decide (b.num = i) := by
  cases b with
  | b x => cases x <;> (rw [Bool.eq_iff_iff]; simp [Bi.dat, Bi.num, PyData.eqv])
  | n j =>
    rw [Bool.eq_iff_iff]
    simp only [Bi.dat, Bi.num, PyData.eqv, beq_iff_eq]
    exact decide_eq_true_iff.symm
theorem dp_bi {K : PySem.W.Frag} {H : Hp} : ∀ b : Bi, Dp K H (biV b) b.dat
  | .b x => .bl x
  | .n i => .int i
theorem shaped_bi : ∀ b : Bi, SeqAt.shaped b.dat = true
  | .b x => by unfold SeqAt.shaped; simp [Bi.dat, PyData.canLay0, PyData.depth]
  | .n i => by unfold SeqAt.shaped; simp [Bi.dat, PyData.canLay0, PyData.depth]
theorem op_eqBI (hu : X.A.units + 64 < cLine) : OpR X (compareOp .Eq) rEqBI := by
  intro pins s σ H x y v u Q I rx ry h
  obtain ⟨b, i, rfl, rfl, q⟩ := h
  exact op_eqD hu pins s σ H _ _ v u Q I rx ry ⟨b.dat, .int i, dp_bi b, .int i, shaped_bi b, shaped_bi (.n i), by rw [eqv_bi]; exact q⟩
theorem op_neBI (hu : X.A.units + 64 < cLine) : OpR X (compareOp .NotEq) rNeBI := by
  intro pins s σ H x y v u Q I rx ry h
  obtain ⟨b, i, rfl, rfl, q⟩ := h
  exact op_neD hu pins s σ H _ _ v u Q I rx ry ⟨b.dat, .int i, dp_bi b, .int i, shaped_bi b, shaped_bi (.n i), by rw [eqv_bi]; exact q⟩
end
end Vx
namespace Vx
open PySem PySem.Spec PyProof.Rows L2
/-! ### == of own objects by an own __eq__ that never raises -/
section
variable {X : Cx} {k j : Nat}
def rEqX (C : Addr) (n mm : Nat) (sp : Sp) (g : List V → List V → List V) : R2 := fun x y H Q => ∃ (a b dx dy : Addr) (fs gs : List (Str × V)), x = .ref a ∧ y = .ref b ∧ H a = some (.ins C dx fs) ∧ H b = some (.ins C dy gs) ∧ 2 = n ∧ 0 = mm ∧ sp (g [x, y] []) H (fun v H' => (∃ r, v = .bl r) ∧ Q v H') E0
theorem op_eqX {C : Addr} {sp : Sp} {pats : List Pat} (c : MetX X.prog X.w X.K X.mg X.base k C "__eq__" sp pats) (pt : Pat) (hpt : pt ∈ pats) (hr : RoomG j X.A) (hk : k ≤ j) (hks : pt.2.1 = [] := by rfl) : OpR X (compareOp .Eq) (rEqX C pt.1 pt.2.1.length sp pt.2.2) := by
  intro pins s σ H x y v u Q I rx ry hq
  obtain ⟨a, b, dx, dy, fs, gs, rfl, rfl, ha, hb', l1, l2, q⟩ := hq
  obtain ⟨f, fd, ps, hc, hm, F, bb⟩ := c.ex
  cases rx
  cases ry
  obtain ⟨mA, J, _⟩ := ins_get I.hok ha
  obtain ⟨mB, J', _⟩ := ins_get I.hok hb'
  obtain ⟨od, J, _⟩ := J.look
  obtain ⟨od', J', _⟩ := J'.look
  obtain ⟨m, hF⟩ := I.fr
  have hz := run_X (us := [.ref a, .ref b]) (vs := [.ref a, .ref b]) (ws := []) (zs := []) F (hr.low hk) (bb pt hpt) (takes0 (X := X)) I (.cons rfl (.cons rfl .nil)) .nil l1 l2 q
  rw [hks] at hz
  show wpAny (model X.prog X.w) X.A (richCompare .Eq (.ref a) (.ref b)) (EP X pins σ Q) X.xe s
  refine PySem.W.cmp_K (op := .Eq) (tb := .ref C) (hr.low hk).toRoom.units0 hF I.ok.mod.kin J J'.type (by simp [PySem.W.notFirst]) hm.at_ hm.fn ?_
  refine wpAny_mono hz (fun r s' z => ?_) fun _ _ e => e
  obtain ⟨w, H', I', rw', ⟨⟨q1, rfl⟩, q2⟩⟩ := z
  cases rw'
  exact ⟨V.bl q1, H', I', rfl, q2⟩
end
end Vx
namespace Vx
open PySem PySem.Spec PyProof.Rows L2
/-! ### isinstance of the exception in hand: a built-in class, a tuple of classes -/
theorem kit_blt {K : PySem.W.Frag} {D : Addr} {T : String} {b : Bool} (h : PySem.W.subIn K (.ref D) (.type T) = some b) (h0 : PySem.W.kitMeta T = true := by decide +kernel) : PySem.W.kitOne K (.ref D) (.type T) = some b := by
  unfold PySem.W.kitOne
  rw [if_neg (show ¬ (Value.ref D == Value.type T) = true from fun z => nomatch (show false = true from z))]
  show (if PySem.W.kitMeta T = true then PySem.W.subIn K (.ref D) (.type T) else none) = some b
  rw [if_pos h0, h]
def rIsXB (K : PySem.W.Frag) (a : Addr) (cls : Value) (d : Option Addr) : List V → Hp → VK → Prop := fun xs H Q => ∃ (D : Addr) (T : String) (b : Bool), cls = .ref D ∧ d = none ∧ ExcC K D ∧ xs = [.ref a, .ty T] ∧ PySem.W.kitOne K (.ref D) (.type T) = some b ∧ Q (.bl b) H
theorem call_isXB {X : Cx} {K : PySem.W.Frag} {a : Addr} {cls : Value} {d : Option Addr} {oe : Obj} {pn : List (Addr × Obj)} (hz : Zc cls d oe) (hf : ∃ vs, oe.data = .fields vs) (hK : X.K = K := by rfl) : CallR (X.suite a ((a, oe) :: pn)) (.builtin "isinstance") (rIsXB K a cls d) := by
  subst hK
  intro pins s σ H xs us Q I r h
  obtain ⟨D, T, b, rfl, rfl, c, rfl, e, q⟩ := h
  exact call_isE c hz hf pins s σ H _ us Q I r ⟨_, _, b, rfl, fun u z => z, e, q⟩
def rIsXT (K : PySem.W.Frag) (a : Addr) (cls : Value) (d : Option Addr) : List V → Hp → VK → Prop := fun xs H Q => ∃ (D tp : Addr) (cs : List V) (ws : List Value) (b : Bool), cls = .ref D ∧ d = none ∧ ExcC K D ∧ xs = [.ref a, .ref tp] ∧ H tp = some (.tup cs) ∧ Paired ClsV cs ws ∧ PySem.W.kitAny K (.ref D) ws = some b ∧ Q (.bl b) H
theorem call_isXT {X : Cx} {K : PySem.W.Frag} {a : Addr} {cls : Value} {d : Option Addr} {oe : Obj} {pn : List (Addr × Obj)} (hz : Zc cls d oe) (hf : ∃ vs, oe.data = .fields vs) (hK : X.K = K := by rfl) : CallR (X.suite a ((a, oe) :: pn)) (.builtin "isinstance") (rIsXT K a cls d) := by
  subst hK
  intro pins s σ H xs us Q I r h
  obtain ⟨D, tp, cs, ws, b, rfl, rfl, C, rfl, hT, k, e, q⟩ := h
  cases r with
  | cons rx rr =>
    cases rr with
    | cons rt rr =>
      cases rr
      cases rx
      cases rt
      obtain ⟨hget, _⟩ := I.pin (a, oe) (List.mem_append.mpr (.inl List.mem_cons_self))
      obtain ⟨vs, hv⟩ := hf
      have J : PySem.W.InstAt s.heap a oe D none := by
        obtain ⟨oc, od, oda, osl⟩ := oe
        obtain ⟨h1, h2⟩ := hz
        dsimp only at h1 h2 hv
        subst h1 h2 hv
        exact ⟨hget, rfl, rfl, trivial⟩
      obtain ⟨_, its, rv, o, h1, h2, n, h3⟩ := (show ObjOk X.prog X.w H s.heap tp (.tup cs) from I.hok tp _ hT)
      have e3 := ClsV.all k rv
      subst e3
      obtain ⟨oc, od, dt, sl⟩ := o
      simp only at h2 h3
      subst h2 h3
      exact PySem.W.kia_tup (PySem.W.handS_kitx_exc C.hg C.hk C.hs C.hd C.ha C.hn C.ht C.hm) I.kIn J h1 e (fun z => nomatch z) fun tk => ⟨.bl b, H, I.kept (t' := tk) fun _ _ z => z, rfl, q⟩
theorem kit_self {K : PySem.W.Frag} {t : Value} (h : (t == t) = true := by simp) : PySem.W.kitOne K t t = some true := by
  unfold PySem.W.kitOne
  rw [if_pos h]
/-- what a class must say, so that isinstance asks its objects rightly -/
structure IsiC (K : PySem.W.Frag) (C : Addr) : Prop where
  ha : PySem.W.findIn K (.ref C) "__class__" = some (some (.builtin "object.__class__"))
  hn : PySem.W.specialIn K (.builtin "object.__class__") "__get__" = some (some (.builtin "getset_descriptor.__get__"))
  ht : PySem.W.takesIn K (.builtin "object.__class__") = some true
  hm : PySem.W.mroIn K C (.type "object") = some true
theorem tyX_ins {K : PySem.W.Frag} {H : Hp} {a C dx : Addr} {fs : List (Str × V)} (e : H a = some (.ins C dx fs)) (cl : Cls K C) (c : IsiC K C) : TyX K H (.ref a) (.ref C) := .base (.ins e cl c.ha c.hn c.ht c.hm)
end Vx
namespace Vx
open PySem PySem.Spec PyProof.Rows L2
theorem op_notTrue {X : Cx} : OpR X (compareOp .IsNot) (fun x y H Q => ∃ b : Bool, x = .bl b ∧ y = .bl true ∧ Q (.bl (!b)) H) := by
  intro pins s σ H x y v u Q I rx ry h
  obtain ⟨b, rfl, rfl, q⟩ := h
  cases rx
  cases ry
  show wpAny (model X.prog X.w) X.A (compareOp .IsNot (.bool b) (.bool true)) (EP X pins σ Q) X.xe s
  have e : compareOp .IsNot (.bool b) (.bool true) = pure (.bool (!b)) := by cases b <;> rfl
  rw [e]
  exact wpAny_pure ⟨.bl (!b), H, I, rfl, q⟩
end Vx
/-! # lists stored into trees -/
namespace Vx
open PySem PySem.Spec PyProof.Rows L2
section
variable {G H I : Hp} {α : Type} {f : α → Dt} {L : List Addr} {vs : List V} {xs : List α}
theorem OwAll.set {L1 : List Addr} {v : V} {d : Dt} (h : Ow G H L1 v d) : ∀ {L : List Addr} {vs : List V} {ds : List Dt} (i : Nat), i < ds.length → OwAll G H L vs ds → (∀ b ∈ L1, b ∉ L) → ∃ L', (∀ b ∈ L', b ∈ L ++ L1) ∧ OwAll G H L' (vs.set i v) (ds.set i d)
  | _, _, _, _, hi, .nil, _ => absurd hi (Nat.not_lt_zero _)
  | _, _, _, 0, _, .cons (L1 := La) (L2 := Lb) a r n, nf => by
    refine ⟨L1 ++ Lb, fun b hb => ?_, .cons h r fun b hb q => nf b hb (List.mem_append_right _ q)⟩
    rcases List.mem_append.mp hb with q | q
    · exact List.mem_append_right _ q
    · exact List.mem_append_left _ (List.mem_append_right _ q)
  | _, _, _, i + 1, hi, .cons (L1 := La) (L2 := Lb) a r n, nf => by
    obtain ⟨L', s, w⟩ := OwAll.set h i (Nat.lt_of_succ_lt_succ hi) r fun b hb q => nf b hb (List.mem_append_right _ q)
    refine ⟨La ++ L', fun b hb => ?_, .cons a w fun b hb q => ?_⟩
    · rcases List.mem_append.mp hb with q | q
      · exact List.mem_append_left _ (List.mem_append_left _ q)
      · rcases List.mem_append.mp (s b q) with z | z
        · exact List.mem_append_left _ (List.mem_append_right _ z)
        · exact List.mem_append_right _ z
    · rcases List.mem_append.mp (s b q) with z | z
      · exact n b hb z
      · exact nf b z (List.mem_append_left _ hb)
theorem ixN_len {k : Int} (e : vs.length = xs.length) (h : -(xs.length : Int) ≤ k ∧ k < xs.length) : ixN vs.length k = some ((ixN vs.length k).getD 0) := by
  rw [e]
  obtain ⟨j, hj, _⟩ := ixN_some h
  rw [hj]
  rfl
theorem OwAll.setM {k : Int} {L1 : List Addr} {v : V} {y : α} (w : OwAll G H L vs (xs.map f)) (h : -(xs.length : Int) ≤ k ∧ k < xs.length) (ow : Ow G H L1 v (f y)) (n : ∀ b ∈ L1, b ∉ L) :
    ∃ L', (∀ b ∈ L', b ∈ L ++ L1) ∧ OwAll G H L' (vs.set ((ixN vs.length k).getD 0) v) ((setL xs k y).map f) := by
  obtain ⟨j, e, hj⟩ := ixN_some h
  obtain ⟨L', s, z⟩ := OwAll.set ow j (by simpa using hj) w n
  refine ⟨L', s, ?_⟩
  unfold setL
  rw [w.lenM, e, List.map_set]
  exact z
end
theorem ne_of_len {α : Type} {xs : List α} (h : 1 ≤ xs.length ∧ xs.length ≤ 1000000) : xs ≠ [] := by
  rintro rfl
  simp at h
end Vx
namespace Vx
open PySem PySem.Spec PyProof.Rows L2
/-! ### written dicts of ints -/
inductive EI : List (Int × Int) → List DictEntry → Prop
  | nil : EI [] []
  | cons {k v : Int} {t u : Tok} {r : List (Int × Int)} {es : List DictEntry} (h : EI r es) : EI ((k, v) :: r) (⟨hashInt k, .int k t, .int v u⟩ :: es)
def lookI : List (Int × Int) → Int → Option Int
  | [], _ => none
  | (k, v) :: r, i => if i = k then some v else lookI r i
def KDI (K : PySem.W.Frag) (a : Addr) (kvs : List (Int × Int)) : Prop :=
  ∃ es n, K.lookup a = some ⟨.type "dict", none, .dict es n, #[]⟩ ∧ (a == sysModules) = false ∧ EI kvs es.toList
theorem lookI_mem {kvs : List (Int × Int)} {i : Int} : (lookI kvs i).isSome = decide (i ∈ kvs.map (·.1)) := by
  induction kvs with
  | nil => rfl
  | cons p r ih =>
    obtain ⟨k, v⟩ := p
    unfold lookI
    by_cases q : i = k
    · rw [if_pos q]; simp [q]
    · rw [if_neg q, ih]; simp [q]
theorem EI.find {i : Int} : ∀ {kvs : List (Int × Int)} {es : List DictEntry}, EI kvs es → match lookI kvs i with
    | some v => ∃ u, (es.find? fun e => keyIs (.inl i) e.key).map (·.val) = some (.int v u)
    | none => (es.find? fun e => keyIs (.inl i) e.key).map (·.val) = none
  | _, _, .nil => rfl
  | _, _, .cons (k := k) (v := v) (t := t) (u := u) (r := r) (es := es) h => by
    have ih := EI.find (i := i) h
    unfold lookI
    by_cases q : i = k
    · subst q
      rw [if_pos rfl]
      refine ⟨u, ?_⟩
      rw [List.find?_cons_of_pos (by exact keyIs_int i t)]
      rfl
    · rw [if_neg q]
      have e : ¬ (keyIs (.inl i) (Value.int k t) = true) := by
        intro z
        obtain ⟨t', e'⟩ := Value.isInt_shape (k := i) (v := Value.int k t) z
        injection e' with e1 _
        exact q e1.symm
      rw [List.find?_cons_of_neg (by exact e)]
      exact ih
theorem EI.keys {P : Program} {w : World} : ∀ {kvs : List (Int × Int)} {es : List DictEntry}, EI kvs es → ∀ e ∈ es, ∃ k, (mixKind P w).is k e.key = true ∧ e.hash = (mixKind P w).hash k
  | _, _, .nil, e, he => nomatch he
  | _, _, .cons (k := k) (t := t) h, e, he => by
    rcases List.mem_cons.mp he with rfl | he
    · exact ⟨.inl k, keyIs_int k t, rfl⟩
    · exact EI.keys h e he
section
variable {X : Cx} {K : PySem.W.Frag}
theorem KDI.map {d : Addr} {kvs : List (Int × Int)} {pins : List (Addr × Obj)} {σ : L2.St} {H : Hp} {s : Shared} (D : KDI X.K d kvs) (I : Inv X pins σ H s) : (d == sysModules) = false ∧ ∃ f, s.heap.MapOf (mixKind X.prog X.w) d f ∧ ∀ i, match lookI kvs i with
    | some v => ∃ u, f (.inl i) = some (.int v u)
    | none => f (.inl i) = none := by
  obtain ⟨es, n, hl, hd, he⟩ := D
  refine ⟨hd, fun k => findBy keyIs es k, ⟨_, es, n, I.kIn _ _ hl, ⟨rfl, rfl, rfl⟩, rfl, fun e q => EI.keys he e (Array.mem_toList_iff.mpr q), fun _ => rfl⟩, fun i => ?_⟩
  have := EI.find (i := i) he
  have e : findBy keyIs es (.inl i) = (es.toList.find? fun e => keyIs (.inl i) e.key).map (·.val) := by
    obtain ⟨l⟩ := es
    unfold findBy
    rw [List.find?_toArray]
  show match lookI kvs i with
    | some v => ∃ u, findBy keyIs es (.inl i) = some (.int v u)
    | none => findBy keyIs es (.inl i) = none
  rw [e]
  exact this
def rInDI (K : PySem.W.Frag) : R2 := fun x y H Q => ∃ (i : Int) (d : Addr) (kvs : List (Int × Int)) (ks : List Int), x = .int i ∧ y = .ref d ∧ KDI K d kvs ∧ ks = kvs.map (·.1) ∧ Q (.bl (decide (i ∈ ks))) H
def rNotInDI (K : PySem.W.Frag) : R2 := fun x y H Q => ∃ (i : Int) (d : Addr) (kvs : List (Int × Int)) (ks : List Int), x = .int i ∧ y = .ref d ∧ KDI K d kvs ∧ ks = kvs.map (·.1) ∧ Q (.bl (!decide (i ∈ ks))) H
def rIxDI (K : PySem.W.Frag) : R2 := fun x y H Q => ∃ (d : Addr) (i v : Int) (kvs : List (Int × Int)), x = .ref d ∧ y = .int i ∧ KDI K d kvs ∧ lookI kvs i = some v ∧ Q (.int v) H
theorem op_inDI (hK : X.K = K := by rfl) : OpR X (compareOp .In) (rInDI K) := by
  subst hK
  intro pins s σ H x y v u Q I rx ry h
  obtain ⟨i, d, kvs, ks, rfl, rfl, D, rfl, q⟩ := h
  rw [← lookI_mem] at q
  obtain ⟨t, rfl⟩ := rx
  cases ry
  obtain ⟨hd, f, hm, hf⟩ := D.map I
  refine wpAny_in_of (knd := mixKind X.prog X.w) (kV_is (k := .inl i) ⟨t, rfl⟩) hd hm ?_
  have e : (f (.inl i)).isSome = (lookI kvs i).isSome := by
    have := hf i
    split at this
    · next v hv => obtain ⟨u, hu⟩ := this; rw [hu, hv]; rfl
    · next hv => rw [this, hv]; rfl
  rw [e]
  exact ⟨.bl (lookI kvs i).isSome, H, I.tok _, rfl, q⟩
theorem op_notInDI (hK : X.K = K := by rfl) : OpR X (compareOp .NotIn) (rNotInDI K) := by
  subst hK
  intro pins s σ H x y v u Q I rx ry h
  obtain ⟨i, d, kvs, ks, rfl, rfl, D, rfl, q⟩ := h
  rw [← lookI_mem] at q
  obtain ⟨t, rfl⟩ := rx
  cases ry
  obtain ⟨hd, f, hm, hf⟩ := D.map I
  refine wpAny_notIn_of (knd := mixKind X.prog X.w) (kV_is (k := .inl i) ⟨t, rfl⟩) hd hm ?_
  have e : (f (.inl i)).isSome = (lookI kvs i).isSome := by
    have := hf i
    split at this
    · next v hv => obtain ⟨u, hu⟩ := this; rw [hu, hv]; rfl
    · next hv => rw [this, hv]; rfl
  rw [e]
  exact ⟨.bl (!(lookI kvs i).isSome), H, I.tok _, rfl, q⟩
theorem ix_DI (hK : X.K = K := by rfl) : IxR X (rIxDI K) := by
  subst hK
  intro value slice pins s σ H x y v u Q I rx ry h hs
  obtain ⟨p, i, r, kvs, rfl, rfl, D, e, q⟩ := h
  obtain rfl : v = Value.ref p := rx
  obtain ⟨t, rfl⟩ := ry
  obtain ⟨hd, f, hm, hf⟩ := D.map I
  have := hf i
  rw [e] at this
  obtain ⟨u, hu⟩ := this
  exact tail_any hm.typeIs slot_dict_getitem.lookup (wpAny_getItem_of (knd := mixKind X.prog X.w) (kV_is (k := .inl i) ⟨t, rfl⟩) hm hu ⟨.int r, H, I.tok _, ⟨_, rfl⟩, q⟩) hs
end
/-- the value at a key that is there -/
def dictI (kvs : List (Int × Int)) (i : Int) : Int := (lookI kvs i).getD 0
theorem lookI_at {kvs : List (Int × Int)} {i : Int} (h : i ∈ kvs.map (·.1)) : lookI kvs i = some (dictI kvs i) := by
  have := lookI_mem (kvs := kvs) (i := i)
  rw [decide_eq_true h] at this
  unfold dictI
  cases e : lookI kvs i with
  | none => rw [e] at this; cases this
  | some v => rfl
/-! ### walks over two lists, over numbered items, backwards -/
theorem pi_enumK {X : Cx} {K : PySem.W.Frag} {e : Expr} {ta : TA} {p pos tpos : Pos} {elts : List Expr} {kk : Nat} (hg : Gl X "enumerate") (hm : X.mg "enumerate" = none) (ha : PA X [e] ta) (hK : X.K = K := by rfl) (hs : starEach [e] X.env = [(false, eval e X.env)] := by rfl) :
    PI X (.Tuple elts kk tpos) (.Call (.Name "enumerate" p) [e] [] pos) (iEnum K ta) := hK ▸ pi_enum hg hm ha hs
section
variable {K : PySem.W.Frag} {a b : Addr} {xs ys : List V} {g : TG} {tb : TS} {tt : TT} {te : TE} {D : Ends} {σ : L2.St} {H H1 : Hp} {vs : List Nat} {DD : Addr} {Qd : Hp → Prop}
theorem for_enum (Pv : Nat → L2.St → Hp → Prop) (h0 : Pv 0 σ H) (hq : ∀ i σ H, Pv i σ H → SqL K H a xs)
    (hs : ∀ (i : Nat) (y : V) (T : Addr) (σ : L2.St) (H : Hp), xs[i]? = some y → H T = none → Pv i σ H → g (.ref T) σ (upd H T (.tup [.int (i : Nat), y])) fun σ2 H2 => tb { D with nx := Pv (i + 1), ct := Pv (i + 1), bk := D.nx } σ2 H2) (hd : ∀ σ H, Pv xs.length σ H → D.nx σ H) :
    ∃ W : Nat → Nat → L2.St → Hp → Prop, (∃ m, W 0 m σ H) ∧ ∀ i m σ H, W i m σ H →
      ((Ite K a).stop i H ∧ D.nx σ H) ∨ ((Ite K a).go i H ∧ ∃ N : L2.St → Hp → Prop, (∀ σ' H', N σ' H' → ∃ m', m' < m ∧ W (i + 1) m' σ' H') ∧ ∀ v H', (Ite K a).yld i H v H' → g v σ H' fun σ2 H2 => tb { D with nx := N, ct := N, bk := D.nx } σ2 H2) := by
  refine for_it walk_enum Pv h0 (fun i σ H _ p => hq i σ H p) (fun i x σ H H' hi p y => ?_) hd
  obtain ⟨T, x1, y1, rfl, hT, rfl, h1, h2⟩ := y
  cases h1
  exact hs i y1 T σ H h2 hT p
theorem lc_enum (Pv : Nat → Hp → Prop) (h0 : Pv 0 (upd H1 DD (.lst []))) (hq : ∀ i H, i ≤ xs.length → Pv i H → SqL K H a xs)
    (hs : ∀ (i : Nat) (y : V) (T : Addr) (H : Hp), xs[i]? = some y → H T = none → Pv i H → g (.ref T) (wipe σ vs) (upd H T (.tup [.int (i : Nat), y])) fun σ2 H2 => wipe σ2 vs = wipe σ vs ∧ tt σ2 H2 fun b H3 =>
      if b = true then te σ2 H3 fun y H4 => ∃ acc, H4 DD = some (.lst acc) ∧ acc.length < sizeLine ∧ Pv (i + 1) (upd H4 DD (.lst (acc ++ [y]))) else Pv (i + 1) H3) (hd : ∀ H, Pv xs.length H → Qd H) :
    ∃ W : Nat → Nat → Hp → Prop, (∃ m, W 0 m (upd H1 DD (.lst []))) ∧ ∀ i m H, W i m H →
      ((Ite K a).stop i H ∧ Qd H) ∨ ((Ite K a).go i H ∧ ∃ Nx : Hp → Prop, (∀ H', Nx H' → ∃ m', m' < m ∧ W (i + 1) m' H') ∧ ∀ x H', (Ite K a).yld i H x H' → g x (wipe σ vs) H' fun σ2 H2 => wipe σ2 vs = wipe σ vs ∧ tt σ2 H2 fun b H3 =>
        if b = true then te σ2 H3 fun y H4 => ∃ acc, H4 DD = some (.lst acc) ∧ acc.length < sizeLine ∧ Nx (upd H4 DD (.lst (acc ++ [y]))) else Nx H3) := by
  refine lc_it walk_enum Pv h0 hq (fun i x H H' hi p y => ?_) hd
  obtain ⟨T, x1, y1, rfl, hT, rfl, h1, h2⟩ := y
  cases h1
  exact hs i y1 T H h2 hT p
/-- zip of two lists of any lengths -/
theorem for_zipM (n : Nat) (hn : n = min xs.length ys.length) (Pv : Nat → L2.St → Hp → Prop) (h0 : Pv 0 σ H) (hq : ∀ i σ H, Pv i σ H → SqL K H a xs ∧ SqL K H b ys)
    (hs : ∀ (i : Nat) (x y : V) (T : Addr) (σ : L2.St) (H : Hp), xs[i]? = some x → ys[i]? = some y → H T = none → Pv i σ H → g (.ref T) σ (upd H T (.tup [x, y])) fun σ2 H2 => tb { D with nx := Pv (i + 1), ct := Pv (i + 1), bk := D.nx } σ2 H2) (hd : ∀ σ H, Pv n σ H → D.nx σ H) :
    ∃ W : Nat → Nat → L2.St → Hp → Prop, (∃ m, W 0 m σ H) ∧ ∀ i m σ H, W i m σ H →
      ((Itz K a b).stop i H ∧ D.nx σ H) ∨ ((Itz K a b).go i H ∧ ∃ N : L2.St → Hp → Prop, (∀ σ' H', N σ' H' → ∃ m', m' < m ∧ W (i + 1) m' σ' H') ∧ ∀ v H', (Itz K a b).yld i H v H' → g v σ H' fun σ2 H2 => tb { D with nx := N, ct := N, bk := D.nx } σ2 H2) := by
  refine for_it (walk_zip hn) Pv h0 (fun i σ H _ p => hq i σ H p) (fun i x σ H H' hi p y => ?_) hd
  obtain ⟨T, x1, y1, rfl, hT, rfl, h1, h2⟩ := y
  exact hs i x1 y1 T σ H h1 h2 hT p
theorem lc_zipM (n : Nat) (hn : n = min xs.length ys.length) (Pv : Nat → Hp → Prop) (h0 : Pv 0 (upd H1 DD (.lst []))) (hq : ∀ i H, i ≤ n → Pv i H → SqL K H a xs ∧ SqL K H b ys)
    (hs : ∀ (i : Nat) (x y : V) (T : Addr) (H : Hp), xs[i]? = some x → ys[i]? = some y → H T = none → Pv i H → g (.ref T) (wipe σ vs) (upd H T (.tup [x, y])) fun σ2 H2 => wipe σ2 vs = wipe σ vs ∧ tt σ2 H2 fun b H3 =>
      if b = true then te σ2 H3 fun y H4 => ∃ acc, H4 DD = some (.lst acc) ∧ acc.length < sizeLine ∧ Pv (i + 1) (upd H4 DD (.lst (acc ++ [y]))) else Pv (i + 1) H3) (hd : ∀ H, Pv n H → Qd H) :
    ∃ W : Nat → Nat → Hp → Prop, (∃ m, W 0 m (upd H1 DD (.lst []))) ∧ ∀ i m H, W i m H →
      ((Itz K a b).stop i H ∧ Qd H) ∨ ((Itz K a b).go i H ∧ ∃ Nx : Hp → Prop, (∀ H', Nx H' → ∃ m', m' < m ∧ W (i + 1) m' H') ∧ ∀ x H', (Itz K a b).yld i H x H' → g x (wipe σ vs) H' fun σ2 H2 => wipe σ2 vs = wipe σ vs ∧ tt σ2 H2 fun b H3 =>
        if b = true then te σ2 H3 fun y H4 => ∃ acc, H4 DD = some (.lst acc) ∧ acc.length < sizeLine ∧ Nx (upd H4 DD (.lst (acc ++ [y]))) else Nx H3) := by
  refine lc_it (walk_zip hn) Pv h0 hq (fun i x H H' hi p y => ?_) hd
  obtain ⟨T, x1, y1, rfl, hT, rfl, h1, h2⟩ := y
  exact hs i x1 y1 T H h1 h2 hT p
end
theorem zipM_len {α β : Type} {xs : List α} {ys : List β} : min xs.length ys.length = (xs.zip ys).length := by rw [List.length_zip]
theorem zipM_n {α β : Type} {vs ws : List V} {xs : List α} {ys : List β} (a : vs.length = xs.length) (b : ws.length = ys.length) : min xs.length ys.length = min vs.length ws.length := by rw [a, b]
def rListTK (K : PySem.W.Frag) : List V → Hp → VK → Prop := fun xs H Q => ∃ (p : Addr) (vs : List V), xs = [.ref p] ∧ SqT K H p vs ∧ ∀ l, H l = none → Q (.ref l) (upd H l (.lst vs))
theorem call_listTK {X : Cx} {K : PySem.W.Frag} (hK : X.K = K := by rfl) : CallR X (.type "list") (rListTK K) := by
  subst hK
  intro pins s σ H xs us Q I r h
  obtain ⟨p, vs, rfl, hs, q⟩ := h
  exact call_list_of pins s σ H _ us Q I r ⟨p, _, rfl, Or.inr hs, q⟩
/-- two lists that keep step -/
inductive F2 {α β : Type} (P : α → β → Prop) : List α → List β → Prop
  | nil : F2 P [] []
  | cons {a : α} {b : β} {l : List α} {m : List β} (h : P a b) (t : F2 P l m) : F2 P (a :: l) (b :: m)
theorem F2.get {α β : Type} {P : α → β → Prop} : ∀ {l : List α} {m : List β}, F2 P l m → ∀ (j : Nat), j < l.length → ∃ a b, l[j]? = some a ∧ m[j]? = some b ∧ P a b
  | _, _, .nil, j, h => absurd h (Nat.not_lt_zero _)
  | _, _, .cons h t, 0, _ => ⟨_, _, rfl, rfl, h⟩
  | _, _, .cons h t, j + 1, hj => t.get j (Nat.lt_of_succ_lt_succ hj)
theorem F2.at {α β : Type} [Inhabited α] [Inhabited β] {P : α → β → Prop} {l : List α} {m : List β} (h : F2 P l m) (k : Int) (h0 : 0 ≤ k) (h1 : k < l.length) : P (itD l k) (itD m k) := by
  obtain ⟨j, rfl⟩ : ∃ j : Nat, k = (j : Int) := ⟨k.toNat, by omega⟩
  obtain ⟨a, b, ha, hb, p⟩ := h.get j (by omega)
  have e1 : itD l (j : Int) = a := by unfold itD; rw [atI_nat ha]; rfl
  have e2 : itD m (j : Int) = b := by unfold itD; rw [atI_nat hb]; rfl
  rw [e1, e2]
  exact p
theorem SqT.cast {K : PySem.W.Frag} {H : Hp} {a : Addr} {xs ys : List V} (h : SqT K H a xs) (e : xs = ys) : SqT K H a ys := e ▸ h
/-- enumerate(xs) -/
def enumL {α : Type} (xs : List α) : List (Int × α) := (rng 0 xs.length).zip xs
theorem enumL_len {α : Type} (xs : List α) : (enumL xs).length = xs.length := by
  unfold enumL
  rw [List.length_zip, rng_len, Nat.min_self]
theorem enumL_get {α : Type} {xs : List α} {i : Nat} {x : α} (h : xs[i]? = some x) : (enumL xs)[i]? = some ((i : Int), x) := by
  have hl : i < xs.length := (List.getElem?_eq_some_iff.mp h).1
  unfold enumL
  rw [List.getElem?_zip_eq_some]
  refine ⟨?_, h⟩
  have := rng_get (lo := 0) hl
  rw [this]
  congr 1
  omega
end Vx
namespace Vx
open PySem PySem.Spec PyProof.Rows L2
theorem wipe_get : ∀ (σ : L2.St) (vs : List Nat) (j : Nat), (wipe σ vs)[j]? = if j ∈ vs ∧ j < σ.length then some none else σ[j]?
  | σ, [], j => by simp [wipe]
  | σ, v :: vs, j => by
    unfold wipe
    by_cases e : v = j
    · subst e
      by_cases h : v < σ.length
      · rw [List.getElem?_set_self (by rw [wipe_length]; exact h), if_pos ⟨List.mem_cons_self, h⟩]
      · rw [if_neg (fun z => h z.2), List.getElem?_eq_none (by rw [List.length_set, wipe_length]; omega), List.getElem?_eq_none (by omega)]
    · rw [List.getElem?_set_ne e, wipe_get σ vs j]
      have : (j ∈ v :: vs ∧ j < σ.length) ↔ (j ∈ vs ∧ j < σ.length) := by
        constructor
        · rintro ⟨h1, h2⟩
          rcases List.mem_cons.mp h1 with rfl | h1
          · exact absurd rfl e
          · exact ⟨h1, h2⟩
        · rintro ⟨h1, h2⟩
          exact ⟨List.mem_cons_of_mem _ h1, h2⟩
      by_cases q : j ∈ vs ∧ j < σ.length
      · rw [if_pos q, if_pos (this.mpr q)]
      · rw [if_neg q, if_neg (fun z => q (this.mp z))]
theorem wipe_wipe {σ : L2.St} {vs : List Nat} : wipe (wipe σ vs) vs = wipe σ vs := by
  apply List.ext_getElem?
  intro j
  rw [wipe_get (wipe σ vs), wipe_length]
  by_cases q : j ∈ vs ∧ j < σ.length
  · rw [if_pos q, wipe_get, if_pos q]
  · rw [if_neg q]
theorem wipe_set {σ : L2.St} {vs : List Nat} {v : Nat} {x : Option V} (h : v ∈ vs) : wipe (σ.set v x) vs = wipe σ vs := by
  apply List.ext_getElem?
  intro j
  rw [wipe_get, wipe_get, List.length_set]
  by_cases q : j ∈ vs ∧ j < σ.length
  · rw [if_pos q, if_pos q]
  · rw [if_neg q, if_neg q]
    by_cases e : v = j
    · subst e
      have hl : ¬ v < σ.length := fun z => q ⟨h, z⟩
      rw [List.getElem?_eq_none (by rw [List.length_set]; omega), List.getElem?_eq_none (by omega)]
    · rw [List.getElem?_set_ne e]
/-- a comprehension over a step range -/
theorem lc_rangeC {lo c : Int} {n : Nat} {g : TG} {tt : TT} {te : TE} {vs : List Nat} {σ : L2.St} {H1 : Hp} {D : Addr} {Qd : Hp → Prop} (Pv : Nat → Hp → Prop) (h0 : Pv 0 (upd H1 D (.lst [])))
    (hs : ∀ i H, i < n → Pv i H → g (.int (lo + (i : Nat) * c)) (wipe σ vs) H fun σ2 H2 => wipe σ2 vs = wipe σ vs ∧ tt σ2 H2 fun b H3 =>
      if b = true then te σ2 H3 fun y H4 => ∃ acc, H4 D = some (.lst acc) ∧ acc.length < sizeLine ∧ Pv (i + 1) (upd H4 D (.lst (acc ++ [y]))) else Pv (i + 1) H3) (hd : ∀ H, Pv n H → Qd H) :
    ∃ W : Nat → Nat → Hp → Prop, (∃ m, W 0 m (upd H1 D (.lst []))) ∧ ∀ i m H, W i m H →
      ((Itc lo c n).stop i H ∧ Qd H) ∨ ((Itc lo c n).go i H ∧ ∃ Nx : Hp → Prop, (∀ H', Nx H' → ∃ m', m' < m ∧ W (i + 1) m' H') ∧ ∀ x H', (Itc lo c n).yld i H x H' → g x (wipe σ vs) H' fun σ2 H2 => wipe σ2 vs = wipe σ vs ∧ tt σ2 H2 fun b H3 =>
        if b = true then te σ2 H3 fun y H4 => ∃ acc, H4 D = some (.lst acc) ∧ acc.length < sizeLine ∧ Nx (upd H4 D (.lst (acc ++ [y]))) else Nx H3) := by
  refine ⟨fun i m H => m = n - i ∧ i ≤ n ∧ Pv i H, ⟨n, by simp, Nat.zero_le _, h0⟩, ?_⟩
  rintro i m H ⟨rfl, hi, p⟩
  rcases Nat.lt_or_ge i n with hlt | hge
  · refine .inr ⟨hlt, Pv (i + 1), fun H' p' => ⟨n - (i + 1), by omega, rfl, hlt, p'⟩, fun x H' y => ?_⟩
    obtain ⟨e, y⟩ := y
    subst e y
    exact hs i _ hlt p
  · cases Nat.le_antisymm hi hge
    exact .inl ⟨Nat.le_refl _, hd H p⟩

/-! ### reversed(list of ints), any(list of ints) -/
theorem pi_revK {X : Cx} {K : PySem.W.Frag} {tg : Expr} {e : Expr} {ta : TA} {p pos : Pos} (hg : Gl X "reversed") (hm : X.mg "reversed" = none) (ha : PA X [e] ta) (hK : X.K = K := by rfl) (hs : starEach [e] X.env = [(false, eval e X.env)] := by rfl) :
    PI X tg (.Call (.Name "reversed" p) [e] [] pos) (iRev K ta) := hK ▸ pi_reversed hg hm ha hs
theorem for_revI {K : PySem.W.Frag} {a : Addr} {xs : List Int} {g : TG} {tb : TS} {D : Ends} {σ : L2.St} {H : Hp} (Pv : Nat → L2.St → Hp → Prop) (h0 : Pv 0 σ H) (hl : ∀ i σ H, i ≤ (xs.reverse.map V.int).length → Pv i σ H → SqL K H a (xs.map V.int))
    (hs : ∀ i x σ H, (xs.reverse.map V.int)[i]? = some x → Pv i σ H → g x σ H fun σ2 H2 => tb { D with nx := Pv (i + 1), ct := Pv (i + 1), bk := D.nx } σ2 H2) (hd : ∀ σ H, Pv (xs.reverse.map V.int).length σ H → D.nx σ H) :
    ∃ W : Nat → Nat → L2.St → Hp → Prop, (∃ m, W 0 m σ H) ∧ ∀ i m σ H, W i m σ H →
      ((Itv K a (xs.map V.int).length).stop i H ∧ D.nx σ H) ∨ ((Itv K a (xs.map V.int).length).go i H ∧ ∃ N : L2.St → Hp → Prop, (∀ σ' H', N σ' H' → ∃ m', m' < m ∧ W (i + 1) m' σ' H') ∧ ∀ x H', (Itv K a (xs.map V.int).length).yld i H x H' → g x σ H' fun σ2 H2 => tb { D with nx := N, ct := N, bk := D.nx } σ2 H2) := by
  have en : (xs.reverse.map V.int).length = (xs.map V.int).length := by rw [List.length_map, List.length_map, List.length_reverse]
  rw [en] at hl hd
  refine for_it walk_rev Pv h0 hl (fun i x σ H H' hi p y => ?_) hd
  obtain ⟨rfl, hx⟩ := y
  refine hs i x σ _ ?_ p
  rw [List.map_reverse, List.getElem?_reverse hi]
  exact hx
theorem ints_get : ∀ {ns : List Int} {us : List Value} {i : Nat} {v : Value}, IntsAre us ns → us[i]? = some v → ∃ t, v = .int (ns.getD i 0) t := by
  intro ns us i v h
  induction h generalizing i with
  | nil => intro z; simp at z
  | cons n t _ ih =>
    intro z
    cases i with
    | zero => simp at z; exact ⟨t, by rw [← z]; rfl⟩
    | succ i => exact ih (by simpa using z)
theorem any_rangeI : ∀ ns : List Int, (List.range ns.length).any (fun i => ns.getD i 0 != 0) = ns.any (fun x => x != 0)
  | [] => rfl
  | b :: bs => by
    rw [List.length_cons, List.range_succ_eq_map, List.any_cons, List.any_map, List.any_cons, ← any_rangeI bs]
    all_goals rfl
theorem ints_len : ∀ {ns : List Int} {us : List Value}, IntsAre us ns → us.length = ns.length := by
  intro ns us h
  induction h with
  | nil => rfl
  | cons _ _ _ ih => simp [ih]
def rAnyI (K : PySem.W.Frag) : List V → Hp → VK → Prop := fun vs H Q => ∃ (a : Addr) (ns : List Int), vs = [V.ref a] ∧ SqL K H a (ns.map V.int) ∧ Q (.bl (ns.any fun x => x != 0)) H
theorem cr_anyI {X : Cx} (hc : X.calm = true) : CallR X (.builtin "any") (rAnyI X.K) := by
  intro pins s σ H vs us Q I r h
  obtain ⟨a, ns, rfl, hs, q⟩ := h
  obtain ⟨its, rv, hl, _⟩ := I.list hs
  rw [Vals.ref1 r]
  have hb := rv.ints
  refine call_any_walk (iter_any hl.isList fun s₂ e2 st hne => ?_)
  subst e2
  have ht : TruthOf X.prog X.w X.A.in1 (fun i v => its.toArray[i]? = some v) (fun i => ns.getD i 0 != 0) := fun i v s Q E hv hq => by
    obtain ⟨t, rfl⟩ := ints_get hb (by simpa using hv)
    exact PyProof.Rows.truthy_int hq
  refine ⟨_, _, _, _, _, _, _, rfl, Walks.list (A := X.A.in1) (I.ok.hd hc) _ a hne its.toArray, st, ht, fun h' tk hk => ?_⟩
  refine ⟨.bl _, H, I.kept fun b o eo => hk b o (fun hmem => ?_) (Heap.get?_push_of_some _ eo), ?_, q⟩
  · rcases List.mem_cons.mp hmem with e1 | hmem
    · exact absurd (e1 ▸ Heap.lt_size eo) (Nat.lt_irrefl _)
    · cases hmem
  · show Value.bool _ = Value.bool _
    rw [← any_rangeI, List.size_toArray, ints_len hb]
theorem cr_anyIK {X : Cx} {K : PySem.W.Frag} (hc : X.calm = true) (hK : X.K = K := by rfl) : CallR X (.builtin "any") (rAnyI K) := hK ▸ cr_anyI hc
/-- an item of a list of data stored anew -/
theorem RpAll.setM {α : Type} {f : α → PyData} {G : Hp} {vs : List V} {xs : List α} {k : Int} {v : V} {y : α} (d : RpAll G vs (xs.map f)) (r : Rp G v (f y)) : RpAll G (vs.set ((ixN vs.length k).getD 0) v) ((setL xs k y).map f) := by
  have e : vs.length = xs.length := by rw [d.len, List.length_map]
  unfold setL
  rw [List.map_set, e]
  exact RpAll.set r _ d
end Vx
/-! # data of any shape: None beside data, tuples of several shapes -/
namespace Vx
open PySem PySem.Spec PyProof.Rows L2
def encD (d : PyData) : PyData := d
def encN (_ : Unit) : PyData := .none
def encT1 {α : Type} (f : α → PyData) (x : α) : PyData := .tuple [f x]
instance instInhD : Inhabited PyData := ⟨.none⟩
/-- a known shape: what is laid, what is read back, whether the data has the shape -/
structure Cst (α : Type) where
  enc : α → PyData
  dec : PyData → α
  ok : PyData → Bool
  h : ∀ d, ok d = true → enc (dec d) = d
  oke : ∀ x, ok (enc x) = true
  de : ∀ x, dec (enc x) = x
def cI : Cst Int := ⟨PyData.int, fun d => match d with | .int i => i | _ => 0, fun d => match d with | .int _ => true | _ => false, fun d h => (by cases d <;> first | rfl | (cases h)), fun _ => rfl, fun _ => rfl⟩
def cB : Cst Bool := ⟨PyData.bool, fun d => match d with | .bool i => i | _ => false, fun d => match d with | .bool _ => true | _ => false, fun d h => (by cases d <;> first | rfl | (cases h)), fun _ => rfl, fun _ => rfl⟩
def cS : Cst Str := ⟨PyData.str, fun d => match d with | .str i => i | _ => "", fun d => match d with | .str _ => true | _ => false, fun d h => (by cases d <;> first | rfl | (cases h)), fun _ => rfl, fun _ => rfl⟩
def cN : Cst Unit := ⟨encN, fun _ => (), fun d => match d with | .none => true | _ => false, fun d h => (by cases d <;> first | rfl | (cases h)), fun _ => rfl, fun _ => rfl⟩
def cD : Cst PyData := ⟨encD, fun d => d, fun _ => true, fun _ _ => rfl, fun _ => rfl, fun _ => rfl⟩
theorem map_dec {α : Type} (c : Cst α) : ∀ xs : List PyData, xs.all c.ok = true → (xs.map c.dec).map c.enc = xs
  | [], _ => rfl
  | x :: xs, h => by
    rw [List.all_cons, Bool.and_eq_true] at h
    rw [List.map_cons, List.map_cons, c.h x h.1, map_dec c xs h.2]
def cL {α : Type} (c : Cst α) : Cst (List α) where
  enc := encL c.enc
  dec := fun d => match d with | .list xs => xs.map c.dec | _ => []
  ok := fun d => match d with | .list xs => xs.all c.ok | _ => false
  h := fun d h => by
    cases d with
    | list xs => exact congrArg PyData.list (map_dec c xs h)
    | _ => cases h
  oke := fun x => by
    show (x.map c.enc).all c.ok = true
    rw [List.all_map, List.all_eq_true]
    exact fun a _ => c.oke a
  de := fun x => by
    show (x.map c.enc).map c.dec = x
    rw [List.map_map]
    have e : c.dec ∘ c.enc = id := funext c.de
    rw [e, List.map_id]
def cT1 {α : Type} (a : Cst α) : Cst α where
  enc := encT1 a.enc
  dec := fun d => match d with | .tuple [x] => a.dec x | _ => a.dec .none
  ok := fun d => match d with | .tuple [x] => a.ok x | _ => false
  h := fun d h => by
    split at h
    · next x => exact congrArg (fun z => PyData.tuple [z]) (a.h x h)
    · cases h
  oke := fun x => a.oke x
  de := fun x => a.de x
def cT2 {α β : Type} (a : Cst α) (b : Cst β) : Cst (α × β) where
  enc := encT2 a.enc b.enc
  dec := fun d => match d with | .tuple [x, y] => (a.dec x, b.dec y) | _ => (a.dec .none, b.dec .none)
  ok := fun d => match d with | .tuple [x, y] => a.ok x && b.ok y | _ => false
  h := fun d h => by
    split at h
    · next x y =>
      rw [Bool.and_eq_true] at h
      show PyData.tuple [a.enc (a.dec x), b.enc (b.dec y)] = _
      rw [a.h x h.1, b.h y h.2]
    · cases h
  oke := fun x => by show (a.ok (a.enc x.1) && b.ok (b.enc x.2)) = true; rw [a.oke, b.oke]; rfl
  de := fun x => by show (a.dec (a.enc x.1), b.dec (b.enc x.2)) = x; rw [a.de, b.de]
def cT3 {α β γ : Type} (a : Cst α) (b : Cst β) (c : Cst γ) : Cst (α × β × γ) where
  enc := encT3 a.enc b.enc c.enc
  dec := fun d => match d with | .tuple [x, y, z] => (a.dec x, b.dec y, c.dec z) | _ => (a.dec .none, b.dec .none, c.dec .none)
  ok := fun d => match d with | .tuple [x, y, z] => a.ok x && b.ok y && c.ok z | _ => false
  h := fun d h => by
    split at h
    · next x y z =>
      simp only [Bool.and_eq_true] at h
      show PyData.tuple [a.enc (a.dec x), b.enc (b.dec y), c.enc (c.dec z)] = _
      rw [a.h x h.1.1, b.h y h.1.2, c.h z h.2]
    · cases h
  oke := fun x => by show (a.ok (a.enc x.1) && b.ok (b.enc x.2.1) && c.ok (c.enc x.2.2)) = true; rw [a.oke, b.oke, c.oke]; rfl
  de := fun x => by show (a.dec (a.enc x.1), b.dec (b.enc x.2.1), c.dec (c.enc x.2.2)) = x; rw [a.de, b.de, c.de]
def cT4 {α β γ δ : Type} (a : Cst α) (b : Cst β) (c : Cst γ) (e : Cst δ) : Cst (α × β × γ × δ) where
  enc := encT4 a.enc b.enc c.enc e.enc
  dec := fun d => match d with | .tuple [x, y, z, w] => (a.dec x, b.dec y, c.dec z, e.dec w) | _ => (a.dec .none, b.dec .none, c.dec .none, e.dec .none)
  ok := fun d => match d with | .tuple [x, y, z, w] => a.ok x && b.ok y && c.ok z && e.ok w | _ => false
  h := fun d h => by
    split at h
    · next x y z w =>
      simp only [Bool.and_eq_true] at h
      show PyData.tuple [a.enc (a.dec x), b.enc (b.dec y), c.enc (c.dec z), e.enc (e.dec w)] = _
      rw [a.h x h.1.1.1, b.h y h.1.1.2, c.h z h.1.2, e.h w h.2]
    · cases h
  oke := fun x => by show (a.ok (a.enc x.1) && b.ok (b.enc x.2.1) && c.ok (c.enc x.2.2.1) && e.ok (e.enc x.2.2.2)) = true; rw [a.oke, b.oke, c.oke, e.oke]; rfl
  de := fun x => by show (a.dec (a.enc x.1), b.dec (b.enc x.2.1), c.dec (c.enc x.2.2.1), e.dec (e.enc x.2.2.2)) = x; rw [a.de, b.de, c.de, e.de]
section
variable {H : Hp} {v : V} {d : PyData}
theorem rp_dcast {α : Type} (c : Cst α) (g : c.ok d = true) (r : Rp H v d) : Rp H v (c.enc (c.dec d)) := by rw [c.h d g]; exact r
def dNone : PyData → Bool
  | .none => true
  | _ => false
def dSeq : PyData → Bool
  | .list _ => true
  | .tuple _ => true
  | _ => false
def dTup : PyData → Bool
  | .tuple _ => true
  | _ => false
def dLst : PyData → Bool
  | .list _ => true
  | _ => false
def dInt : PyData → Bool
  | .int _ => true
  | .bool _ => true
  | _ => false
def dBool : PyData → Bool
  | .bool _ => true
  | _ => false
def dGet : PyData → Nat → PyData
  | .tuple xs, k => xs.getD k .none
  | .list xs, k => xs.getD k .none
  | _, _ => .none
def dHasT : PyData → Nat → Bool
  | .tuple xs, k => decide (k < xs.length)
  | _, _ => false
theorem rp_ref (g : dSeq d = true) (r : Rp H v d) : ∃ a, v = .ref a := by
  cases r <;> first | exact ⟨_, rfl⟩ | cases g
theorem rp_dget {k : Nat} (g : dHasT d k = true) (r : Rp H v d) : ∃ a vs u, v = .ref a ∧ H a = some (.tup vs) ∧ atI vs (k : Int) = some u ∧ Rp H u (dGet d k) := by
  cases r with
  | tup h rs =>
    rename_i ds
    have hk : k < ds.length := of_decide_eq_true g
    obtain ⟨u, h1, h2⟩ := RpAll.at' (i := k) (d := ds[k]) rs (List.getElem?_eq_getElem hk)
    refine ⟨_, _, u, rfl, h, ?_, ?_⟩
    · exact atI_nat h1
    · show Rp H u (ds.getD k .none)
      rw [List.getD_eq_getElem?_getD, List.getElem?_eq_getElem hk]
      exact h2
  | _ => cases g
theorem rp_non {x : Unit} (r : Rp H v (encN x)) : v = .non := by unfold encN at r; cases r; rfl
theorem rp_tup1 {α : Type} {f : α → PyData} {x : α} (r : Rp H v (encT1 f x)) : ∃ a v1, v = .ref a ∧ H a = some (.tup [v1]) ∧ Rp H v1 (f x) := by
  unfold encT1 at r
  cases r with
  | tup h1 h2 =>
    cases h2 with
    | cons r1 t => cases t; exact ⟨_, _, rfl, h1, r1⟩
theorem rp_mk1 {α : Type} {f : α → PyData} {a : Addr} {v1 : V} {x : α} (h1 : H a = some (.tup [v1])) (r1 : Rp H v1 (f x)) : Rp H (.ref a) (encT1 f x) := .tup h1 (.cons r1 .nil)
theorem rp_none_iff (r : Rp H v d) : decide (v = V.non) = dNone d := by
  cases r <;> simp [dNone]
end
section
variable {X : Cx}
def rIsND : R2 := fun x y H Q => ∃ d, y = .non ∧ Rp H x d ∧ Q (.bl (dNone d)) H
def rNotND : R2 := fun x y H Q => ∃ d, y = .non ∧ Rp H x d ∧ Q (.bl (!dNone d)) H
theorem op_isND : OpR X (compareOp .Is) rIsND := by
  intro pins s σ H x y v u Q I rx ry h
  obtain ⟨d, e, r, q⟩ := h
  exact op_isN pins s σ H x y v u Q I rx ry ⟨e, by rw [rp_none_iff r]; exact q⟩
theorem op_notND : OpR X (compareOp .IsNot) rNotND := by
  intro pins s σ H x y v u Q I rx ry h
  obtain ⟨d, e, r, q⟩ := h
  exact op_notN pins s σ H x y v u Q I rx ry ⟨e, by rw [rp_none_iff r]; exact q⟩
def rEqD : R2 := fun x y H Q => ∃ a b : PyData, Rp H x a ∧ Rp H y b ∧ (SeqAt.shaped a = true ∧ SeqAt.shaped b = true) ∧ Q (.bl (PyData.eqv a b)) H
def rNeD : R2 := fun x y H Q => ∃ a b : PyData, Rp H x a ∧ Rp H y b ∧ (SeqAt.shaped a = true ∧ SeqAt.shaped b = true) ∧ Q (.bl (!PyData.eqv a b)) H
theorem op_eqDD (hu : X.A.units + 64 < cLine) : OpR X (compareOp .Eq) rEqD := by
  intro pins s σ H x y v u Q I rx ry h
  obtain ⟨a, b, h1, h2, ⟨s1, s2⟩, q⟩ := h
  exact op_eqD hu pins s σ H _ _ v u Q I rx ry ⟨_, _, h1.dp, h2.dp, s1, s2, q⟩
theorem op_neDD (hu : X.A.units + 64 < cLine) : OpR X (compareOp .NotEq) rNeD := by
  intro pins s σ H x y v u Q I rx ry h
  obtain ⟨a, b, h1, h2, ⟨s1, s2⟩, q⟩ := h
  exact op_neD hu pins s σ H _ _ v u Q I rx ry ⟨_, _, h1.dp, h2.dp, s1, s2, q⟩
def dTy : PyData → String
  | .none => "NoneType"
  | .bool _ => "bool"
  | .int _ => "int"
  | .str _ => "str"
  | .list _ => "list"
  | .tuple _ => "tuple"
  | .dict _ => "dict"
theorem Rp.tyX {K : PySem.W.Frag} {H : Hp} {v : V} {d : PyData} (r : Rp H v d) : TyX K H v (.type (dTy d)) := by
  cases r with
  | non => exact .base .non
  | bl b => exact .base (.bl b)
  | int i => exact .base (.int i)
  | str x => exact .base (.str x)
  | lst h _ => exact .base (.lst h)
  | tup h _ => exact .base (.tup h)
def rIsiD (T : String) (f : PyData → Bool) : List V → Hp → VK → Prop := fun xs H Q => ∃ (x : V) (d : PyData), xs = [x, .ty T] ∧ Rp H x d ∧ Q (.bl (f d)) H
theorem call_isiD {T : String} {f : PyData → Bool} (hT : ∀ d, kitB (dTy d) T = some (f d)) : CallR X (.builtin "isinstance") (rIsiD T f) := by
  intro pins s σ H xs us Q I r h
  obtain ⟨x, d, rfl, rx, q⟩ := h
  exact call_isi pins s σ H _ us Q I r ⟨x, .ty T, _, _, _, rfl, .ty T, rx.tyX, kit_ty (hT d), q⟩
theorem kit_dTup (d : PyData) : kitB (dTy d) "tuple" = some (dTup d) := by
  cases d with
  | none => exact (by decide +kernel : kitB "NoneType" "tuple" = some false)
  | bool _ => exact (by decide +kernel : kitB "bool" "tuple" = some false)
  | int _ => exact (by decide +kernel : kitB "int" "tuple" = some false)
  | str _ => exact (by decide +kernel : kitB "str" "tuple" = some false)
  | list _ => exact (by decide +kernel : kitB "list" "tuple" = some false)
  | tuple _ => exact (by decide +kernel : kitB "tuple" "tuple" = some true)
  | dict _ => exact (by decide +kernel : kitB "dict" "tuple" = some false)
theorem kit_dLst (d : PyData) : kitB (dTy d) "list" = some (dLst d) := by
  cases d with
  | none => exact (by decide +kernel : kitB "NoneType" "list" = some false)
  | bool _ => exact (by decide +kernel : kitB "bool" "list" = some false)
  | int _ => exact (by decide +kernel : kitB "int" "list" = some false)
  | str _ => exact (by decide +kernel : kitB "str" "list" = some false)
  | list _ => exact (by decide +kernel : kitB "list" "list" = some true)
  | tuple _ => exact (by decide +kernel : kitB "tuple" "list" = some false)
  | dict _ => exact (by decide +kernel : kitB "dict" "list" = some false)
theorem kit_dInt (d : PyData) : kitB (dTy d) "int" = some (dInt d) := by
  cases d with
  | none => exact (by decide +kernel : kitB "NoneType" "int" = some false)
  | bool _ => exact (by decide +kernel : kitB "bool" "int" = some true)
  | int _ => exact (by decide +kernel : kitB "int" "int" = some true)
  | str _ => exact (by decide +kernel : kitB "str" "int" = some false)
  | list _ => exact (by decide +kernel : kitB "list" "int" = some false)
  | tuple _ => exact (by decide +kernel : kitB "tuple" "int" = some false)
  | dict _ => exact (by decide +kernel : kitB "dict" "int" = some false)
theorem kit_dBool (d : PyData) : kitB (dTy d) "bool" = some (dBool d) := by
  cases d with
  | none => exact (by decide +kernel : kitB "NoneType" "bool" = some false)
  | bool _ => exact (by decide +kernel : kitB "bool" "bool" = some true)
  | int _ => exact (by decide +kernel : kitB "int" "bool" = some false)
  | str _ => exact (by decide +kernel : kitB "str" "bool" = some false)
  | list _ => exact (by decide +kernel : kitB "list" "bool" = some false)
  | tuple _ => exact (by decide +kernel : kitB "tuple" "bool" = some false)
  | dict _ => exact (by decide +kernel : kitB "dict" "bool" = some false)
end
/-! ### written dicts of numbers with text keys -/
inductive ES (P : Params) : List (Str × Int) → List DictEntry → Prop
  | nil : ES P [] []
  | cons {h k v} {t u : Tok} {r : List (Str × Int)} {es : List DictEntry} (e : h = PyData.keyHash P k) (x : ES P r es) : ES P ((k, v) :: r) (⟨h, .str k t, .int v u⟩ :: es)
def lookS : List (Str × Int) → Str → Option Int
  | [], _ => none
  | (k, v) :: r, i => if k = i then some v else lookS r i
def KDS (K : PySem.W.Frag) (w : World) (a : Addr) (kvs : List (Str × Int)) : Prop :=
  ∃ es n, K.lookup a = some ⟨.type "dict", none, .dict es n, #[]⟩ ∧ ES w.params kvs es.toList
theorem ES.lit {P : Params} : ∀ {kvs : List (Str × Int)} {es : List DictEntry}, ES P kvs es → PySem.W.KeysLit P es
  | _, _, .nil => trivial
  | _, _, .cons e x => ⟨⟨_, _, rfl, e⟩, ES.lit x⟩
theorem ES.find {P : Params} {i : Str} {v : Int} : ∀ {kvs : List (Str × Int)} {es : List DictEntry}, ES P kvs es → lookS kvs i = some v → ∃ e u, es.find? (fun e => e.key.isStr i) = some e ∧ e.val = .int v u
  | _, _, .nil, h => by cases h
  | _, _, .cons (k := k) (u := u) e x, h => by
    unfold lookS at h
    by_cases q : k = i
    · rw [if_pos q] at h
      subst q
      cases h
      refine ⟨_, u, List.find?_cons_of_pos ?_, rfl⟩
      simp [Value.isStr]
    · rw [if_neg q] at h
      obtain ⟨e', u', h1, h2⟩ := ES.find x h
      refine ⟨e', u', ?_, h2⟩
      rw [List.find?_cons_of_neg]
      · exact h1
      · simp [Value.isStr, q]
theorem KDS.at {K : PySem.W.Frag} {w : World} {a : Addr} {kvs : List (Str × Int)} {z : Str} {v : Int} (D : KDS K w a kvs) (h : lookS kvs z = some v) : KDct K w a z (.int v) := by
  obtain ⟨es, n, hl, x⟩ := D
  obtain ⟨e, u, h1, h2⟩ := x.find h
  refine ⟨es, n, .int v u, hl, x.lit, ?_, ⟨u, rfl⟩⟩
  unfold PySem.W.nsIn
  rw [hl]
  show (match es.toList.find? (fun e => e.key.isStr z) with
      | some e => some (some e.val)
      | none => if es.toList.any (·.refKey) then none else some none) = _
  rw [h1]
  show some (some e.val) = _
  rw [h2]
def rIxDS (K : PySem.W.Frag) (w : World) : R2 := fun x y H Q => ∃ (p : Addr) (z : Str) (kvs : List (Str × Int)) (v : Int), x = .ref p ∧ y = .str z ∧ KDS K w p kvs ∧ lookS kvs z = some v ∧ Q (.int v) H
theorem ix_DS {X : Cx} {K : PySem.W.Frag} {w : World} (hK : X.K = K := by rfl) (hw : X.w = w := by rfl) : IxR X (rIxDS K w) := by
  subst hK hw
  intro value slice pins s σ H x y v u Q I rx ry h hs
  obtain ⟨p, z, kvs, r, e1, e2, D, e, q⟩ := h
  exact ix_kdict value slice pins s σ H x y v u Q I rx ry ⟨p, z, .int r, e1, e2, D.at e, q⟩ hs
def dictS (kvs : List (Str × Int)) (i : Str) : Int := (lookS kvs i).getD 0
def hasS (kvs : List (Str × Int)) (i : Str) : Bool := (lookS kvs i).isSome
theorem lookS_at {kvs : List (Str × Int)} {i : Str} (h : hasS kvs i = true) : lookS kvs i = some (dictS kvs i) := by
  unfold hasS at h
  unfold dictS
  cases e : lookS kvs i with
  | none => rw [e] at h; cases h
  | some v => rfl
/-! ### for the mathematics -/
theorem eqv_enc {α : Type} [DecidableEq α] {n : Nat} {f : α → PyData} (ok : EncOk n f) (x y : α) : PyData.eqv (f x) (f y) = decide (x = y) := ok.eqv x y
end Vx
namespace Vx
open PySem PySem.Spec PyProof.Rows L2
theorem sm_str {x : Str} (h : (reprText x).length ≤ 20) : Sm 1 0 (.str x) := ⟨by simp only [smallD, decide_eq_true_eq]; exact h, by simp [nodes], by simp [PyData.depth]⟩
theorem sm_none : Sm 1 0 (encN ()) := sm_non
theorem sm_T1 {α : Type} {f : α → PyData} {n k : Nat} {p : α} (h1 : Sm n k (f p)) : Sm (1 + n) (k + 1) (encT1 f p) := by
  obtain ⟨a1, a2, a3⟩ := h1
  refine ⟨by simp [encT1, smallD, smallAll, a1], ?_, ?_⟩
  · simp only [encT1, nodes, nodesAll]
    omega
  · simp only [encT1, PyData.depth, PyData.depthAll]
    omega
theorem sm_T4 {α β γ δ : Type} {f : α → PyData} {g : β → PyData} {h : γ → PyData} {e : δ → PyData} {n k m j l i o q : Nat} {p : α × β × γ × δ} (h1 : Sm n k (f p.1)) (h2 : Sm m j (g p.2.1)) (h3 : Sm l i (h p.2.2.1)) (h4 : Sm o q (e p.2.2.2)) : Sm (1 + n + m + l + o) (max k (max j (max i q)) + 1) (encT4 f g h e p) := by
  obtain ⟨a1, a2, a3⟩ := h1
  obtain ⟨b1, b2, b3⟩ := h2
  obtain ⟨c1, c2, c3⟩ := h3
  obtain ⟨d1, d2, d3⟩ := h4
  refine ⟨by simp [encT4, smallD, smallAll, a1, b1, c1, d1], ?_, ?_⟩
  · simp only [encT4, nodes, nodesAll]
    omega
  · simp only [encT4, PyData.depth, PyData.depthAll]
    omega
theorem Sm.enc {n k : Nat} {d : PyData} (h : Sm n k d) : Sm n k (encD d) := h
end Vx
namespace Vx
theorem len8 {α : Type} {l : List α} (h : l.length = 8) : ∃ x0 x1 x2 x3 x4 x5 x6 x7, l = [x0, x1, x2, x3, x4, x5, x6, x7] := by
  obtain ⟨x0, r, rfl, h2⟩ := len_s h
  obtain ⟨x1, x2, x3, x4, x5, x6, x7, rfl⟩ := len7 h2
  exact ⟨x0, x1, x2, x3, x4, x5, x6, x7, rfl⟩
theorem len9 {α : Type} {l : List α} (h : l.length = 9) : ∃ x0 x1 x2 x3 x4 x5 x6 x7 x8, l = [x0, x1, x2, x3, x4, x5, x6, x7, x8] := by
  obtain ⟨x0, r, rfl, h2⟩ := len_s h
  obtain ⟨x1, x2, x3, x4, x5, x6, x7, x8, rfl⟩ := len8 h2
  exact ⟨x0, x1, x2, x3, x4, x5, x6, x7, x8, rfl⟩
theorem len10 {α : Type} {l : List α} (h : l.length = 10) : ∃ x0 x1 x2 x3 x4 x5 x6 x7 x8 x9, l = [x0, x1, x2, x3, x4, x5, x6, x7, x8, x9] := by
  obtain ⟨x0, r, rfl, h2⟩ := len_s h
  obtain ⟨x1, x2, x3, x4, x5, x6, x7, x8, x9, rfl⟩ := len9 h2
  exact ⟨x0, x1, x2, x3, x4, x5, x6, x7, x8, x9, rfl⟩
theorem len11 {α : Type} {l : List α} (h : l.length = 11) : ∃ x0 x1 x2 x3 x4 x5 x6 x7 x8 x9 x10, l = [x0, x1, x2, x3, x4, x5, x6, x7, x8, x9, x10] := by
  obtain ⟨x0, r, rfl, h2⟩ := len_s h
  obtain ⟨x1, x2, x3, x4, x5, x6, x7, x8, x9, x10, rfl⟩ := len10 h2
  exact ⟨x0, x1, x2, x3, x4, x5, x6, x7, x8, x9, x10, rfl⟩
theorem len12 {α : Type} {l : List α} (h : l.length = 12) : ∃ x0 x1 x2 x3 x4 x5 x6 x7 x8 x9 x10 x11, l = [x0, x1, x2, x3, x4, x5, x6, x7, x8, x9, x10, x11] := by
  obtain ⟨x0, r, rfl, h2⟩ := len_s h
  obtain ⟨x1, x2, x3, x4, x5, x6, x7, x8, x9, x10, x11, rfl⟩ := len11 h2
  exact ⟨x0, x1, x2, x3, x4, x5, x6, x7, x8, x9, x10, x11, rfl⟩
end Vx
namespace Vx
open PySem PySem.Spec PyProof.Rows L2
theorem Sep.mutnews {M : List Addr} {H0 G0 G H H' : Hp} {O : List Addr} (S : Sep M H0 G0 G H O) {L : List Addr} (x : SameXs L H H') (hL : ∀ a ∈ L, a ∈ O) (hs : ∀ a ∈ L, H' a ≠ none) (N : List Addr) (hN : ∀ a ∈ N, H a = none ∧ H' a ≠ none ∧ H0 a = none) : Sep M H0 G0 G H' (N ++ O) := by
  have S1 := S.mut x hL hs
  refine ⟨S1.base, S1.pm, S1.sG, S1.g0, S1.gn, fun a ha => ?_⟩
  rcases List.mem_append.mp ha with z | z
  · obtain ⟨h1, h2, h3⟩ := hN a z
    exact ⟨S.gfree h1, h2, .inr h3⟩
  · exact S1.ow a z
end Vx
/-! # sorted(set(xs)), xs a list of numbers -/
namespace Vs
open PySem PySem.Spec PyProof.Rows L2
section
variable {prog : Program} {wo : World} {Ar : Around} {Er : Value → Shared → Prop} {st : Shared}
/-- the object that set.__new__ lays -/
abbrev bare (wo : World) : Obj := { cls := .type "set", dict := none, data := .set #[] 0 (.fresh 0 0 (!wo.params.followText "set-order")) }
theorem get_bare (h : Heap) : (h.push (bare wo)).get? h.objs.size = some (bare wo) := Heap.get?_push_size _ rfl
/-- set.__init__ of a new, empty set over a list of numbers -/
theorem init_list {lst : Addr} {arr : Array Value} {ks : List Int} (calm : Ar.handled = none) (isl : st.heap.IsList lst arr) (hin : IntsAre arr.toList ks) (few : ks.length + 1 < scanBound)
    (R : Result → Shared → Prop)
    (fin : ∀ (g : Heap) (tk c : Nat), SetR wo g st.heap.objs.size (fun j => decide (j ∈ ks)) c → c ≤ ks.length → (∀ b o, st.heap.get? b = some o → g.get? b = some o) → R (.ok (.ret .none)) { st with heap := g, toks := tk }) :
    codeAny (model prog wo) Ar (.call (.builtin "set.__init__") ⟨[.ref st.heap.objs.size, .ref lst], []⟩) R { st with heap := st.heap.push (bare wo) } := by
  have typ : Shared.TypeIs { st with heap := st.heap.push (bare wo) } (.ref st.heap.objs.size) "set" := ⟨_, get_bare _, rfl⟩
  have len : arr.size = ks.length := by
    have z := hin.length
    rwa [Array.length_toList] at z
  refine codeAny_call_builtin F.called_set.init.plain F.entry_set_init (check_set_init_1 typ ?_)
  obtain ⟨⟨k1, k2, k3, k4⟩, ho, e1, m, e2⟩ := isl
  simp only at e1 e2
  subst e1 e2
  have below : lst < st.heap.objs.size := Heap.lt_size ho
  have il : (st.heap.push (bare wo)).IsList lst arr := ⟨_, Heap.get?_push_of_some _ ho, rfl, m, rfl⟩
  have a1 := F.sub_list_set
  have a2 := F.sub_list_frozenset
  have a3 : (Value.type "list" == Value.type "dict") = false := by decide
  have a4 := Heap.get?_push_of_some (bare wo) ho
  unfold Builtin.«set.__init__» noKeywords Builtin.Frozenset.updateFrom
  generalize hw : pyIter = WK
  wp_walk
  subst hw
  refine wpAny_pyIter_list il (wpAny_bind (wpAny_runValue ?_))
  have sz : (st.heap.push (bare wo)).objs.size = st.heap.objs.size + 1 := Heap.size_push ..
  have c3 : Ar.in1.in1.handled = none := by simp [calm]
  have far : lst ≠ (st.heap.push (bare wo)).objs.size := by rw [sz]; exact Nat.ne_of_lt (Nat.lt_succ_of_lt below)
  have out : st.heap.objs.size ∉ [(st.heap.push (bare wo)).objs.size, lst] := by
    intro z
    rcases List.mem_cons.mp z with z | z
    · rw [sz] at z; exact absurd z (Nat.ne_of_lt (Nat.lt_succ_self _))
    · exact absurd (List.mem_singleton.mp z) (Nat.ne_of_gt below)
  refine set_update_ints ((Walks.list c3 _ lst far arr).toS) st.heap.objs.size out ks len few (fun i v hv => ?_) (arr.size - 0) 0 _ (by omega) (Nat.zero_le _) ?_ ?_ ?_
  · have hi : i < ks.length := by rw [← len]; exact (Array.getElem?_eq_some_iff.mp hv).1
    obtain ⟨t, e⟩ := PyProof.Rows.IntsAre.int_at hin i v (by rw [Array.getElem?_toList]; exact hv)
    refine ⟨ks[i], t, List.getElem?_eq_getElem hi, ?_⟩
    rw [e, List.getD_eq_getElem?_getD, List.getElem?_eq_getElem hi] <;> rfl
  · exact ⟨⟨_, Heap.get?_push_size _ rfl, rfl, rfl⟩, il.push _⟩
  · exact ⟨0, Nat.le_refl 0, setR_new_at (Heap.get?_push_of_some _ (get_bare _))⟩
  · rintro ⟨g, q1, q2, q3, q4⟩ c mv hc hs
    have b1 : q1 = st.gens := mv.gens
    have b2 : q2 = st.drawn := mv.drawn
    have b3 : q4 = st.os := mv.os
    subst b1 b2 b3
    refine wpAny_pure ?_
    refine wpAny_pure ?_
    rw [len] at hc
    refine fin g q3 c hs hc fun b o e => ?_
    have hb : b < st.heap.objs.size := Heap.lt_size e
    refine mv.heap b o (fun z => ?_) (Heap.get?_push_of_some _ (Heap.get?_push_of_some _ e))
    rcases List.mem_cons.mp z with z | z
    · exact absurd z (Nat.ne_of_lt hb)
    · have z := List.mem_singleton.mp z
      rw [sz] at z
      exact absurd z (Nat.ne_of_lt (Nat.lt_succ_of_lt hb))
end
end Vs
namespace Vs
open PySem PySem.Spec PyProof.Rows L2
section
variable {prog : Program} {wo : World} {Ar : Around} {Er : Value → Shared → Prop} {st : Shared}
/-- set(xs): a new set of the numbers of a list -/
theorem make_list {lst : Addr} {arr : Array Value} {ks : List Int} {Q : Value → Shared → Prop} (calm : Ar.handled = none) (isl : st.heap.IsList lst arr) (hin : IntsAre arr.toList ks) (few : ks.length + 1 < scanBound)
    (fin : ∀ (g : Heap) (tk c : Nat), SetR wo g st.heap.objs.size (fun j => decide (j ∈ ks)) c → c ≤ ks.length → (∀ b o, st.heap.get? b = some o → g.get? b = some o) → Q (.ref st.heap.objs.size) { st with heap := g, toks := tk }) :
    wpAny (model prog wo) Ar (call (.type "set") [.ref lst]) Q Er st := by
  obtain ⟨cc, tl, hmro⟩ := F.called_set.mro
  have m1 := F.called_set.made
  have m2 := F.called_set.sub
  have m3 := F.called_set.notType
  have m4 := F.called_set.canCreate
  have m5 := F.typeCall_set_1 (.ref lst)
  refine wpAny_call (codeAny_of_tree ?_)
  show wpAny _ _ (callAny (.type "set") _) _ _ _
  refine wpAny_pure ⟨Code.quiet_builtin _ (by decide +kernel), codeAny_builtin F.entry_type_call ?_⟩
  rw [Around.under_plain (weight_type_call_type "set" [.ref lst] []) rfl]
  repeat (any_goals (first | assumption | wp_step))
  refine codeAny_mono (code_set_led1 (.ref lst) (E := Er) (Q₁ := fun obj z => obj = .ref st.heap.objs.size ∧ z = { st with heap := st.heap.push (bare wo) }) ⟨rfl, rfl⟩) fun r z hr => ?_
  match r, hr with
  | .error e, hr => exact hr
  | .ok (.ret obj), hr =>
    obtain ⟨rfl, rfl⟩ := hr
    have m6 := F.called_set.init.lookup
    have m7 := F.called_set.init.bind (.ref st.heap.objs.size)
    have typ : Shared.TypeIs { st with heap := st.heap.push (bare wo) } (.ref st.heap.objs.size) "set" := ⟨_, get_bare _, rfl⟩
    repeat (any_goals (first | assumption | wp_step))
    refine codeAny_mono (init_list (R := wants (fun r z => r = .none ∧ ∃ g tk c, z = { st with heap := g, toks := tk } ∧ SetR wo g st.heap.objs.size (fun j => decide (j ∈ ks)) c ∧ c ≤ ks.length ∧ ∀ b o, st.heap.get? b = some o → g.get? b = some o) Er)
      (by simp [calm]) isl hin few fun g tk c a b k => ⟨rfl, g, tk, c, rfl, a, b, k⟩) fun r z hr => ?_
    match r, hr with
    | .error e, hr => exact hr
    | .ok (.ret v), hr =>
      obtain ⟨rfl, g, tk, c, rfl, a, b, k⟩ := hr
      repeat (any_goals (first | assumption | wp_step))
      exact fin _ _ _ a b k
end
section
variable {X : Cx}
/-- set(xs) -/
def rSetI (w : World) : List V → Hp → VK → Prop := fun xs H Q => ∃ (l : Addr) (ks : List Int), xs = [V.ref l] ∧ (∃ K, SqL K H l (ks.map V.int)) ∧ ks.length ≤ 50 ∧
  ∀ (p : Addr) (n : Nat), n ≤ ks.length → H p = none → Q (.ref p) (upd H p (SetO w p (fun j => decide (j ∈ ks)) n))
end
end Vs
namespace Vx
open PySem PySem.Spec PyProof.Rows L2
section
variable {X : Cx}
def rSetI (K : PySem.W.Frag) (w : World) : List V → Hp → VK → Prop := fun xs H Q => ∃ (l : Addr) (ks : List Int), xs = [V.ref l] ∧ SqL K H l (ks.map V.int) ∧ ks.length ≤ 50 ∧
  ∀ (p : Addr) (n : Nat), n ≤ ks.length → H p = none → Q (.ref p) (upd H p (SetO w p (fun j => decide (j ∈ ks)) n))
theorem cr_setI {K : PySem.W.Frag} {w : World} (hc : X.calm = true) (hK : X.K = K := by rfl) (hw : X.w = w := by rfl) : CallR X (.type "set") (rSetI K w) := by
  subst hK hw
  intro pins s σ H xs us Q I r h
  obtain ⟨l, ks, rfl, hl, hf, q⟩ := h
  rw [Vals.ref1 r]
  obtain ⟨its, rv, pl, hz⟩ := I.list hl
  have hb : scanBound = 4096 := rfl
  refine Vs.make_list (I.ok.hd hc) pl.isList (by simpa using ints_of_vals rv) (by omega) fun g tk c R hcn k => ?_
  exact ⟨.ref _, upd H _ (SetO X.w _ (fun j => decide (j ∈ ks)) c), I.laid (t' := tk) k (Nat.le_refl _) (setO_new R), rfl, q _ c hcn (I.hok.fresh (Nat.le_refl _))⟩
def rSortSet (w : World) : List V → Hp → VK → Prop := fun vs H Q => ∃ (a : Addr) (ks : List Int) (n : Nat), vs = [V.ref a] ∧ H a = some (SetO w a (fun j => decide (j ∈ ks)) n) ∧ n ≤ 50 ∧
  ∀ (ns : List Int) (p : Addr), ns.Pairwise (· < ·) → (∀ k : Int, k ∈ ns ↔ k ∈ ks) → H p = none → Q (.ref p) (upd H p (.lst (ns.map V.int)))
theorem cr_sortSet {w : World} (hc : X.calm = true) (hw : X.w = w := by rfl) : CallR X (.builtin "sorted") (rSortSet w) := by
  subst hw
  intro pins s σ H vs us Q I r h
  obtain ⟨a, ks, n, rfl, ha, h64, q⟩ := h
  exact cr_sortedSet hc pins s σ H _ us Q I r ⟨a, _, n, rfl, ha, by omega, fun ns p pw hm hl hn => q ns p pw (fun k => (hm k).trans decide_eq_true_iff) hn⟩
end
/-! ### numbers in order, each once -/
def insS (x : Int) : List Int → List Int
  | [] => [x]
  | y :: r => if x < y then x :: y :: r else if x = y then y :: r else y :: insS x r
def sortSet (xs : List Int) : List Int := xs.foldr insS []
theorem insS_mem {x k : Int} : ∀ {l : List Int}, k ∈ insS x l ↔ k = x ∨ k ∈ l
  | [] => by simp [insS]
  | y :: r => by
    unfold insS
    split
    · simp
    · split
      · next h => subst h; simp
      · rw [List.mem_cons, insS_mem (l := r), List.mem_cons]
        constructor <;> (intro h; rcases h with h | h | h <;> simp [h])
theorem insS_pw {x : Int} : ∀ {l : List Int}, l.Pairwise (· < ·) → (insS x l).Pairwise (· < ·)
  | [], _ => by simp [insS]
  | y :: r, h => by
    have hy := List.pairwise_cons.mp h
    unfold insS
    split
    · next c =>
      refine List.pairwise_cons.mpr ⟨fun z hz => ?_, h⟩
      rcases List.mem_cons.mp hz with rfl | hz
      · exact c
      · exact Int.lt_trans c (hy.1 z hz)
    · next c =>
      split
      · exact h
      · refine List.pairwise_cons.mpr ⟨fun z hz => ?_, insS_pw hy.2⟩
        rcases insS_mem.mp hz with rfl | hz
        · omega
        · exact hy.1 z hz
theorem sortSet_mem {k : Int} : ∀ {l : List Int}, k ∈ sortSet l ↔ k ∈ l
  | [] => Iff.rfl
  | y :: r => by
    show k ∈ insS y (sortSet r) ↔ _
    rw [insS_mem, sortSet_mem (l := r), List.mem_cons]
theorem sortSet_pw : ∀ l : List Int, (sortSet l).Pairwise (· < ·)
  | [] => List.Pairwise.nil
  | y :: r => insS_pw (sortSet_pw r)
theorem pw_uniq : ∀ {a b : List Int}, a.Pairwise (· < ·) → b.Pairwise (· < ·) → (∀ k : Int, k ∈ a ↔ k ∈ b) → a = b
  | [], [], _, _, _ => rfl
  | [], y :: r, _, _, h => absurd ((h y).mpr List.mem_cons_self) (by simp)
  | x :: r, [], _, _, h => absurd ((h x).mp List.mem_cons_self) (by simp)
  | x :: r, y :: t, p, q, h => by
    have p := List.pairwise_cons.mp p
    have q := List.pairwise_cons.mp q
    have e : x = y := by
      rcases List.mem_cons.mp ((h x).mp List.mem_cons_self) with e | e
      · exact e
      · rcases List.mem_cons.mp ((h y).mpr List.mem_cons_self) with e2 | e2
        · exact e2.symm
        · have := q.1 x e
          have := p.1 y e2
          omega
    subst e
    rw [pw_uniq p.2 q.2 fun k => ?_]
    have hk := h k
    rw [List.mem_cons, List.mem_cons] at hk
    constructor
    · intro z
      rcases hk.mp (.inr z) with e | e
      · have := p.1 k z; omega
      · exact e
    · intro z
      rcases hk.mpr (.inr z) with e | e
      · have := q.1 k z; omega
      · exact e
theorem sortSet_of {ks ns : List Int} (p : ns.Pairwise (· < ·)) (h : ∀ k : Int, k ∈ ns ↔ k ∈ ks) : ns = sortSet ks := pw_uniq p (sortSet_pw ks) fun k => (h k).trans sortSet_mem.symm
theorem gen_new2 {H H' : Hp} {p q : Addr} {o u : HO} (n : H p = none) (m : upd H p o q = none) (h : upd (upd H p o) q u = H') : Same H H' ∧ H' q = some u ∧ H q = none := by
  have hne : q ≠ p := fun z => by rw [z, upd_same] at m; cases m
  have hq : H q = none := by rwa [upd_ne hne] at m
  subst h
  refine ⟨fun b x e => ?_, upd_same, hq⟩
  rw [upd_ne (fun z => by rw [z, hq] at e; cases e), upd_ne (fun z => by rw [z, n] at e; cases e)]
  exact e
/-! ### texts in tuples and lists -/
theorem map_getF {α : Type} {f : α → V} {xs : List α} {i : Nat} {x : V} (h : (xs.map f)[i]? = some x) : ∃ o, xs[i]? = some o ∧ x = f o := by
  rw [List.getElem?_map] at h
  cases e : xs[i]? with
  | none => rw [e] at h; cases h
  | some o => rw [e] at h; exact ⟨o, rfl, (Option.some.inj h).symm⟩
theorem inV_strs (x : Str) : ∀ xs : List Str, inV (V.str x) (xs.map V.str) = decide (x ∈ xs)
  | [] => by simp [inV]
  | y :: r => by
    have h := inV_strs x r
    unfold inV at h ⊢
    rw [List.map_cons, List.any_cons, h]
    by_cases c : x = y
    · subst c
      simp [eqV]
    · simp [eqV, c, Ne.symm c]
theorem flat_strs : ∀ xs : List Str, (xs.map V.str).all flatV = true
  | [] => rfl
  | _ :: r => flat_strs r
section
variable {X : Cx} {K : PySem.W.Frag}
def rInS (K : PySem.W.Frag) : R2 := fun x y H Q => ∃ (i : Str) (p : Addr) (xs : List Str), x = .str i ∧ y = .ref p ∧ (SqL K H p (xs.map V.str) ∨ SqT K H p (xs.map V.str)) ∧ Q (.bl (decide (i ∈ xs))) H
theorem op_inS (hK : X.K = K := by rfl) : OpR X (compareOp .In) (rInS K) := by
  subst hK
  intro pins s σ H x y v u Q I rx ry h
  obtain ⟨i, p, xs, e1, e2, hs, q⟩ := h
  refine op_in_seq pins s σ H _ _ v u Q I rx ry ⟨p, _, e2, hs, by rw [e1]; rfl, flat_strs xs, ?_⟩
  rw [if_neg Bool.false_ne_true, e1, inV_strs]
  exact q
/-- a list or a tuple of numbers -/
def SeqI (K : PySem.W.Frag) (H : Hp) (v : V) (xs : List Int) : Prop := ∃ a, v = .ref a ∧ (H a = some (.lst (xs.map V.int)) ∨ H a = some (.tup (xs.map V.int)) ∨ ∀ H, SqT K H a (xs.map V.int))
def rListSI (K : PySem.W.Frag) : List V → Hp → VK → Prop := fun xs H Q => ∃ (v : V) (ks : List Int), xs = [v] ∧ SeqI K H v ks ∧ ∀ l, H l = none → Q (.ref l) (upd H l (.lst (ks.map V.int)))
theorem call_listSI (hK : X.K = K := by rfl) : CallR X (.type "list") (rListSI K) := by
  subst hK
  intro pins s σ H xs us Q I r h
  obtain ⟨v, ks, rfl, ⟨a, rfl, h2⟩, q⟩ := h
  refine call_list_of pins s σ H _ us Q I r ⟨a, _, rfl, ?_, q⟩
  rcases h2 with z | z | z
  · exact .inl (SqL.of z)
  · exact .inr (SqT.of z)
  · exact .inr (z H)
theorem SeqI.mono {H H' : Hp} {v : V} {xs : List Int} (e : Same H H') (h : SeqI K H v xs) : SeqI K H' v xs := by
  obtain ⟨a, e1, h⟩ := h
  refine ⟨a, e1, ?_⟩
  rcases h with z | z | z
  · exact .inl (e _ _ z)
  · exact .inr (.inl (e _ _ z))
  · exact .inr (.inr z)
def rTupLK (K : PySem.W.Frag) : List V → Hp → VK → Prop := fun xs H Q => ∃ (p : Addr) (ks : List Int), xs = [.ref p] ∧ SqL K H p (ks.map V.int) ∧ ∀ l, H l = none → Q (.ref l) (upd H l (.tup (ks.map V.int)))
theorem call_tupLK (hK : X.K = K := by rfl) : CallR X (.type "tuple") (rTupLK K) := by
  subst hK
  intro pins s σ H xs us Q I r h
  obtain ⟨p, ks, rfl, hs, q⟩ := h
  exact call_tuple_of pins s σ H _ us Q I r ⟨p, _, rfl, .inl ⟨hs, q⟩⟩
end
/-! ### written dicts of tuples with text keys -/
def lookG {α : Type} : List (Str × α) → Str → Option α
  | [], _ => none
  | (k, v) :: r, i => if k = i then some v else lookG r i
def dictG {α : Type} [Inhabited α] (kvs : List (Str × α)) (i : Str) : α := (lookG kvs i).getD default
def hasG {α : Type} (kvs : List (Str × α)) (i : Str) : Bool := (lookG kvs i).isSome
theorem lookG_at {α : Type} [Inhabited α] {kvs : List (Str × α)} {i : Str} (h : hasG kvs i = true) : lookG kvs i = some (dictG kvs i) := by
  unfold hasG at h
  unfold dictG
  cases e : lookG kvs i with
  | none => rw [e] at h; cases h
  | some v => rfl
inductive EA (P : Params) : List (Str × Addr) → List DictEntry → Prop
  | nil : EA P [] []
  | cons {h k a} {t : Tok} {r : List (Str × Addr)} {es : List DictEntry} (e : h = PyData.keyHash P k) (x : EA P r es) : EA P ((k, a) :: r) (⟨h, .str k t, .ref a⟩ :: es)
def KDA (K : PySem.W.Frag) (w : World) (a : Addr) (kvs : List (Str × Addr)) : Prop :=
  ∃ es n, K.lookup a = some ⟨.type "dict", none, .dict es n, #[]⟩ ∧ EA w.params kvs es.toList
theorem EA.lit {P : Params} : ∀ {kvs : List (Str × Addr)} {es : List DictEntry}, EA P kvs es → PySem.W.KeysLit P es
  | _, _, .nil => trivial
  | _, _, .cons e x => ⟨⟨_, _, rfl, e⟩, EA.lit x⟩
theorem EA.find {P : Params} {i : Str} {a : Addr} : ∀ {kvs : List (Str × Addr)} {es : List DictEntry}, EA P kvs es → lookG kvs i = some a → ∃ e, es.find? (fun e => e.key.isStr i) = some e ∧ e.val = .ref a
  | _, _, .nil, h => by cases h
  | _, _, .cons (k := k) e x, h => by
    unfold lookG at h
    by_cases q : k = i
    · rw [if_pos q] at h
      subst q
      cases h
      refine ⟨_, List.find?_cons_of_pos ?_, rfl⟩
      simp [Value.isStr]
    · rw [if_neg q] at h
      obtain ⟨e', h1, h2⟩ := EA.find x h
      refine ⟨e', ?_, h2⟩
      rw [List.find?_cons_of_neg]
      · exact h1
      · simp [Value.isStr, q]
def rIxDA (K : PySem.W.Frag) (w : World) : R2 := fun x y H Q => ∃ (p : Addr) (z : Str) (kvs : List (Str × Addr)) (a : Addr), x = .ref p ∧ y = .str z ∧ KDA K w p kvs ∧ lookG kvs z = some a ∧ Q (.ref a) H
theorem ix_DA {X : Cx} {K : PySem.W.Frag} {w : World} (hK : X.K = K := by rfl) (hw : X.w = w := by rfl) : IxR X (rIxDA K w) := by
  subst hK hw
  intro value slice pins s σ H x y v u Q I rx ry h hs
  obtain ⟨p, z, kvs, a, e1, e2, ⟨es, n, hl, xx⟩, e, q⟩ := h
  obtain ⟨en, h1, h2⟩ := xx.find e
  refine ix_kdict value slice pins s σ H x y v u Q I rx ry ⟨p, z, .ref a, e1, e2, ⟨es, n, .ref a, hl, xx.lit, ?_, rfl⟩, q⟩ hs
  unfold PySem.W.nsIn
  rw [hl]
  show (match es.toList.find? (fun e => e.key.isStr z) with
      | some e => some (some e.val)
      | none => if es.toList.any (·.refKey) then none else some none) = _
  rw [h1]
  show some (some en.val) = _
  rw [h2]
theorem F2.look {α β : Type} [Inhabited α] [Inhabited β] {P : α → β → Prop} {z : Str} : ∀ {l : List (Str × α)} {m : List (Str × β)}, F2 (fun p q => p.1 = q.1 ∧ P p.2 q.2) l m → hasG m z = true → P (dictG l z) (dictG m z)
  | _, _, .nil, h => by cases h
  | (k, a) :: l, (k2, b) :: m, .cons h r, hz => by
    obtain ⟨e, hp⟩ := h
    have e : k = k2 := e
    subst e
    unfold hasG lookG at hz
    unfold dictG lookG
    by_cases q : k = z
    · rw [if_pos q, if_pos q]; exact hp
    · rw [if_neg q] at hz
      rw [if_neg q, if_neg q]
      exact F2.look r hz
theorem F2.hasK {α β : Type} {P : α → β → Prop} {z : Str} : ∀ {l : List (Str × α)} {m : List (Str × β)}, F2 (fun p q => p.1 = q.1 ∧ P p.2 q.2) l m → hasG m z = true → hasG l z = true
  | _, _, .nil, h => by cases h
  | (k, a) :: l, (k2, b) :: m, .cons h r, hz => by
    have e : k = k2 := h.1
    subst e
    unfold hasG lookG at hz ⊢
    by_cases q : k = z
    · rw [if_pos q]; rfl
    · rw [if_neg q] at hz ⊢
      exact F2.hasK r hz
end Vx
namespace Vx
open PySem PySem.Spec PyProof.Rows L2
theorem op_notFalse {X : Cx} : OpR X (compareOp .IsNot) (fun x y H Q => ∃ b : Bool, x = .bl b ∧ y = .bl false ∧ Q (.bl b) H) := by
  intro pins s σ H x y v u Q I rx ry h
  obtain ⟨b, rfl, rfl, q⟩ := h
  cases rx
  cases ry
  show wpAny (model X.prog X.w) X.A (compareOp .IsNot (.bool b) (.bool false)) (EP X pins σ Q) X.xe s
  have e : compareOp .IsNot (.bool b) (.bool false) = pure (.bool b) := by cases b <;> rfl
  rw [e]
  exact wpAny_pure ⟨.bl b, H, I, rfl, q⟩
end Vx
/-! ### comprehensions that change an object -/
namespace Vx
open PySem PySem.Spec PyProof.Rows L2
section
variable {α β σ γ : Type}
def bind2 (m : Rx (α × σ)) (f : α → σ → Rx γ) : Rx γ := m.bind fun v => f v.1 v.2
def mapAS : List α → List β → σ → (σ → α → Rx (β × σ)) → Rx (List β × σ)
  | [], acc, s, _ => .ok (acc, s)
  | x :: r, acc, s, f => grd (acc.length ≤ 1000000) ((f s x).bind fun y => mapAS r (acc ++ [y.1]) y.2 f)
def mapFS : List α → List β → σ → (σ → α → Rx (Option β × σ)) → Rx (List β × σ)
  | [], acc, s, _ => .ok (acc, s)
  | x :: r, acc, s, f => grd (acc.length ≤ 1000000) ((f s x).bind fun y =>
    match y.1 with
    | some z => mapFS r (acc ++ [z]) y.2 f
    | none => mapFS r acc y.2 f)
theorem cW_push2 {m : Rx (α × σ)} {f : α → σ → Rx γ} {K : γ → Prop} {E : Nat → Prop} (h : cW (bind2 m f) K E) : ∃ K2 : α × σ → Prop, (∀ a s, K2 (a, s) → cW (f a s) K E) ∧ cW m K2 E := ⟨fun v => cW (f v.1 v.2) K E, fun _ _ x => x, cW_call h (fun _ x => x) fun _ x => x⟩
theorem cW_mapAS {K : List β × σ → Prop} {E : Nat → Prop} {xs : List α} {acc : List β} {s : σ} {i : Nat} {x : α} {f : σ → α → Rx (β × σ)} (hx : xs[i]? = some x) (h : cW (mapAS (xs.drop i) acc s f) K E) :
    acc.length ≤ 1000000 ∧ cW (f s x) (fun y => cW (mapAS (xs.drop (i + 1)) (acc ++ [y.1]) y.2 f) K E) E := by
  rw [List.drop_eq_getElem?_toList_append, hx] at h
  obtain ⟨z, h⟩ := cW_grd h
  exact ⟨z, cW_call h (fun _ z => z) fun _ z => z⟩
theorem cW_mapAS0 {K : List β × σ → Prop} {E : Nat → Prop} {xs : List α} {acc : List β} {s : σ} {n : Nat} {f : σ → α → Rx (β × σ)} (hn : n = xs.length) (h : cW (mapAS (xs.drop n) acc s f) K E) : K (acc, s) := by
  subst hn
  rw [List.drop_length] at h
  exact cW_ok h
theorem cW_mapFS {K : List β × σ → Prop} {E : Nat → Prop} {xs : List α} {acc : List β} {s : σ} {i : Nat} {x : α} {f : σ → α → Rx (Option β × σ)} (hx : xs[i]? = some x) (h : cW (mapFS (xs.drop i) acc s f) K E) :
    acc.length ≤ 1000000 ∧ cW (f s x) (fun y => match y.1 with | some z => cW (mapFS (xs.drop (i + 1)) (acc ++ [z]) y.2 f) K E | none => cW (mapFS (xs.drop (i + 1)) acc y.2 f) K E) E := by
  rw [List.drop_eq_getElem?_toList_append, hx] at h
  obtain ⟨z, h⟩ := cW_grd h
  refine ⟨z, cW_call h (fun y z => ?_) fun _ z => z⟩
  obtain ⟨o, t⟩ := y
  cases o with
  | none => exact z
  | some w => exact z
theorem cW_mapFS0 {K : List β × σ → Prop} {E : Nat → Prop} {xs : List α} {acc : List β} {s : σ} {n : Nat} {f : σ → α → Rx (Option β × σ)} (hn : n = xs.length) (h : cW (mapFS (xs.drop n) acc s f) K E) : K (acc, s) := by
  subst hn
  rw [List.drop_length] at h
  exact cW_ok h
end
theorem sx_of {L : List Addr} {a b : Hp} (h : Same a b) : SameXs L a b := fun p o e _ => h p o e
theorem sx_same {L : List Addr} {a b c : Hp} (h : SameXs L a b) (k : Same b c) : SameXs L a c := fun p o e n => k p o (h p o e n)
theorem sx_mut {L : List Addr} {a b c : Hp} (h : SameXs L a b) (k : SameXs L b c) : SameXs L a c := fun p o e n => k p o (h p o e n) n
theorem sx_mut1 {L : List Addr} {a b c : Hp} {D : Addr} (h : SameXs L a b) (k : SameX D b c) (d : a D = none) : SameXs L a c := fun p o e n => k p o (h p o e n) (ne_of_none e d)
def rIndexTS (K : PySem.W.Frag) : V → List V → Hp → VK → Prop := fun x xs H Q => ∃ (p : Addr) (ys : List Str) (z : Str), x = .ref p ∧ xs = [.str z] ∧ SqT K H p (ys.map V.str) ∧ z ∈ ys ∧ Q (.int ((ys.idxOf z : Nat) : Int)) H
theorem mt_indexTS {X : Cx} {K : PySem.W.Frag} (hK : X.K = K := by rfl) : MtR X "tuple.index" (rIndexTS K) := by
  subst hK
  intro pins s σ H x xs v us Q I rx rxs h
  obtain ⟨p, ys, z, rfl, rfl, hs, hm, q⟩ := h
  refine mt_tup_index pins s σ H _ _ v us Q I rx rxs ⟨p, ys, z, ys.idxOf z, rfl, rfl, hs, ?_, ?_, q⟩
  · have hl := List.idxOf_lt_length_iff.mpr hm
    rw [List.getElem?_eq_getElem hl]
    exact congrArg some (List.getElem_idxOf hl)
  · intro m hm2 hg
    have h1 := (List.getElem?_eq_some_iff.mp hg)
    obtain ⟨h2, h3⟩ := h1
    have h4 := List.not_of_lt_findIdx hm2
    rw [h3, beq_self_eq_true] at h4
    cases h4
end Vx
/-! # fourth part: reckoning with functions that may refuse -/
namespace Vx
open PySem PySem.Spec PyProof.Rows L2
section
variable {α β σ ρ τ : Type}
theorem bind_ok (a : α) (f : α → Rx β) : (Rx.ok a).bind f = f a := rfl
theorem bind_er (e : Nat) (f : α → Rx β) : (Rx.er e : Rx α).bind f = .er e := rfl
theorem grd_pos {p : Prop} {dp : Decidable p} {m : Rx α} (h : p) : grd p m = m := if_pos h
theorem bnd_eq (a : α) (f : α → Rx β) : bnd a f = f a := rfl
theorem noEr_ok (a : α) : noEr (.ok a : Rx α) = .ok a := rfl
theorem tryR_ok {cs : List Nat} (a : α) (f : α → Rx β) (g : Nat → Rx β) : tryR (.ok a) cs f g = f a := rfl
theorem tryR_er {cs : List Nat} {e : Nat} (h : e ∈ cs) (f : α → Rx β) (g : Nat → Rx β) : tryR (.er e) cs f g = g e := if_pos h
theorem aft_go (s : σ) (kr : ρ → Rx τ) (k : σ → Rx τ) : (Lp.go s : Lp σ ρ).aft kr k = k s := rfl
theorem aft_rt (r : ρ) (kr : ρ → Rx τ) (k : σ → Rx τ) : (Lp.rt r : Lp σ ρ).aft kr k = kr r := rfl
/-- gives a value of which P holds -/
def Gv (m : Rx α) (P : α → Prop) : Prop := ∃ v, m = .ok v ∧ P v
theorem Gv.ok {a : α} {P : α → Prop} (h : P a) : Gv (.ok a) P := ⟨a, rfl, h⟩
theorem Gv.of_eq {m : Rx α} {a : α} {P : α → Prop} (e : m = .ok a) (h : P a) : Gv m P := ⟨a, e, h⟩
theorem Gv.bind {m : Rx α} {f : α → Rx β} {P : α → Prop} {Q : β → Prop} (h : Gv m P) (k : ∀ v, P v → Gv (f v) Q) : Gv (m.bind f) Q := by
  obtain ⟨v, rfl, p⟩ := h
  exact k v p
theorem Gv.bind_eq {m : Rx α} {f : α → Rx β} {a : α} {Q : β → Prop} (h : m = .ok a) (k : Gv (f a) Q) : Gv (m.bind f) Q := by
  subst h
  exact k
theorem Gv.grd {p : Prop} {dp : Decidable p} {m : Rx α} {Q : α → Prop} (h : p) (k : Gv m Q) : Gv (Vx.grd p m) Q := by
  rw [grd_pos h]
  exact k
theorem Gv.bnd {a : α} {f : α → Rx β} {Q : β → Prop} (k : ∀ x, x = a → Gv (f x) Q) : Gv (Vx.bnd a f) Q := k a rfl
theorem Gv.ite {p : Prop} {dp : Decidable p} {a b : Rx α} {Q : α → Prop} (h1 : p → Gv a Q) (h2 : ¬ p → Gv b Q) : Gv (if p then a else b) Q := by
  split
  · exact h1 ‹_›
  · exact h2 ‹_›
theorem Gv.pos {p : Prop} {dp : Decidable p} {a b : Rx α} {Q : α → Prop} (h : p) (k : Gv a Q) : Gv (if p then a else b) Q := by rwa [if_pos h]
theorem Gv.neg {p : Prop} {dp : Decidable p} {a b : Rx α} {Q : α → Prop} (h : ¬ p) (k : Gv b Q) : Gv (if p then a else b) Q := by rwa [if_neg h]
theorem Gv.imp {m : Rx α} {P Q : α → Prop} (h : Gv m P) (k : ∀ v, P v → Q v) : Gv m Q := by
  obtain ⟨v, e, p⟩ := h
  exact ⟨v, e, k v p⟩
theorem Gv.noEr {m : Rx α} {P : α → Prop} (h : Gv m P) : Gv (Vx.noEr m) P := by
  obtain ⟨v, rfl, p⟩ := h
  exact ⟨v, rfl, p⟩
theorem Gv.tryOk {m : Rx α} {cs : List Nat} {f : α → Rx β} {g : Nat → Rx β} {P : α → Prop} {Q : β → Prop} (h : Gv m P) (k : ∀ v, P v → Gv (f v) Q) : Gv (tryR m cs f g) Q := by
  obtain ⟨v, rfl, p⟩ := h
  exact k v p
theorem Gv.tryEr {m : Rx α} {cs : List Nat} {e : Nat} {f : α → Rx β} {g : Nat → Rx β} {Q : β → Prop} (h : m = .er e) (hm : e ∈ cs) (k : Gv (g e) Q) : Gv (tryR m cs f g) Q := by
  subst h
  rw [tryR_er hm]
  exact k
theorem Gv.get {m : Rx α} {a : α} (h : Gv m (fun v => v = a)) : m = .ok a := by
  obtain ⟨v, e, rfl⟩ := h
  exact e
theorem Gv.eq {m : Rx α} {P : α → Prop} (h : Gv m P) : ∃ v, m = .ok v ∧ P v := h
/-- a loop that keeps P -/
theorem Gv.forS {P : Nat → σ → Prop} {xs : List α} {s : σ} {f : σ → α → Rx σ} (h0 : P 0 s) (hs : ∀ i x s, xs[i]? = some x → P i s → Gv (f s x) (P (i + 1))) : Gv (Vx.forS xs s f) (P xs.length) := by
  induction xs generalizing s P with
  | nil => exact .ok h0
  | cons x r ih =>
    refine Gv.bind (hs 0 x s rfl h0) fun s' p => ?_
    exact ih (P := fun i => P (i + 1)) p fun i y s hy q => hs (i + 1) y s (by simpa using hy) q
theorem Gv.forR {P : Nat → σ → Prop} {xs : List α} {s : σ} {f : σ → α → Rx (Lp σ ρ)} (h0 : P 0 s) (hs : ∀ i x s, xs[i]? = some x → P i s → Gv (f s x) (fun l => ∃ s', l = .go s' ∧ P (i + 1) s')) : Gv (Vx.forR xs s f) (fun l => ∃ s', l = .go s' ∧ P xs.length s') := by
  induction xs generalizing s P with
  | nil => exact .ok ⟨s, rfl, h0⟩
  | cons x r ih =>
    refine Gv.bind (hs 0 x s rfl h0) ?_
    rintro _ ⟨s', rfl, p⟩
    exact ih (P := fun i => P (i + 1)) p fun i y s hy q => hs (i + 1) y s (by simpa using hy) q
/-- a loop that carries nothing -/
theorem forR_unit {xs : List α} {f : Unit → α → Rx (Lp Unit ρ)} (h : ∀ x ∈ xs, f () x = .ok (.go ())) : Vx.forR xs () f = .ok (.go ()) := by
  induction xs with
  | nil => rfl
  | cons x r ih =>
    show (f () x).bind _ = _
    rw [h x List.mem_cons_self]
    exact ih fun y hy => h y (List.mem_cons_of_mem _ hy)
theorem forS_pure {xs : List α} {s : σ} {f : σ → α → Rx σ} {g : σ → α → σ} (h : ∀ s x, x ∈ xs → f s x = .ok (g s x)) : Vx.forS xs s f = .ok (xs.foldl g s) := by
  induction xs generalizing s with
  | nil => rfl
  | cons x r ih =>
    show (f s x).bind _ = _
    rw [h s x List.mem_cons_self]
    exact ih fun s y hy => h s y (List.mem_cons_of_mem _ hy)
theorem mapA_pure {xs : List α} {acc : List β} {f : α → Rx β} {g : α → β} (h : ∀ x ∈ xs, f x = .ok (g x)) (hl : acc.length + xs.length ≤ 1000000) : mapA xs acc f = .ok (acc ++ xs.map g) := by
  induction xs generalizing acc with
  | nil => simp [mapA]
  | cons x r ih =>
    rw [List.length_cons] at hl
    unfold mapA
    rw [grd_pos (by omega), h x List.mem_cons_self, bind_ok, ih (fun y hy => h y (List.mem_cons_of_mem _ hy)) (by rw [List.length_append, List.length_cons, List.length_nil]; omega)]
    simp
theorem mapA_pure0 {xs : List α} {f : α → Rx β} {g : α → β} (h : ∀ x ∈ xs, f x = .ok (g x)) (hl : xs.length ≤ 1000000) : mapA xs [] f = .ok (xs.map g) := by
  rw [mapA_pure h (by simpa using hl)]
  rfl
theorem mapF_pure {xs : List α} {acc : List β} {f : α → Rx (Option β)} {g : α → Option β} (h : ∀ x ∈ xs, f x = .ok (g x)) (hl : acc.length + xs.length ≤ 1000000) : mapF xs acc f = .ok (acc ++ xs.filterMap g) := by
  induction xs generalizing acc with
  | nil => simp [mapF]
  | cons x r ih =>
    rw [List.length_cons] at hl
    unfold mapF
    rw [grd_pos (by omega), h x List.mem_cons_self, bind_ok]
    cases e : g x with
    | none =>
      show mapF r acc f = _
      rw [ih (fun y hy => h y (List.mem_cons_of_mem _ hy)) (by omega), List.filterMap_cons, e]
    | some z =>
      show mapF r (acc ++ [z]) f = _
      rw [ih (fun y hy => h y (List.mem_cons_of_mem _ hy)) (by rw [List.length_append, List.length_cons, List.length_nil]; omega), List.filterMap_cons, e]
      simp
/-- a while that ends: m falls -/
theorem Gv.whileR {P : σ → Prop} {R : σ → Prop} (m : σ → Nat) {f : σ → Rx (Lp σ ρ)} (hs : ∀ s, P s → Gv (f s) (fun l => (∃ s', l = .go s' ∧ P s' ∧ m s' < m s) ∨ ∃ s', l = .bk s' ∧ R s')) : ∀ {n : Nat} {s : σ}, P s → m s < n → Gv (Vx.whileR n s f) (fun l => ∃ s', l = .go s' ∧ R s') := by
  intro n
  induction n with
  | zero => intro s _ h; exact absurd h (Nat.not_lt_zero _)
  | succ n ih =>
    intro s p h
    refine Gv.bind (hs s p) ?_
    rintro _ (⟨s', rfl, p', l⟩ | ⟨s', rfl, r⟩)
    · exact ih p' (by omega)
    · exact .ok ⟨s', rfl, r⟩
end
/-- a loop that may return -/
theorem Gv.forRR {α σ ρ : Type} {P : Nat → σ → Prop} {Q : ρ → Prop} {xs : List α} {s : σ} {f : σ → α → Rx (Lp σ ρ)} (h0 : P 0 s) (hs : ∀ i x s, xs[i]? = some x → P i s → Gv (f s x) (fun l => (∃ s', l = .go s' ∧ P (i + 1) s') ∨ ∃ r, l = .rt r ∧ Q r)) : Gv (Vx.forR xs s f) (fun l => (∃ s', l = .go s' ∧ P xs.length s') ∨ ∃ r, l = .rt r ∧ Q r) := by
  induction xs generalizing s P with
  | nil => exact .ok (.inl ⟨s, rfl, h0⟩)
  | cons x r ih =>
    refine Gv.bind (hs 0 x s rfl h0) ?_
    rintro _ (⟨s', rfl, p⟩ | ⟨r, rfl, q⟩)
    · exact ih (P := fun i => P (i + 1)) p fun i y s hy q => hs (i + 1) y s (by simpa using hy) q
    · exact .ok (.inr ⟨r, rfl, q⟩)
theorem rng_mem {lo x : Int} {n : Nat} (h : x ∈ rng lo n) : lo ≤ x ∧ x < lo + n := by
  unfold rng at h
  obtain ⟨j, hj, rfl⟩ := List.mem_map.mp h
  have := List.mem_range.mp hj
  omega
theorem rng_at {lo x : Int} {n i : Nat} (h : (rng lo n)[i]? = some x) : x = lo + i ∧ i < n := by
  have hl := get_len h
  rw [rng_len] at hl
  rw [rng_get hl] at h
  exact ⟨(Option.some.inj h).symm, hl⟩
end Vx
/-! # a for loop within a generator def -/
namespace Vy
open PySem PySem.Spec PyProof.Rows L2 GenW
section
variable {M : Model} {A : Around} {R : GenEnd} {Y : Protocol} {n : Nat} {s₀ : Shared} {c : Code} {fs : List Frame} {s : Shared} {env : Env}
  {K : Flow → Sem PySem.Fin} {J : Value → Sem PySem.Fin} {gd : Bool → Bool} {lv : List Value → List Value}
theorem seg_for {tg iter : Expr} {body : List Stmt} {pos : Pos} (hs : ∀ x, foldedSetIterable iter env x = pure x)
    (h : wpAny M (A.over c fs) (eval iter env) (fun x s1 => wpAny M (A.over c fs) (pyIter x) (fun it s2 => ∀ p, Seg M A R Y n s₀ (.forLoop tg it body [] env) (M.den (.forLoop tg it body [] env))
        (.ret (fun r => ((match r with | .ok f => (.pure f : Sem Flow) | .error e => .raise e).onRaise (cameBack env)).wrap K J gd lv) none (gd false) (lv []) c p [] :: fs) s2) (fun x s' => Seg M A R Y n s₀ c (J x) fs s') s1) (fun x s' => Seg M A R Y n s₀ c (J x) fs s') s) :
    Seg M A R Y n s₀ c ((exec (.For tg iter body [] pos) env).wrap K J gd lv) fs s := by
  rw [exec_For, Sem.bind_eq_wrap', Sem.wrap_wrap]
  refine seg_wrap (wpAny_standAt ?_)
  rw [Sem.bind_eq_wrap', Sem.wrap_wrap]
  refine seg_wrap (wpAny_mono h (fun x s1 h1 => ?_) fun _ _ z => z)
  rw [hs x]
  rw [Sem.bind_eq_wrap', Sem.wrap_wrap]
  refine seg_wrap (wpAny_pure ?_)
  rw [Sem.bind_eq_wrap', Sem.wrap_wrap]
  refine seg_wrap (wpAny_standAt ?_)
  rw [Sem.bind_eq_wrap', Sem.wrap_wrap]
  refine seg_wrap (wpAny_holding (wpAny_mono h1 (fun it s2 h2 => ?_) fun _ _ z => z))
  exact seg_call h2
end
section
variable {prog : Program} {w : World} {A : Around} {R : GenEnd} {Y : Protocol} {n : Nat} {s₀ : Shared} {fs : List Frame} {s : Shared} {env : Env}
/-- an exception leaves the loop's code -/
def outE (env : Env) (x : Value) : Sem PySem.Fin := (do noteFrame x env; theTreesLotGoes x : Sem Unit).wrap (fun _ => .raise x) .raise id id
theorem seg_forLoop {tg : Expr} {it : Value} {body : List Stmt}
    (h : wpAny (model prog w) (A.over (.forLoop tg it body [] env) fs) (pyNext it) (fun r s1 => match r with
        | none => Seg (model prog w) A R Y n s₀ (.forLoop tg it body [] env) (.pure (.again (.block [] env))) fs s1
        | some v => wpAny (model prog w) (A.over (.forLoop tg it body [] env) fs) (letOwnedTupleGo tg it v) (fun _ s2 => wpAny (model prog w) (A.over (.forLoop tg it body [] env) fs) (assign tg env v) (fun _ s3 =>
            Seg (model prog w) A R Y n s₀ (.forLoop tg it body [] env) ((execs body env).wrap (fun f => match f with
              | .next | .cont => .pure (.again (.forLoop tg it body [] env))
              | .brk => .pure (.done .next)
              | .ret v => .pure (.done (.ret v))) (outE env) id id) fs s3)
            (fun x s' => Seg (model prog w) A R Y n s₀ (.forLoop tg it body [] env) (outE env x) fs s') s2) (fun x s' => Seg (model prog w) A R Y n s₀ (.forLoop tg it body [] env) (outE env x) fs s') s1)
      (fun x s' => Seg (model prog w) A R Y n s₀ (.forLoop tg it body [] env) (outE env x) fs s') s) :
    Seg (model prog w) A R Y n s₀ (.forLoop tg it body [] env) ((model prog w).den (.forLoop tg it body [] env)) fs s := by
  have eo : ∀ x, ((do noteFrame x env; theTreesLotGoes x : Sem Unit).bind fun _ => (Sem.raise x : Sem PySem.Fin)) = outE env x := fun x => Sem.bind_eq_wrap _ _
  show Seg _ A R Y n s₀ _ ((forTurn tg it body [] env).onRaise (fun x => do noteFrame x env; theTreesLotGoes x)) fs s
  unfold forTurn
  rw [Sem.onRaise_eq_wrap, Sem.bind_eq_wrap', Sem.wrap_wrap]
  refine seg_wrap (wpAny_standAt ?_)
  rw [Sem.bind_eq_wrap', Sem.wrap_wrap]
  refine seg_wrap (wpAny_onRaise (wpAny_mono h (fun r s1 h1 => ?_) fun x s1 h1 => wpAny_standAt ?_))
  · cases r with
    | none => exact h1
    | some v =>
      show Seg _ A R Y n s₀ _ ((letOwnedTupleGo tg it v >>= _).wrap _ _ _ _) fs s1
      rw [Sem.bind_eq_wrap', Sem.wrap_wrap]
      refine seg_wrap (wpAny_mono h1 (fun _ s2 h2 => ?_) fun x s2 h2 => ?_)
      · rw [Sem.bind_eq_wrap', Sem.wrap_wrap]
        refine seg_wrap (wpAny_mono h2 (fun _ s3 h3 => ?_) fun x s3 h3 => ?_)
        · rw [Sem.bind_eq_wrap', Sem.wrap_wrap]
          refine (congrArg (fun t => Seg (model prog w) A R Y n s₀ (.forLoop tg it body [] env) t fs s3) (Sem.wrap_congr (execs body env) _ _ (K' := fun f => match f with
              | .next | .cont => .pure (.again (.forLoop tg it body [] env))
              | .brk => .pure (.done .next)
              | .ret v => .pure (.done (.ret v))) (H' := outE env) (fun f => by cases f <;> rfl) (fun e => eo e))).mpr h3
        · show Seg _ A R Y n s₀ _ (((do noteFrame x env; theTreesLotGoes x : Sem Unit).bind fun _ => (Sem.raise x : Sem PySem.Fin))) fs s3
          rw [eo]; exact h3
      · show Seg _ A R Y n s₀ _ (((do noteFrame x env; theTreesLotGoes x : Sem Unit).bind fun _ => (Sem.raise x : Sem PySem.Fin))) fs s2
        rw [eo]; exact h2
  · show Seg _ A R Y n s₀ _ (((do noteFrame x env; theTreesLotGoes x : Sem Unit).bind fun _ => (Sem.raise x : Sem PySem.Fin))) fs s1
    rw [eo]; exact h1
end
/-- a for within a generator: the loop's wish, with what is out so far -/
def tGFor (wi : TI) (g : TG) (tb : TGn) : TGn := fun D ys σ H => wi σ H fun J H2 => ∃ W : Nat → Nat → List V → L2.St → Hp → Prop, (∃ m, W 0 m ys σ H2) ∧ ∀ i m ys σ H, W i m ys σ H →
  (J.stop i H ∧ D.nx ys σ H) ∨ (J.go i H ∧ ∃ N : List V → L2.St → Hp → Prop, (∀ ys' σ' H', N ys' σ' H' → ∃ m', m' < m ∧ W (i + 1) m' ys' σ' H') ∧ ∀ x H', J.yld i H x H' → g x σ H' fun σ2 H2 => tb { D with nx := N, ct := N, bk := D.nx } ys σ2 H2)
section
variable {X : Cx}
theorem gs_for {tg iter : Expr} {body : List Stmt} {wi : TI} {g : TG} {tb : TGn} {pos : Pos} (hp : PassesOwn (model X.prog X.w) X.A X.env X.xe) (hc : X.calm = true) (hi : PI X tg iter wi) (hg : PG X tg g) (hb : GSs X body tb)
    (hs : ∀ x, foldedSetIterable iter X.env x = pure x := by intro _; rfl) : GS X (.For tg iter body [] pos) (tGFor wi g tb) := by
  refine ⟨fun A S ip R n ys s₀ c fs K J gd lv s σ H D g0 hn k hI ht => ?_⟩
  obtain ⟨acc, cc, r, I⟩ := hI
  have out0 : ∀ (x : Value) (s' : Shared), X.xe x s' → Seg (model X.prog X.w) A R (GY X S) n s₀ c (J x) fs s' := fun x s' hx => k.exc n s₀ x s' hx
  refine seg_for hs ?_
  rw [g0.over]
  refine wpAny_mono (hi.run ((S, lstObj acc cc) :: ip) s σ H _ I ht) (fun v s1 h1 => wpAny_mono h1 (fun itv s2 h2 => ?_) out0) out0
  obtain ⟨it, fp, tn, Jt, H2, e, I2, T, st2, f2, W, ⟨m0, w0⟩, turn⟩ := h2
  subst e
  intro p
  -- the iterator's objects, whatever the consumer's list holds
  have pinsOk : ∀ {acc' : Array Value} {cc' : Nat} {H' : Hp}, (∀ b ∈ fp, H' b = none) → ∀ b ∈ fp, FpOk X ((S, lstObj acc' cc') :: ip) H' b := by
    intro acc' cc' H' hz b hbf
    obtain ⟨_, q1, q2, q3, q4, q5⟩ := f2 b hbf
    refine ⟨hz b hbf, q1, q2, q3, q4, fun q hq => ?_⟩
    rcases List.mem_append.mp hq with z | z
    · exact q5 q (List.mem_append_left _ z)
    · rcases List.mem_cons.mp z with z | z
      · subst z
        exact q5 (S, lstObj acc cc) (List.mem_append_right _ List.mem_cons_self)
      · exact q5 q (List.mem_append_right _ (List.mem_cons_of_mem _ z))
  have notS : ∀ b ∈ fp, b ≠ S := fun b hbf z => (f2 b hbf).2.2.2.2.2 (S, lstObj acc cc) (List.mem_append_right _ List.mem_cons_self) z.symm
  have gl := fun (kk : Result → Sem PySem.Fin) (ip' : List (Addr × Obj)) (h' : ∀ q ∈ ip', q.1 ≠ S) => (gc_loop (k := kk) (c' := .forLoop tg (.ref it) body [] X.env) (l := lv []) (kp := []) (p := p) (⟨g0.pn, h', g0.apart, g0.over, g0.split, g0.guard, g0.gd⟩ : GC X S ip' A c fs gd) rfl rfl)
  have loop : ∀ (m i n : Nat) (ys : List V) (s₀ s : Shared) (σ : L2.St) (H : Hp), n + ys.length = sizeLine → W i m ys σ H → tn i s.heap → (∀ b ∈ fp, H b = none) → GI X S ip ys σ H s →
      Seg (model X.prog X.w) A R (GY X S) n s₀ (.forLoop tg (.ref it) body [] X.env) ((model X.prog X.w).den (.forLoop tg (.ref it) body [] X.env))
        (.ret (fun r => ((match r with | .ok f => (.pure f : Sem Flow) | .error e => .raise e).onRaise (cameBack X.env)).wrap K J gd lv) none (gd false) (lv []) c p [] :: fs) s := by
    intro m
    induction m using Nat.strongRecOn with
    | ind m ih =>
      intro i n ys s₀ s σ H hn w st fr hI
      have ee : ∀ (n : Nat) (s₀ : Shared) (x : Value) (s' : Shared), X.xe x s' → Seg (model X.prog X.w) A R (GY X S) n s₀ (.forLoop tg (.ref it) body [] X.env) (outE X.env x)
          (.ret (fun r => ((match r with | .ok f => (.pure f : Sem Flow) | .error e => .raise e).onRaise (cameBack X.env)).wrap K J gd lv) none (gd false) (lv []) c p [] :: fs) s' := by
        intro n s₀ x s' hx
        refine seg_wrap ?_
        rw [(gl _ ip g0.ip).over]
        refine wpAny_bind (wpAny_mono (hp x s' hx) (fun _ s2 hcb => wpAny_theTreesLotGoes ?_) fun y s2 hcb => ?_)
        · exact seg_leaf (.error x) (seg_cameBack g0 k hcb)
        · exact seg_leaf (.error y) (seg_cameBack g0 k hcb)
      obtain ⟨acc, cc, r, I⟩ := hI
      refine seg_forLoop ?_
      rw [(gl _ ip g0.ip).over]
      rcases turn i m ys σ H w with ⟨stop, qn⟩ | ⟨go, N, hN, step⟩
      · refine wpAny_mono (T.done X rfl rfl rfl hc i _ s σ H X.xe I (pinsOk fr) st stop) (fun r' s4 hq => ?_) fun x s' hx => ee n s₀ x s' hx
        obtain ⟨hr, I4⟩ := hq
        subst hr
        refine seg_again rfl ?_
        show Seg _ _ _ _ _ _ _ (leafOf (.ok .next)) _ _
        exact seg_leaf (.ok .next) (k.ok n ys s₀ s4 .next hn ⟨σ, H, ⟨acc, cc, r, I4⟩, qn⟩)
      · refine wpAny_mono (T.item X rfl rfl rfl hc i _ s σ H X.xe I (pinsOk fr) st go) (fun r' s4 hq => ?_) fun x s' hx => ee n s₀ x s' hx
        obtain ⟨u, hr, h4⟩ := hq
        subst hr
        refine wpAny_mono h4 (fun _ s5 hq5 => ?_) fun x s' hx => ee n s₀ x s' hx
        obtain ⟨x, H5, I5, r5, y5, st5, fr5⟩ := hq5
        have I5' := I5.pinned (pinsOk fr5) (T.obj _ _ st5)
        refine wpAny_mono (hg.run _ s5 σ H5 x u _ I5' r5 (step x H5 y5)) (fun _ s6 hq6 => ?_) fun x s' hx => ee n s₀ x s' hx
        obtain ⟨σ6, H6, I6, q6⟩ := hq6
        have ip2 : ∀ q ∈ ip ++ pinsAt fp s5.heap, q.1 ≠ S := fun q hq => by
          rcases List.mem_append.mp hq with z | z
          · exact g0.ip q z
          · exact notS _ (of_pinsAt z).1
        have again : ∀ {ys' : List V} {σ7 : L2.St} {H7 : Hp} {s7 : Shared} {n' : Nat} {s₀' : Shared}, n' + ys'.length = sizeLine → GI X S (ip ++ pinsAt fp s5.heap) ys' σ7 H7 s7 → N ys' σ7 H7 →
            Seg (model X.prog X.w) A R (GY X S) n' s₀' (.forLoop tg (.ref it) body [] X.env) (.pure (.again (.forLoop tg (.ref it) body [] X.env)))
              (.ret (fun r => ((match r with | .ok f => (.pure f : Sem Flow) | .error e => .raise e).onRaise (cameBack X.env)).wrap K J gd lv) none (gd false) (lv []) c p [] :: fs) s7 := by
          intro ys' σ7 H7 s7 n' s₀' hn' hI7 n7
          obtain ⟨m', hm, w7⟩ := hN ys' σ7 H7 n7
          obtain ⟨acc7, cc7, r7, I7⟩ := hI7
          have look : ∀ b ∈ fp, ∀ o, s5.heap.get? b = some o → s7.heap.get? b = some o ∧ H7 b = none := fun b hbf o eo => by
            have q := I7.pin (b, o) (List.mem_append_right _ (List.mem_cons_of_mem _ (List.mem_append_right _ (mem_pinsAt hbf eo))))
            exact ⟨q.1, q.2.1⟩
          refine seg_again rfl (ih m' hm (i + 1) n' ys' s₀' s7 σ7 H7 hn' w7 (T.keep _ _ _ st5 fun b hbf o eo => (look b hbf o eo).1) (fun b hbf => ?_) ⟨acc7, cc7, r7, ?_⟩)
          · obtain ⟨o, eo, _⟩ := T.obj _ _ st5 b hbf
            exact (look b hbf o eo).2
          · exact I7.pins_of fun q hq => I7.pin q (by
              rcases List.mem_cons.mp hq with z | z
              · exact List.mem_append_right _ (z ▸ List.mem_cons_self)
              · exact List.mem_append_right _ (List.mem_cons_of_mem _ (List.mem_append_left _ z)))
        have shrink : ∀ {ys' : List V} {σ7 : L2.St} {H7 : Hp} {s7 : Shared}, GI X S (ip ++ pinsAt fp s5.heap) ys' σ7 H7 s7 → GI X S ip ys' σ7 H7 s7 := by
          intro ys' σ7 H7 s7 hI7
          obtain ⟨acc7, cc7, r7, I7⟩ := hI7
          exact ⟨acc7, cc7, r7, I7.pins_of fun q hq => I7.pin q (by
              rcases List.mem_cons.mp hq with z | z
              · exact List.mem_append_right _ (z ▸ List.mem_cons_self)
              · exact List.mem_append_right _ (List.mem_cons_of_mem _ (List.mem_append_left _ z)))⟩
        refine hb.run A S (ip ++ pinsAt fp s5.heap) R n ys s₀ _ _ _ _ id id s6 σ6 H6 { D with nx := N, ct := N, bk := D.nx } (gl _ _ ip2) hn ⟨fun n' ys' s₀' s7 f hn' hs7 => ?_, fun n' s₀' x s7 hx => ee n' s₀' x s7 hx⟩ ⟨acc, cc, r, I6⟩ q6
        cases f with
        | next =>
          obtain ⟨σ7, H7, I7, n7⟩ := hs7
          exact again hn' I7 n7
        | cont =>
          obtain ⟨σ7, H7, I7, n7⟩ := hs7
          exact again hn' I7 n7
        | brk =>
          obtain ⟨σ7, H7, I7, q7⟩ := hs7
          exact seg_leaf (.ok .next) (k.ok n' ys' s₀' s7 .next hn' ⟨σ7, H7, shrink I7, q7⟩)
        | ret v =>
          obtain ⟨v7, σ7, H7, I7, rv, q7⟩ := hs7
          exact seg_leaf (.ok (.ret v)) (k.ok n' ys' s₀' s7 (.ret v) hn' ⟨v7, σ7, H7, shrink I7, rv, q7⟩)
  exact loop m0 0 n ys s₀ s2 σ H2 hn w0 st2 (fun b hbf => (f2 b hbf).1) ⟨acc, cc, r, I2⟩
end
/-! ### the turns of such a loop -/
section
variable {J : It} {n : Nat} {GG : Hp → Prop} {YY : Nat → Hp → V → Hp → Prop} {g : TG} {tb : TGn} {D : GEnds} {ys : List V} {σ : L2.St} {H : Hp}
theorem forG_it (w : Walk J n GG YY) (Pv : Nat → List V → L2.St → Hp → Prop) (h0 : Pv 0 ys σ H) (hG : ∀ i ys σ H, i ≤ n → Pv i ys σ H → GG H)
    (hs : ∀ i x ys σ H H', i < n → Pv i ys σ H → YY i H x H' → g x σ H' fun σ2 H2 => tb { D with nx := Pv (i + 1), ct := Pv (i + 1), bk := D.nx } ys σ2 H2) (hd : ∀ ys σ H, Pv n ys σ H → D.nx ys σ H) :
    ∃ W : Nat → Nat → List V → L2.St → Hp → Prop, (∃ m, W 0 m ys σ H) ∧ ∀ i m ys σ H, W i m ys σ H →
      (J.stop i H ∧ D.nx ys σ H) ∨ (J.go i H ∧ ∃ N : List V → L2.St → Hp → Prop, (∀ ys' σ' H', N ys' σ' H' → ∃ m', m' < m ∧ W (i + 1) m' ys' σ' H') ∧ ∀ x H', J.yld i H x H' → g x σ H' fun σ2 H2 => tb { D with nx := N, ct := N, bk := D.nx } ys σ2 H2) := by
  refine ⟨fun i m ys σ H => m = n - i ∧ i ≤ n ∧ Pv i ys σ H, ⟨n, rfl, Nat.zero_le n, h0⟩, fun i m ys σ H hw => ?_⟩
  obtain ⟨em, hi, p⟩ := hw
  subst em
  have q := hG i ys σ H hi p
  rcases Nat.lt_or_ge i n with lt | ge
  · refine .inr ⟨w.goes i H lt q, Pv (i + 1), fun ys' σ' H' p' => ⟨n - (i + 1), by omega, rfl, lt, p'⟩, fun x H' y => hs i x ys σ H H' lt p (w.yields i H x H' lt q y)⟩
  · cases Nat.le_antisymm hi ge
    exact .inl ⟨w.stops H q, hd ys σ H p⟩
/-- zip of two lists of any lengths -/
theorem forG_zipM {K : PySem.W.Frag} {a b : Addr} {xs zs : List V} (n : Nat) (hn : n = min xs.length zs.length) (Pv : Nat → List V → L2.St → Hp → Prop) (h0 : Pv 0 ys σ H) (hq : ∀ i ys σ H, Pv i ys σ H → SqL K H a xs ∧ SqL K H b zs)
    (hs : ∀ (i : Nat) (x z : V) (T : Addr) (ys : List V) (σ : L2.St) (H : Hp), xs[i]? = some x → zs[i]? = some z → H T = none → Pv i ys σ H → g (.ref T) σ (upd H T (.tup [x, z])) fun σ2 H2 => tb { D with nx := Pv (i + 1), ct := Pv (i + 1), bk := D.nx } ys σ2 H2) (hd : ∀ ys σ H, Pv n ys σ H → D.nx ys σ H) :
    ∃ W : Nat → Nat → List V → L2.St → Hp → Prop, (∃ m, W 0 m ys σ H) ∧ ∀ i m ys σ H, W i m ys σ H →
      ((Itz K a b).stop i H ∧ D.nx ys σ H) ∨ ((Itz K a b).go i H ∧ ∃ N : List V → L2.St → Hp → Prop, (∀ ys' σ' H', N ys' σ' H' → ∃ m', m' < m ∧ W (i + 1) m' ys' σ' H') ∧ ∀ x H', (Itz K a b).yld i H x H' → g x σ H' fun σ2 H2 => tb { D with nx := N, ct := N, bk := D.nx } ys σ2 H2) := by
  refine forG_it (walk_zip hn) Pv h0 (fun i ys σ H _ p => hq i ys σ H p) (fun i v ys σ H H' hi p y => ?_) hd
  obtain ⟨T, x, z, rfl, hT, rfl, h1, h2⟩ := y
  exact hs i x z T ys σ H h1 h2 hT p
theorem forG_list {K : PySem.W.Frag} {a : Addr} {xs : List V} (Pv : Nat → List V → L2.St → Hp → Prop) (h0 : Pv 0 ys σ H) (hq : ∀ i ys σ H, Pv i ys σ H → SqL K H a xs)
    (hs : ∀ (i : Nat) (x : V) (ys : List V) (σ : L2.St) (H : Hp), xs[i]? = some x → Pv i ys σ H → g x σ H fun σ2 H2 => tb { D with nx := Pv (i + 1), ct := Pv (i + 1), bk := D.nx } ys σ2 H2) (hd : ∀ ys σ H, Pv xs.length ys σ H → D.nx ys σ H) :
    ∃ W : Nat → Nat → List V → L2.St → Hp → Prop, (∃ m, W 0 m ys σ H) ∧ ∀ i m ys σ H, W i m ys σ H →
      ((Itl K a).stop i H ∧ D.nx ys σ H) ∨ ((Itl K a).go i H ∧ ∃ N : List V → L2.St → Hp → Prop, (∀ ys' σ' H', N ys' σ' H' → ∃ m', m' < m ∧ W (i + 1) m' ys' σ' H') ∧ ∀ x H', (Itl K a).yld i H x H' → g x σ H' fun σ2 H2 => tb { D with nx := N, ct := N, bk := D.nx } ys σ2 H2) := by
  refine forG_it walk_list Pv h0 (fun i ys σ H _ p => hq i ys σ H p) (fun i v ys σ H H' hi p y => ?_) hd
  obtain ⟨rfl, hx⟩ := y
  exact hs i v ys σ _ hx p
end
/-! ### generator defs of the top, and list(f(..)) of one -/
structure CalG (P : Program) (w : World) (K : PySem.W.Frag) (mg : Str → Option Value) (base : Heap) (k : Nat) (x : Str) (sg : SpG) (pats : List Vx.Pat) : Prop where
  ex : ∃ (f : Addr) (fd : FuncData) (ps : List Str), GFn P w K mg base k f fd ps sg ∧ mg x = some (.ref f) ∧ PySem.W.keepIn K (.ref f) = true ∧ ∀ p ∈ pats, Vx.Bnd1 K fd ps p
theorem okG {P : Program} {w : World} {K : PySem.W.Frag} {mg : Str → Option Value} {base : Heap} {x : Str} {st : Stmt} {N ps : List Str} {pats : List Vx.Pat} {k : Nat} {sg : SpG} (D : Vx.DefX K mg x st ps pats) (S : GScope N ps (defScope st)) (len : ∀ vs H Q E, sg vs H Q E → vs.length = ps.length)
    (hbody : ∀ (f : Addr) (cdv : Value) (A : Around) (outer : List Env) (s : Shared) (H : Hp) (vs : List V) (Q : List V → Hp → Prop) (E : XK) (pn : List (Addr × Obj)), Room k (A.deeper (envOfC x (defScope st) s.heap.objs.size f cdv)) → sg vs H Q E →
      ∃ t, GSs (gcxOf P w K mg base N x (defScope st) f cdv A outer s H E pn) (defBody st) t ∧ t { nx := fun ys _ H' => Q ys H', rt := fun ys v H' => v = .non ∧ Q ys H' } [] (start N vs) H) : CalG P w K mg base (k + 1) x sg pats := by
  obtain ⟨f, fd, dvs, kws, F, hm, b⟩ := D.ex
  have kp := F.kp
  obtain ⟨oc, od, dV, kV, doc, pm, an, cdv, ct, osl, rfl, lk, code, _, _⟩ := F.ex
  exact ⟨f, _, ps, gfn_of lk code S len (fun A outer s H vs Q E pn hr h => hbody f cdv A outer s H vs Q E pn hr h), hm, kp, b⟩
def tCallGX (n m : Nat) (sg : SpG) (g : List V → List V → List V) (t tk : TA) : TGen := fun σ H cont => t σ H fun vs H1 => tk σ H1 fun zs H2 => vs.length = n ∧ zs.length = m ∧ sg (g vs zs) H2 cont (fun _ _ _ => False)
section
variable {X : Cx} {k j : Nat} {sg : SpG} {x : Str} {pos p : Pos} {e : Expr} {es : List Expr} {kws : List Keyword} {t tk : TA}
theorem pgenX {pats : List Vx.Pat} (c : CalG X.prog X.w X.K X.mg X.base k x sg pats) (pt : Vx.Pat) (hpt : pt ∈ pats) (hr : Room k X.A) (hg : Gl X x) (ha : PA X (e :: es) t) (hkw : PK X kws tk)
    (hall : (backToKw pos (keywordEach kws X.env)).all (·.1.isSome) = true := by rfl) (hks : (backToKw pos (keywordEach kws X.env)).filterMap (·.1) = pt.2.1 := by rfl)
    (hdb : (x == ("__debug__" : Str)) = false := by decide) (he : starEach (e :: es) X.env = (false, eval e X.env) :: starEach es X.env := by rfl)
    (hpl : ((backTo pos (starEach (e :: es) X.env)).any (·.1) || (backToKw pos (keywordEach kws X.env)).any (·.1.isNone)) = false := by rfl) :
    PGen X k (.Call (.Name x p) (e :: es) kws pos) (tCallGX pt.1 pt.2.1.length sg pt.2.2 t tk) (fun _ _ _ => False) := by
  obtain ⟨f, fd, ps, F, hm, kp, b⟩ := c.ex
  refine ⟨fun pins s σ H cont I h => ?_⟩
  refine wpAny_Call_Name_kw (ld_glob I hg hm ?_ hdb)
  refine PySem.W.callWith_KW (h₀ := X.base) I.ok.mod.kin kp hall (thn (ha.run pos pins s σ H _ I h) fun us s1 ⟨vs, H1, I1, r, q⟩ => ?_) hpl he
  refine thn (hkw.run pos pins s1 σ H1 _ I1 q) fun ws s2 ⟨zs, H2, I2, rz, l1, l2, q2⟩ => ⟨I2.kIn, ?_⟩
  rw [hks]
  obtain ⟨vv, bb, r2⟩ := (b pt hpt).to s2 us ws vs zs I2.kIn l1 l2 r rz
  refine wpAny_call (codeAny_mono (F.run X.A X.stack s2 H2 ⟨us, pt.2.1.zip ws⟩ vv (pt.2.2 vs zs) cont _ hr I2.env0 bb r2 q2) fun rr s' hq => ?_)
  cases rr with
  | error er => exact hq.elim
  | ok fl =>
    cases fl with
    | ret u => exact ⟨H2, s2, [], I2, .nil, hq⟩
    | next => exact hq.elim
    | brk => exact hq.elim
    | cont => exact hq.elim
theorem vx_listG {tg : TGen} {a : Expr} {lp : Pos} (h : PGen X k a tg (fun _ _ _ => False)) (hr : Room j X.A) (hk : k + 3 ≤ j) (hg : Gl X "list") (hm : X.mg "list" = none)
    (he : starEach [a] X.env = (false, eval a X.env) :: starEach [] X.env := by rfl) : PE X (.Call (.Name "list" lp) [a] [] pos) (tListG tg) := by
  refine pe_listG h (fun pins σ H s u s' I hc => ?_) (fun _ _ _ z => z.elim) (hr.mono hk) hg hm (by decide +kernel) (he := he)
  obtain ⟨_, _, _, _, _, _, _, _, _, _, _, _, z⟩ := hc
  exact z.elim
end
/-! ### list(f(..)) of a generator def, told as a def that makes a list -/
theorem gen_top {α : Type} {f : α → PyData} {H G : Hp} {Q : VK} {v : List α}
    (h : ∀ p vs H' G', H p = none → Same H H' → Same G G' → Same G' H' → (∀ b, H b ≠ none → G b = none → G' b = none) → G' p = none → H' p = some (.lst vs) → Vx.RpAll G' vs (v.map f) → Q (.ref p) H') :
    ∀ ys H' G', Same H H' → Same G G' → Same G' H' → (∀ b, H b ≠ none → G b = none → G' b = none) → Vx.RpAll G' ys (v.map f) → ∀ p, H' p = none → Q (.ref p) (upd H' p (.lst ys)) := by
  intro ys H' G' s1 s2 s3 hid d p hp
  have none1 : ∀ {A : Hp}, Same A H' → A p = none := fun {A} sA => by
    cases e : A p with
    | none => rfl
    | some o => rw [sA p o e] at hp; cases hp
  have grow : ∀ {A : Hp}, Same A H' → Same A (upd H' p (.lst ys)) := fun {A} sA b o e => by
    have hb : b ≠ p := fun z => by rw [z, none1 sA] at e; cases e
    show (if b = p then _ else _) = _
    rw [if_neg hb]
    exact sA b o e
  exact h p ys _ G' (none1 s1) (grow s1) s2 (grow s3) hid (none1 s3) (if_pos rfl) d
theorem vx_lg {X : Cx} {k j : Nat} {sg : SpG} {sp : Sp} {x : Str} {pos p pos2 p2 : Pos} {e : Expr} {es : List Expr} {kws : List Keyword} {t tk : TA} {W : WX} {pats : List Vx.Pat} (c : CalG X.prog X.w X.K X.mg X.base k x sg pats)
    (im : ∀ (vs : List V) (H : Hp) (Q : VK) (E E2 : XK), sp vs H Q E → sg vs H (fun out H2 => ∀ p, H2 p = none → Q (.ref p) (upd H2 p (.lst out))) E2) (pt : Vx.Pat) (hpt : pt ∈ pats) (hr : Vx.RoomG j X.A) (hk : k + 3 ≤ j) (tkW : Takes X W) (hg : Gl X x) (hgl : Gl X "list") (hml : X.mg "list" = none) (ha : PA X (e :: es) t) (hkw : PK X kws tk)
    (hall : (backToKw pos2 (keywordEach kws X.env)).all (·.1.isSome) = true := by rfl) (hks : (backToKw pos2 (keywordEach kws X.env)).filterMap (·.1) = pt.2.1 := by rfl)
    (hdb : (x == ("__debug__" : Str)) = false := by decide) (he : starEach (e :: es) X.env = (false, eval e X.env) :: starEach es X.env := by rfl)
    (hpl : ((backTo pos2 (starEach (e :: es) X.env)).any (·.1) || (backToKw pos2 (keywordEach kws X.env)).any (·.1.isNone)) = false := by rfl)
    (he2 : starEach [.Call (.Name x p2) (e :: es) kws pos2] X.env = (false, eval (.Call (.Name x p2) (e :: es) kws pos2) X.env) :: starEach [] X.env := by rfl) :
    PE X (.Call (.Name "list" p) [.Call (.Name x p2) (e :: es) kws pos2] [] pos) (Vx.tCallX pt.1 pt.2.1.length sp pt.2.2 W t tk) := by
  have pg : PGen X k (.Call (.Name x p2) (e :: es) kws pos2) (fun σ H cont => ∃ Q : VK, cont = (fun out H2 => ∀ a, H2 a = none → Q (.ref a) (upd H2 a (.lst out))) ∧ Vx.tCallX pt.1 pt.2.1.length sp pt.2.2 W t tk σ H Q) (fun _ _ _ => False) := by
    obtain ⟨f, fd, ps, F, hm, kp, b⟩ := c.ex
    refine ⟨fun pins s σ H cont I h => ?_⟩
    obtain ⟨Q, rfl, h⟩ := h
    refine wpAny_Call_Name_kw (ld_glob I hg hm ?_ hdb)
    refine PySem.W.callWith_KW (h₀ := X.base) I.ok.mod.kin kp hall (thn (ha.run pos2 pins s σ H _ I h) fun us s1 ⟨vs, H1, I1, r, q⟩ => ?_) hpl he
    refine thn (hkw.run pos2 pins s1 σ H1 _ I1 q) fun ws s2 ⟨zs, H2, I2, rz, l1, l2, q2⟩ => ⟨I2.kIn, ?_⟩
    rw [hks]
    obtain ⟨vv, bb, r2⟩ := (b pt hpt).to s2 us ws vs zs I2.kIn l1 l2 r rz
    refine wpAny_call (codeAny_mono (F.run X.A X.stack s2 H2 ⟨us, pt.2.1.zip ws⟩ vv (pt.2.2 vs zs) _ _ (hr.toRoom.mono (by omega)) I2.env0 bb r2 (im _ _ _ _ (fun _ _ _ => False) q2)) fun rr s' hq => ?_)
    cases rr with
    | error er => exact hq.elim
    | ok fl =>
      cases fl with
      | ret u => exact ⟨H2, s2, [], I2, .nil, hq⟩
      | next => exact hq.elim
      | brk => exact hq.elim
      | cont => exact hq.elim
  have key := vx_listG (j := j) (k := k) (pos := pos) (lp := p) pg hr.toRoom hk hgl hml he2
  exact ⟨fun pins s σ H Q I h => key.run pins s σ H Q I ⟨Q, rfl, h⟩⟩
theorem cW_imp {α : Type} {m : Vx.Rx α} {K K' : α → Prop} {E E' : Nat → Prop} (h : Vx.cW m K E) (k : ∀ v, K v → K' v) (e : ∀ v, E v → E' v) : Vx.cW m K' E' := by
  unfold Vx.cW at h ⊢
  cases m with
  | ok a => exact k a h
  | er n => exact e n h
  | bad => exact h
end Vy
/-! # tuples (number, number, list of numbers) whose lists are owned -/
namespace Vx
open PySem PySem.Spec PyProof.Rows L2
def oU3 (x : Int × Int × List Int) : Dt := .nod .tup [oI x.1, oI x.2.1, oL oI x.2.2]
theorem encO_U3 : EncO oU3 (encT3 PyData.int PyData.int (encL PyData.int)) := fun x => .tup (.cons (.int _) (.cons (.int _) (.cons (encO_L encO_I _) .nil)))
section
variable {G H : Hp}
theorem Ow.u3 {p b : Addr} {i j : Int} {xs : List Int} (hp : H p = some (.tup [.int i, .int j, .ref b])) (hb : H b = some (.lst (xs.map V.int))) (n : b ≠ p) : Ow G H [p, b] (.ref p) (oU3 (i, j, xs)) := by
  refine .nod (k := .tup) (L := [b]) hp ?_ (fun z => n (List.mem_singleton.mp z).symm)
  refine OwAll.cons (L1 := []) (L2 := [b]) (.val _) ?_ (fun _ z => nomatch z)
  refine OwAll.cons (L1 := []) (L2 := [b]) (.val _) ?_ (fun _ z => nomatch z)
  exact OwAll.cons (L1 := [b]) (L2 := []) (Ow.ints hb) .nil (fun _ _ z => nomatch z)
theorem Ow.toU3 {v : V} {L : List Addr} {x : Int × Int × List Int} (w : Ow G H L v (oU3 x)) : ∃ p b, v = .ref p ∧ L = [p, b] ∧ H p = some (.tup [.int x.1, .int x.2.1, .ref b]) ∧ H b = some (.lst (x.2.2.map V.int)) ∧ b ≠ p := by
  unfold oU3 at w
  cases w with
  | @nod a k vs ds L h r n =>
    cases r with
    | cons a1 r1 n1 =>
      cases a1
      cases r1 with
      | cons a2 r2 n2 =>
        cases a2
        cases r2 with
        | cons a3 r3 n3 =>
          cases r3
          obtain ⟨b, rfl, rfl, hb⟩ := a3.toInts
          refine ⟨a, b, rfl, rfl, h, hb, fun z => n ?_⟩
          rw [z]
          exact List.mem_cons_self
theorem Ow.atU3 {p : Addr} {L : List Addr} {x : Int × Int × List Int} (w : Ow G H L (.ref p) (oU3 x)) : ∃ b, L = [p, b] ∧ H p = some (.tup [.int x.1, .int x.2.1, .ref b]) ∧ H b = some (.lst (x.2.2.map V.int)) ∧ b ≠ p := by
  obtain ⟨q, b, e, h1, h2, h3, h4⟩ := w.toU3
  cases e
  exact ⟨b, h1, h2, h3, h4⟩
theorem u3_same {p b c : Addr} {u v u' v' : V} (h : H p = some (.tup [u, v, .ref b])) (h' : H p = some (.tup [u', v', .ref c])) : b = c := by
  rw [h] at h'
  cases h'
  rfl
end
theorem u_same {vs : List V} {k : Int} {v u : V} (h1 : atI vs k = some v) (h2 : atI vs k = some u) : v = u := by
  rw [h1] at h2
  cases h2
  rfl
theorem u_setg {α : Type} {xs : List α} {k j : Int} {y : α} (g : -(xs.length : Int) ≤ k ∧ k < xs.length) : -((setL xs j y).length : Int) ≤ k ∧ k < (setL xs j y).length := by
  have e : (setL xs j y).length = xs.length := List.length_set
  rw [e]
  exact g
/-- list(f(..)) of a generator def whose tuples are owned -/
theorem gen_topO {α : Type} {f : α → Dt} {H G : Hp} {Q : VK} {v : List α}
    (h : ∀ (H' : Hp) (a : Addr) (vs : List V) (L : List Addr) (G' : Hp), H a = none → (∀ b ∈ L, H b = none) → (∀ b ∈ L, b ≠ a) → Same H H' → Same G G' → Same G' H' → (∀ b, H b ≠ none → G b = none → G' b = none) → G' a = none → (∀ b ∈ L, G' b = none) →
      H' a = some (.lst vs) → OwAll G' H' L vs (v.map f) → Q (.ref a) H') :
    ∀ (ys : List V) (H' G' : Hp) (L : List Addr), (∀ b ∈ L, H b = none) → Same H H' → Same G G' → Same G' H' → (∀ b, H b ≠ none → G b = none → G' b = none) → (∀ b ∈ L, G' b = none) → OwAll G' H' L ys (v.map f) → ∀ p, H' p = none → Q (.ref p) (upd H' p (.lst ys)) := by
  intro ys H' G' L nb s1 s2 s3 hid gb w p hp
  have none1 : ∀ {A : Hp}, Same A H' → A p = none := fun {A} sA => by
    cases e : A p with
    | none => rfl
    | some o => rw [sA p o e] at hp; cases hp
  have grow : ∀ {A : Hp}, Same A H' → Same A (upd H' p (.lst ys)) := fun {A} sA b o e => by
    have hb : b ≠ p := fun z => by rw [z, none1 sA] at e; cases e
    show (if b = p then _ else _) = _
    rw [if_neg hb]
    exact sA b o e
  have np : ∀ b ∈ L, b ≠ p := fun b hb z => w.there b hb (z ▸ hp)
  exact h _ p ys L G' (none1 s1) nb np (grow s1) s2 (grow s3) hid (none1 s3) gb (if_pos rfl) (OwAll.mono (Same.refl _) (fun b hb o e => (if_neg (np b hb)).trans e) w)
end Vx
namespace Vx
open PySem PySem.Spec PyProof.Rows L2
def F__law_starts_c1 (octets_2 : (List Int)) (it31 : Int) : Rx (Option Int) :=
  (if (cutL (octets_2) (some (it31)) (some ((it31 + 3))) : (List Int)) = [0, 0, 1] then .ok (some it31) else .ok none)

def F__law_starts (octets' : (List Int)) : Rx (List Int) :=
  grd (-(2 ^ 62) ≤ (((((octets') : (List Int)).length : Int) - 2) : Int) ∧ (((((octets') : (List Int)).length : Int) - 2) : Int) < 2 ^ 62) <| Rx.bind (mapF (rng (0) (Int.toNat (((((octets') : (List Int)).length : Int) - 2)))) [] (fun x => noEr (F__law_starts_c1 (octets') x))) fun v3 => .ok (v3)

def F__law_unescape_b1 (found_97 : (List Int)) (zeros_98 : Int) (it101 : Int) : Rx ((List Int) × Int) :=
  (if 2 ≤ zeros_98 then (if (it101 : Int) = 3 then .ok ((found_97), (0)) else grd ((found_97).length ≤ 1000000) <| bnd ((found_97) ++ [it101]) fun y111 => grd ((-(2 ^ 64) < ((zeros_98 + 1) : Int) ∧ ((zeros_98 + 1) : Int) < 2 ^ 64) ∨ (-(2 ^ 64) < ((if decide ((it101 : Int) = 0) = true then 1 else 0) : Int) ∧ ((if decide ((it101 : Int) = 0) = true then 1 else 0) : Int) < 2 ^ 64)) <| bnd (((zeros_98 + 1) * (if decide ((it101 : Int) = 0) = true then 1 else 0))) fun zeros_113 => .ok ((y111), (zeros_113))) else grd ((found_97).length ≤ 1000000) <| bnd ((found_97) ++ [it101]) fun y121 => grd ((-(2 ^ 64) < ((zeros_98 + 1) : Int) ∧ ((zeros_98 + 1) : Int) < 2 ^ 64) ∨ (-(2 ^ 64) < ((if decide ((it101 : Int) = 0) = true then 1 else 0) : Int) ∧ ((if decide ((it101 : Int) = 0) = true then 1 else 0) : Int) < 2 ^ 64)) <| bnd (((zeros_98 + 1) * (if decide ((it101 : Int) = 0) = true then 1 else 0))) fun zeros_123 => .ok ((y121), (zeros_123)))

def F__law_unescape_r1 (found_129 : (List Int)) (zeros_130 : Int) : Rx (List Int) :=
  .ok (found_129)

def F__law_unescape (octets' : (List Int)) : Rx (List Int) :=
  Rx.bind (forS (octets') ((([] : (List Int))), (0)) (fun s x => F__law_unescape_b1  (s.1) (s.2) x)) fun s => F__law_unescape_r1  (s.1) (s.2)

def F__law_raw_b1 (raw_133 : (List Int)) (size_144 : Int) (it147 : Int) : Rx (Int) :=
  (if 1 < size_144 then grd (-((raw_133 : (List Int)).length : Int) ≤ (size_144 - 1) ∧ (size_144 - 1) < ((raw_133 : (List Int)).length : Int)) <| (if ((itD (raw_133) ((size_144 - 1))) : Int) = 0 then bnd ((size_144 - 1)) fun size_151 => .ok (size_151) else .ok (size_144)) else .ok (size_144))

def F__law_raw_r1 (raw_134 : (List Int)) (size_156 : Int) : Rx (Int × (List Int)) :=
  (if size_156 < 2 then .ok ((0, ([] : (List Int)))) else grd (-((raw_134 : (List Int)).length : Int) ≤ 0 ∧ 0 < ((raw_134 : (List Int)).length : Int)) <| (if 1 ≤ (itD (raw_134) (0)) then (if (itD (raw_134) (0)) ≤ 31 then grd (-((raw_134 : (List Int)).length : Int) ≤ (size_156 - 1) ∧ (size_156 - 1) < ((raw_134 : (List Int)).length : Int)) <| (if ((itD (raw_134) ((size_156 - 1))) : Int) = 128 then Rx.bind (F__law_unescape (cutL (raw_134) (some (1)) (some ((size_156 - 1))))) fun v250 => (if 65536 < (((v250) : (List Int)).length : Int) then .ok ((0, ([] : (List Int)))) else grd (-((raw_134 : (List Int)).length : Int) ≤ 0 ∧ 0 < ((raw_134 : (List Int)).length : Int)) <| .ok (((itD (raw_134) (0)), v250))) else .ok ((0, ([] : (List Int))))) else .ok ((0, ([] : (List Int))))) else .ok ((0, ([] : (List Int))))))

def F__law_raw (raw' : (List Int)) : Rx (Int × (List Int)) :=
  bnd ((((raw') : (List Int)).length : Int)) fun size_131 => grd (-(2 ^ 62) ≤ ((((raw') : (List Int)).length : Int) : Int) ∧ ((((raw') : (List Int)).length : Int) : Int) < 2 ^ 62) <| Rx.bind (forS (rng (0) (Int.toNat ((((raw') : (List Int)).length : Int)))) (size_131) (fun s x => F__law_raw_b1 (raw') s x)) fun s => F__law_raw_r1 (raw') s

def F__law_read_b1 (octets_351 : (List Int)) (starts_352 : (List Int)) (found_368 : (List (Int × Int × (List Int)))) (it371 : Int) : Rx ((List (Int × Int × (List Int)))) :=
  grd ((starts_352).length + ([(((octets_351) : (List Int)).length : Int)]).length ≤ 1000000) <| grd (-(((starts_352) ++ ([(((octets_351) : (List Int)).length : Int)]) : (List Int)).length : Int) ≤ (it371 + 1) ∧ (it371 + 1) < (((starts_352) ++ ([(((octets_351) : (List Int)).length : Int)]) : (List Int)).length : Int)) <| bnd ((itD ((starts_352) ++ ([(((octets_351) : (List Int)).length : Int)])) ((it371 + 1)))) fun end_393 => grd (-((starts_352 : (List Int)).length : Int) ≤ it371 ∧ it371 < ((starts_352 : (List Int)).length : Int)) <| Rx.bind (F__law_raw (cutL (octets_351) (some (((itD (starts_352) (it371)) + 3))) (some (end_393)))) fun v405 => grd (-((starts_352 : (List Int)).length : Int) ≤ it371 ∧ it371 < ((starts_352 : (List Int)).length : Int)) <| grd ((found_368).length ≤ 1000000) <| bnd ((found_368) ++ [((itD (starts_352) (it371)), v405.1, v405.2)]) fun y447 => .ok (y447)

def F__law_read_r1 (found_456 : (List (Int × Int × (List Int)))) : Rx (List (Int × Int × (List Int))) :=
  .ok (found_456)

def F__law_read (octets' : (List Int)) : Rx (List (Int × Int × (List Int))) :=
  Rx.bind (F__law_starts (octets')) fun v330 => grd (-(2 ^ 62) ≤ ((((v330) : (List Int)).length : Int) : Int) ∧ ((((v330) : (List Int)).length : Int) : Int) < 2 ^ 62) <| Rx.bind (forS (rng (0) (Int.toNat ((((v330) : (List Int)).length : Int)))) (([] : (List (Int × Int × (List Int))))) (fun s x => F__law_read_b1 (octets') (v330) s x)) fun s => F__law_read_r1  s

def F__law_cell (script' : (List Int)) (k' : Int) : Rx Int :=
  (if k' < (((script') : (List Int)).length : Int) then grd (-((script' : (List Int)).length : Int) ≤ k' ∧ k' < ((script' : (List Int)).length : Int)) <| .ok ((itD (script') (k'))) else .ok (0))

def F__starts_c1 (octets_460 : (List Int)) (it489 : Int) : Rx (Option Int) :=
  grd (-((octets_460 : (List Int)).length : Int) ≤ it489 ∧ it489 < ((octets_460 : (List Int)).length : Int)) <| (if ((itD (octets_460) (it489)) : Int) = 0 then grd (-((octets_460 : (List Int)).length : Int) ≤ (it489 + 1) ∧ (it489 + 1) < ((octets_460 : (List Int)).length : Int)) <| (if ((itD (octets_460) ((it489 + 1))) : Int) = 0 then grd (-((octets_460 : (List Int)).length : Int) ≤ (it489 + 2) ∧ (it489 + 2) < ((octets_460 : (List Int)).length : Int)) <| (if ((itD (octets_460) ((it489 + 2))) : Int) = 1 then .ok (some it489) else .ok none) else .ok none) else .ok none)

def F__starts (octets' : (List Int)) : Rx (List Int) :=
  grd (-(2 ^ 62) ≤ (((((octets') : (List Int)).length : Int) - 2) : Int) ∧ (((((octets') : (List Int)).length : Int) - 2) : Int) < 2 ^ 62) <| Rx.bind (mapF (rng (0) (Int.toNat (((((octets') : (List Int)).length : Int) - 2)))) [] (fun x => noEr (F__starts_c1 (octets') x))) fun v461 => .ok (v461)

def F_unescape_b1 (kept_539 : (List Int)) (zeros_540 : Int) (it543 : Int) : Rx ((List Int) × Int) :=
  (if 2 ≤ zeros_540 then (if (it543 : Int) = 3 then .ok ((kept_539), (0)) else grd ((kept_539).length ≤ 1000000) <| bnd ((kept_539) ++ [it543]) fun y553 => bnd ((if (it543 : Int) = 0 then (zeros_540 + 1) else 0)) fun zeros_557 => .ok ((y553), (zeros_557))) else grd ((kept_539).length ≤ 1000000) <| bnd ((kept_539) ++ [it543]) fun y565 => bnd ((if (it543 : Int) = 0 then (zeros_540 + 1) else 0)) fun zeros_569 => .ok ((y565), (zeros_569)))

def F_unescape_r1 (kept_575 : (List Int)) (zeros_576 : Int) : Rx (List Int) :=
  .ok (kept_575)

def F_unescape (octets' : (List Int)) : Rx (List Int) :=
  Rx.bind (forS (octets') ((([] : (List Int))), (0)) (fun s x => F_unescape_b1  (s.1) (s.2) x)) fun s => F_unescape_r1  (s.1) (s.2)

def F__read_raw_r1 (raw_627 : (List Int)) (end_642 : Int) : Rx (Int × (List Int)) :=
  grd (-((raw_627 : (List Int)).length : Int) ≤ (end_642 - 1) ∧ (end_642 - 1) < ((raw_627 : (List Int)).length : Int)) <| (if ((itD (raw_627) ((end_642 - 1))) : Int) = 128 then Rx.bind (F_unescape (cutL (raw_627) (some (1)) (some ((end_642 - 1))))) fun v676 => (if 65536 < (((v676) : (List Int)).length : Int) then .ok ((0, ([] : (List Int)))) else grd (-((raw_627 : (List Int)).length : Int) ≤ 0 ∧ 0 < ((raw_627 : (List Int)).length : Int)) <| .ok (((itD (raw_627) (0)), v676))) else .ok ((0, ([] : (List Int)))))

def F__read_raw_b1 (raw_626 : (List Int)) (end_636 : Int) : Rx (Lp (Int) (Int × (List Int))) :=
  grd (-((raw_626 : (List Int)).length : Int) ≤ (end_636 - 1) ∧ (end_636 - 1) < ((raw_626 : (List Int)).length : Int)) <| (if ((itD (raw_626) ((end_636 - 1))) : Int) = 0 then bnd ((end_636 - 1)) fun end_641 => .ok (.go (end_641)) else .ok (.bk (end_636)))

def F__read_raw (raw' : (List Int)) : Rx (Int × (List Int)) :=
  (if (raw' : (List Int)) = [] then .ok ((0, ([] : (List Int)))) else grd (-((raw' : (List Int)).length : Int) ≤ 0 ∧ 0 < ((raw' : (List Int)).length : Int)) <| (if 1 ≤ (itD (raw') (0)) then (if (itD (raw') (0)) ≤ 31 then bnd ((((raw') : (List Int)).length : Int)) fun end_625 => Rx.bind ((whileR 1000000 (end_625) (fun s => F__read_raw_b1 (raw') s) : Rx (Lp (Int) (Int × (List Int))))) fun l => l.aft Rx.ok fun s => F__read_raw_r1 (raw') s else .ok ((0, ([] : (List Int))))) else .ok ((0, ([] : (List Int))))))

def F_read_units_b1 (octets_783 : (List Int)) (out_827 : (List (Int × Int × (List Int)))) (it830 : (Int × Int)) : Rx ((List (Int × Int × (List Int)))) :=
  Rx.bind (noEr (F__read_raw (cutL (octets_783) (some ((it830.1 + 3))) (some (it830.2))))) fun v840 => grd ((out_827).length ≤ 1000000) <| .ok (((out_827) ++ [(it830.1, v840.1, v840.2)]))

def F_read_units_r1 (out_877 : (List (Int × Int × (List Int)))) : Rx (List (Int × Int × (List Int))) :=
  .ok (out_877)

def F_read_units (octets' : (List Int)) : Rx (List (Int × Int × (List Int))) :=
  Rx.bind (noEr (F__starts (octets'))) fun v744 => grd ((cutL (v744) (some (1)) none).length + ([(((octets') : (List Int)).length : Int)]).length ≤ 1000000) <| Rx.bind (forS (List.zip (v744) ((cutL (v744) (some (1)) none) ++ ([(((octets') : (List Int)).length : Int)]))) (([] : (List (Int × Int × (List Int))))) (fun s x => F_read_units_b1 (octets') s x)) fun s => F_read_units_r1  s

def F__law_draws_b1 (free_892 : Bool) (found_910 : (List Int)) (rest_911 : Int) (state_912 : Int) (it915 : Int) : Rx ((List Int) × Int × Int) :=
  (if free_892 = true then (if 1 < rest_911 then grd (0 < (it915 : Int)) <| grd ((found_910).length ≤ 1000000) <| bnd ((found_910) ++ [(rest_911 % it915)]) fun y926 => grd (0 < (it915 : Int) ∧ (it915 : Int) < 2 ^ 128) <| bnd ((rest_911 / it915)) fun rest_928 => .ok ((y926), (rest_928), (state_912)) else bnd ((((state_912 * 48271) + 11) % 2147483647)) fun state_929 => bnd ((((state_929 * 69621) + 7) % 2147483647)) fun state_930 => grd (0 < (it915 : Int)) <| grd ((found_910).length ≤ 1000000) <| bnd ((found_910) ++ [((state_930 / 13) % it915)]) fun y939 => .ok ((y939), (rest_911), (state_930))) else bnd ((((state_912 * 48271) + 11) % 2147483647)) fun state_940 => bnd ((((state_940 * 69621) + 7) % 2147483647)) fun state_941 => grd (0 < (it915 : Int)) <| grd ((found_910).length ≤ 1000000) <| bnd ((found_910) ++ [((state_941 / 13) % it915)]) fun y950 => .ok ((y950), (rest_911), (state_941)))

def F__law_draws_r1 (found_956 : (List Int)) (rest_957 : Int) (state_958 : Int) : Rx (List Int) :=
  .ok (found_956)

def F__law_draws (cell' : Int) (limits' : (List Int)) : Rx (List Int) :=
  bnd ((if cell' < 0 then -cell' else cell')) fun rest_887 => bnd ((rest_887 % 2147483647)) fun state_888 => bnd ((decide (cell' < 0) || decide (((10 : Int) ^ Int.toNat 18) ≤ cell'))) fun free_891 => Rx.bind (forS (limits') ((([] : (List Int))), (rest_887), (state_888)) (fun s x => F__law_draws_b1 (free_891) (s.1) (s.2.1) (s.2.2) x)) fun s => F__law_draws_r1  (s.1) (s.2.1) (s.2.2)

def F__law_some_c2 (it1038 : Int) : Rx Int :=
  .ok ((it1038 % 4))

def F__law_some_c4 (it1115 : Int) : Rx Int :=
  grd (-(([0, 0, 0, 0, 0, 1, 3, it1115] : (List Int)).length : Int) ≤ (it1115 % 8) ∧ (it1115 % 8) < (([0, 0, 0, 0, 0, 1, 3, it1115] : (List Int)).length : Int)) <| .ok ((itD ([0, 0, 0, 0, 0, 1, 3, it1115]) ((it1115 % 8))))

def F__law_some_c6 (it1202 : Int) : Rx Int :=
  grd (-(([0, 0, 1, 128, (1 + ((it1202 / 8) % 6)), 3, it1202, 0] : (List Int)).length : Int) ≤ (it1202 % 8) ∧ (it1202 % 8) < (([0, 0, 1, 128, (1 + ((it1202 / 8) % 6)), 3, it1202, 0] : (List Int)).length : Int)) <| .ok ((itD ([0, 0, 1, 128, (1 + ((it1202 / 8) % 6)), 3, it1202, 0]) ((it1202 % 8))))

def F__law_some_k5 (octets_1153 : (List Int)) : Rx (List Int) :=
  .ok (octets_1153)

def F__law_some_k3 (kind_1065 : Int) (octets_1066 : (List Int)) : Rx (List Int) :=
  Rx.bind (((if (kind_1065 : Int) = 3 then Rx.bind (mapA (octets_1066) [] (fun x => noEr (F__law_some_c6  x))) fun v1159 => .ok (v1159) else .ok (octets_1066)) : Rx ((List Int)))) fun s => F__law_some_k5  s

def F__law_some_k1 (kind_988 : Int) (octets_989 : (List Int)) : Rx (List Int) :=
  Rx.bind (((if (kind_988 : Int) = 2 then Rx.bind (mapA (octets_989) [] (fun x => noEr (F__law_some_c4  x))) fun v1072 => .ok (v1072) else .ok (octets_989)) : Rx ((List Int)))) fun s => F__law_some_k3 (kind_988) s

def F__law_some (cell' : Int) (size' : Int) : Rx (List Int) :=
  bnd ((cell' % 4)) fun kind_959 => grd (-(2 ^ 63) ≤ (size' : Int) ∧ (size' : Int) < 2 ^ 63 ∧ ([256]).length * Int.toNat (size') ≤ 1000000) <| Rx.bind (F__law_draws ((cell' / 4)) (repL ([256]) (size'))) fun v979 => Rx.bind (((if (kind_959 : Int) = 1 then Rx.bind (mapA (v979) [] (fun x => noEr (F__law_some_c2  x))) fun v995 => .ok (v995) else .ok (v979)) : Rx ((List Int)))) fun s => F__law_some_k1 (kind_959) s

def F_law_b1 (octets_1282 : (List Int)) (it1285 : Int) : Rx ((List Int)) :=
  Rx.bind (F__law_some ((it1285 / 7)) ((it1285 % 7))) fun v1286 => grd ((octets_1282 : (List Int)).length + (v1286 : (List Int)).length ≤ 1000000) <| .ok ((octets_1282) ++ (v1286))

def F_law_b3 (due_1458 : (List (Int × Int × (List Int)))) (actual_1459 : (List (Int × Int × (List Int)))) (it1478 : Int) : Rx (Lp Unit Bool) :=
  grd (-((actual_1459 : (List (Int × Int × (List Int)))).length : Int) ≤ it1478 ∧ it1478 < ((actual_1459 : (List (Int × Int × (List Int)))).length : Int)) <| grd (-((actual_1459 : (List (Int × Int × (List Int)))).length : Int) ≤ it1478 ∧ it1478 < ((actual_1459 : (List (Int × Int × (List Int)))).length : Int)) <| grd (-((due_1458 : (List (Int × Int × (List Int)))).length : Int) ≤ it1478 ∧ it1478 < ((due_1458 : (List (Int × Int × (List Int)))).length : Int)) <| (if ((itD (actual_1459) (it1478)) : (Int × Int × (List Int))) = (itD (due_1458) (it1478)) then .ok (.go ()) else .ok (.rt (false)))

def F_law_c5 (due_1591 : (List (Int × Int × (List Int)))) (bad_1592 : Bool) (it1633 : Int) : Rx (Option Int) :=
  grd (-((due_1591 : (List (Int × Int × (List Int)))).length : Int) ≤ it1633 ∧ it1633 < ((due_1591 : (List (Int × Int × (List Int)))).length : Int)) <| (if V.bl (decide (((itD (due_1591) (it1633)).2.1 : Int) = 0)) = V.bl (bad_1592) then .ok (some it1633) else .ok none)

def F_law_c6 (it1777 : (Int × Int × (List Int))) : Rx (Int × Int × (List Int)) :=
  .ok ((it1777.1, it1777.2.1, it1777.2.2))

def F_law_b4 (due_1538 : (List (Int × Int × (List Int)))) (actual_1586 : (List (Int × Int × (List Int)))) (it1589 : Bool) : Rx (Lp ((List (Int × Int × (List Int)))) Bool) :=
  grd (-(2 ^ 62) ≤ ((((due_1538) : (List (Int × Int × (List Int)))).length : Int) : Int) ∧ ((((due_1538) : (List (Int × Int × (List Int)))).length : Int) : Int) < 2 ^ 62) <| Rx.bind (mapF (rng (0) (Int.toNat ((((due_1538) : (List (Int × Int × (List Int)))).length : Int)))) [] (fun x => noEr (F_law_c5 (due_1538) (it1589) x))) fun v1593 => (if 0 < (((v1593) : (List Int)).length : Int) then grd (-((v1593 : (List Int)).length : Int) ≤ 0 ∧ 0 < ((v1593 : (List Int)).length : Int)) <| grd (-((actual_1586 : (List (Int × Int × (List Int)))).length : Int) ≤ (itD (v1593) (0)) ∧ (itD (v1593) (0)) < ((actual_1586 : (List (Int × Int × (List Int)))).length : Int)) <| grd ((((itD (actual_1586) ((itD (v1593) (0))))).2.2).length ≤ 1000000) <| bnd (setL (actual_1586) ((itD (v1593) (0))) ((((itD (actual_1586) ((itD (v1593) (0))))).1, ((itD (actual_1586) ((itD (v1593) (0))))).2.1, (((itD (actual_1586) ((itD (v1593) (0))))).2.2) ++ [1]))) fun y1703 => Rx.bind (mapA (due_1538) [] (fun x => noEr (F_law_c6  x))) fun v1705 => grd (-((v1593 : (List Int)).length : Int) ≤ 0 ∧ 0 < ((v1593 : (List Int)).length : Int)) <| grd (-((v1705 : (List (Int × Int × (List Int)))).length : Int) ≤ (itD (v1593) (0)) ∧ (itD (v1593) (0)) < ((v1705 : (List (Int × Int × (List Int)))).length : Int)) <| grd ((((itD (v1705) ((itD (v1593) (0))))).2.2).length ≤ 1000000) <| bnd (setL (v1705) ((itD (v1593) (0))) ((((itD (v1705) ((itD (v1593) (0))))).1, ((itD (v1705) ((itD (v1593) (0))))).2.1, (((itD (v1705) ((itD (v1593) (0))))).2.2) ++ [1]))) fun y1854 => (if (y1703 : (List (Int × Int × (List Int)))) = y1854 then grd ((((itD (y1703) ((itD (v1593) (0))))).2.2) ≠ []) <| bnd (setL (y1703) ((itD (v1593) (0))) ((((itD (y1703) ((itD (v1593) (0))))).1, ((itD (y1703) ((itD (v1593) (0))))).2.1, (((itD (y1703) ((itD (v1593) (0))))).2.2).dropLast))) fun y1880 => .ok (.go (y1880)) else .ok (.rt (false))) else .ok (.go (actual_1586)))

def F_law_r4 (octets_1539 : (List Int)) (due_1540 : (List (Int × Int × (List Int)))) (actual_1901 : (List (Int × Int × (List Int)))) : Rx Bool :=
  Rx.bind (noEr (F_read_units (octets_1539))) fun v1902 => .ok (decide ((v1902 : (List (Int × Int × (List Int)))) = due_1540))

def F_law_r3 (octets_1460 : (List Int)) (due_1461 : (List (Int × Int × (List Int)))) (actual_1462 : (List (Int × Int × (List Int)))) : Rx Bool :=
  Rx.bind (forR ([true, false]) (actual_1462) (fun s x => F_law_b4 (due_1461) s x)) fun l => l.aft Rx.ok fun s => F_law_r4 (octets_1460) (due_1461) s

def F_law_k2 (octets_1326 : (List Int)) : Rx Bool :=
  Rx.bind (F__law_read (octets_1326)) fun v1417 => Rx.bind (noEr (F_read_units (octets_1326))) fun v1433 => (if ((((v1433) : (List (Int × Int × (List Int)))).length : Int) : Int) = (((v1417) : (List (Int × Int × (List Int)))).length : Int) then (if (octets_1326 : (List Int)) = octets_1326 then grd (-(2 ^ 62) ≤ ((((v1417) : (List (Int × Int × (List Int)))).length : Int) : Int) ∧ ((((v1417) : (List (Int × Int × (List Int)))).length : Int) : Int) < 2 ^ 62) <| Rx.bind (forR (rng (0) (Int.toNat ((((v1417) : (List (Int × Int × (List Int)))).length : Int)))) () (fun s x => F_law_b3 (v1417) (v1433)  x)) fun l => l.aft Rx.ok fun s => F_law_r3 (octets_1326) (v1417) (v1433)  else .ok (false)) else .ok (false))

def F_law_r1 (script_1258 : (List Int)) (octets_1315 : (List Int)) : Rx Bool :=
  Rx.bind (F__law_cell (script_1258) 0) fun v1325 => Rx.bind (((if ((v1325 % 16) : Int) = 9 then grd ((cutL (octets_1315) none (some (200)) : (List Int)).length + ([0, 0, 1, 9] : (List Int)).length ≤ 1000000) <| grd (-(2 ^ 63) ≤ ((65536 + ((v1325 / 16) % 2)) : Int) ∧ ((65536 + ((v1325 / 16) % 2)) : Int) < 2 ^ 63 ∧ ([5]).length * Int.toNat ((65536 + ((v1325 / 16) % 2))) ≤ 1000000) <| grd (((cutL (octets_1315) none (some (200))) ++ ([0, 0, 1, 9]) : (List Int)).length + (repL ([5]) ((65536 + ((v1325 / 16) % 2))) : (List Int)).length ≤ 1000000) <| grd ((((cutL (octets_1315) none (some (200))) ++ ([0, 0, 1, 9])) ++ (repL ([5]) ((65536 + ((v1325 / 16) % 2)))) : (List Int)).length + ([128, 0] : (List Int)).length ≤ 1000000) <| .ok ((((cutL (octets_1315) none (some (200))) ++ ([0, 0, 1, 9])) ++ (repL ([5]) ((65536 + ((v1325 / 16) % 2))))) ++ ([128, 0])) else .ok (cutL (octets_1315) none (some (200)))) : Rx ((List Int)))) fun s => F_law_k2  s

def F_law (script' : (List Int)) : Rx Bool :=
  Rx.bind (forS (cutL (script') (some (1)) none) (([] : (List Int))) (fun s x => F_law_b1  s x)) fun s => F_law_r1 (script') s
theorem cell_gv (s : List Int) (k : Int) (h : 0 ≤ k) : Gv (F__law_cell s k) (fun _ => True) := by
  unfold F__law_cell
  exact Gv.ite (fun c => Gv.grd ⟨by omega, c⟩ (.ok trivial)) fun _ => .ok trivial
def Inb : List Int → List Int → Prop
  | [], [] => True
  | v :: vs, l :: ls => 0 ≤ v ∧ v < l ∧ Inb vs ls
  | _, _ => False
theorem Inb.snoc : ∀ {vs ls : List Int} {y l : Int}, Inb vs ls → 0 ≤ y → y < l → Inb (vs ++ [y]) (ls ++ [l])
  | [], [], _, _, _, h0, h1 => ⟨h0, h1, trivial⟩
  | _ :: _, _ :: _, _, _, h, h0, h1 => ⟨h.1, h.2.1, Inb.snoc h.2.2 h0 h1⟩
  | [], _ :: _, _, _, h, _, _ => h.elim
  | _ :: _, [], _, _, h, _, _ => h.elim
theorem Inb.len : ∀ {vs ls : List Int}, Inb vs ls → vs.length = ls.length
  | [], [], _ => rfl
  | _ :: _, _ :: _, h => congrArg Nat.succ (Inb.len h.2.2)
  | [], _ :: _, h => h.elim
  | _ :: _, [], h => h.elim
theorem Inb.cons {v ls : List Int} {l : Int} (h : Inb v (l :: ls)) : ∃ a r, v = a :: r ∧ 0 ≤ a ∧ a < l ∧ Inb r ls := by
  cases v with
  | nil => exact h.elim
  | cons a r => exact ⟨a, r, rfl, h.1, h.2.1, h.2.2⟩
theorem Inb.nil {v : List Int} (h : Inb v []) : v = [] := by
  cases v with
  | nil => rfl
  | cons a r => exact h.elim
theorem draws_gv (cell : Int) (limits : List Int) (hl : ∀ l ∈ limits, 0 < l ∧ l < 18446744073709551616) (hn : limits.length ≤ 1000000) : Gv (F__law_draws cell limits) (fun v => Inb v limits) := by
  unfold F__law_draws
  refine Gv.bnd fun rest _ => Gv.bnd fun state _ => Gv.bnd fun free _ => Gv.bind (Gv.forS (P := fun i s => Inb s.1 (limits.take i)) ?_ fun i x s hx p => ?_) fun s p => .ok ?_
  · rw [List.take_zero]
    trivial
  · have hb0 := hl x (List.mem_of_getElem? hx)
    have hb : 0 < x ∧ x < 2 ^ 128 := ⟨hb0.1, by omega⟩
    have hlen := p.len
    have hi := get_len hx
    rw [List.length_take] at hlen
    have nx : ∀ y : Int, 0 ≤ y → y < x → Inb (s.1 ++ [y]) (limits.take (i + 1)) := fun y h0 h1 => by
      rw [take_succ_get hx]
      exact p.snoc h0 h1
    unfold F__law_draws_b1
    refine Gv.ite (fun _ => Gv.ite (fun _ => Gv.grd hb.1 (Gv.grd (by omega) (Gv.bnd fun y hy => Gv.grd ⟨hb.1, hb.2⟩ (Gv.bnd fun _ _ => .ok ?_)))) fun _ => Gv.bnd fun _ _ => Gv.bnd fun _ _ => Gv.grd hb.1 (Gv.grd (by omega) (Gv.bnd fun y hy => .ok ?_))) fun _ => Gv.bnd fun _ _ => Gv.bnd fun _ _ => Gv.grd hb.1 (Gv.grd (by omega) (Gv.bnd fun y hy => .ok ?_))
    · subst hy
      exact nx _ (Int.emod_nonneg _ (by omega)) (Int.emod_lt_of_pos _ hb.1)
    · subst hy
      exact nx _ (Int.emod_nonneg _ (by omega)) (Int.emod_lt_of_pos _ hb.1)
    · subst hy
      exact nx _ (Int.emod_nonneg _ (by omega)) (Int.emod_lt_of_pos _ hb.1)
  · rw [List.take_length] at p
    exact p
theorem ixg {xs : List Int} {k : Int} {n : Nat} (e : xs.length = n) (h : -(n : Int) ≤ k ∧ k < n) : -(xs.length : Int) ≤ k ∧ k < xs.length := by
  rw [e]
  exact h
theorem itD_lit {xs : List Int} {a k : Int} (n : Nat) (e : k = (n : Int)) (h : xs[n]? = some a) : itD xs k = a := by
  subst e
  have hl := get_len h
  unfold itD atI ixN
  rw [if_pos (by omega), if_pos (by omega)]
  show (xs[n]?).getD default = a
  rw [h]
  rfl
/-! ### octets escaped -/
def es : Int → List Int → List Int
  | _, [] => []
  | z, x :: r => if z = 2 ∧ x ≤ 3 then 3 :: x :: es (if x = 0 then 1 else 0) r else x :: es (if x = 0 then z + 1 else 0) r
def un : Int → List Int → List Int
  | _, [] => []
  | z, x :: r => if 2 ≤ z ∧ x = 3 then un 0 r else x :: un (if x = 0 then z + 1 else 0) r
/-- no start code, z zeros stand ahead -/
def nst : Int → List Int → Prop
  | _, [] => True
  | z, x :: r => ¬ (2 ≤ z ∧ x = 1) ∧ nst (if x = 0 then z + 1 else 0) r
theorem un_es : ∀ {p : List Int} {z : Int}, 0 ≤ z → z ≤ 2 → un z (es z p) = p
  | [], _, _, _ => rfl
  | x :: r, z, h0, h2 => by
    unfold es
    by_cases c : z = 2 ∧ x ≤ 3
    · rw [if_pos c]
      have e1 : un z (3 :: x :: es (if x = 0 then 1 else 0) r) = un 0 (x :: es (if x = 0 then 1 else 0) r) := by
        rw [un, if_pos ⟨by omega, rfl⟩]
      rw [e1, un, if_neg (by omega)]
      by_cases q : x = 0
      · rw [if_pos q, if_pos q]
        show x :: un 1 (es 1 r) = _
        rw [un_es (by decide) (by decide)]
      · rw [if_neg q, if_neg q, un_es (by decide) (by decide)]
    · rw [if_neg c, un]
      by_cases d : 2 ≤ z ∧ x = 3
      · exact absurd ⟨by omega, by omega⟩ c
      · rw [if_neg d]
        by_cases q : x = 0
        · rw [if_pos q, un_es (by omega) (by have : ¬ z = 2 := fun e => c ⟨e, by omega⟩; omega)]
        · rw [if_neg q, un_es (by decide) (by decide)]
theorem es_len : ∀ {p : List Int} {z : Int}, (es z p).length ≤ 2 * p.length
  | [], _ => Nat.le_refl 0
  | x :: r, z => by
    unfold es
    have a := es_len (p := r) (z := if x = 0 then 1 else 0)
    have b := es_len (p := r) (z := if x = 0 then z + 1 else 0)
    split
    · rw [List.length_cons, List.length_cons, List.length_cons]; omega
    · rw [List.length_cons, List.length_cons]; omega
theorem es_snoc : ∀ {p : List Int} {z : Int}, es z (p ++ [128]) = es z p ++ [128]
  | [], z => by
    show es z [128] = [128]
    unfold es
    rw [if_neg (by omega)]
    rfl
  | x :: r, z => by
    rw [List.cons_append, es, es]
    by_cases c : z = 2 ∧ x ≤ 3
    · rw [if_pos c, if_pos c, es_snoc]
      rfl
    · rw [if_neg c, if_neg c, es_snoc]
      rfl
theorem nst_es : ∀ {p : List Int} {z : Int}, 0 ≤ z → z ≤ 2 → nst z (es z p ++ [128])
  | [], z, _, _ => ⟨by omega, trivial⟩
  | x :: r, z, h0, h2 => by
    rw [es]
    by_cases c : z = 2 ∧ x ≤ 3
    · rw [if_pos c]
      refine ⟨by omega, ?_⟩
      rw [if_neg (by decide)]
      refine ⟨by omega, ?_⟩
      by_cases q : x = 0
      · rw [if_pos q, if_pos q]
        exact nst_es (by decide) (by decide)
      · rw [if_neg q, if_neg q]
        exact nst_es (by decide) (by decide)
    · rw [if_neg c]
      refine ⟨fun d => c ⟨by omega, by omega⟩, ?_⟩
      by_cases q : x = 0
      · rw [if_pos q]
        exact nst_es (by omega) (by have : ¬ z = 2 := fun e => c ⟨e, by omega⟩; omega)
      · rw [if_neg q]
        exact nst_es (by decide) (by decide)
/-- a start code stands there -/
def PS (o : List Int) (i : Nat) : Prop := o[i]? = some 0 ∧ o[i + 1]? = some 0 ∧ o[i + 2]? = some 1
instance (o : List Int) (i : Nat) : Decidable (PS o i) := by unfold PS; infer_instance
theorem nst_no : ∀ {l : List Int} {z : Int}, 0 ≤ z → nst z l → ∀ i, ¬ PS l i
  | [], _, _, _, i => fun h => by
    have := h.1
    simp at this
  | x :: r, z, hz, h, i + 1 => fun q => by
    refine nst_no (z := if x = 0 then z + 1 else 0) (by split <;> omega) h.2 i ⟨?_, ?_, ?_⟩
    · simpa using q.1
    · simpa using q.2.1
    · simpa using q.2.2
  | x :: r, z, hz, h, 0 => fun q => by
    obtain ⟨q1, q2, q3⟩ := q
    match r, h, q2, q3 with
    | y :: w :: t, h, q2, q3 =>
      have e1 : x = 0 := by simpa using q1
      have e2 : y = 0 := by simpa using q2
      have e3 : w = 1 := by simpa using q3
      subst e1 e2 e3
      have h2 := h.2
      rw [if_pos rfl] at h2
      have h3 := h2.2
      rw [if_pos rfl] at h3
      exact h3.1 ⟨by omega, rfl⟩
    | [_], _, _, q3 => simp at q3
    | [], _, q2, _ => simp at q2
theorem unescape_go : ∀ {l acc : List Int} {z : Int}, acc.length + l.length ≤ 1000000 → ∃ z', forS l (acc, z) (fun s x => F_unescape_b1 s.1 s.2 x) = .ok (acc ++ un z l, z')
  | [], acc, z, _ => ⟨z, by rw [show un z [] = [] from rfl, List.append_nil]; rfl⟩
  | x :: r, acc, z, h => by
    rw [List.length_cons] at h
    by_cases c : 2 ≤ z ∧ x = 3
    · obtain ⟨z', e⟩ := unescape_go (l := r) (acc := acc) (z := 0) (by omega)
      refine ⟨z', ?_⟩
      have b : F_unescape_b1 acc z x = .ok (acc, 0) := by
        unfold F_unescape_b1
        rw [if_pos c.1, if_pos c.2]
      show (F_unescape_b1 acc z x).bind _ = _
      rw [b, bind_ok, e, un, if_pos c]
    · obtain ⟨z', e⟩ := unescape_go (l := r) (acc := acc ++ [x]) (z := if x = 0 then z + 1 else 0) (by rw [List.length_append, List.length_singleton]; omega)
      refine ⟨z', ?_⟩
      have b : F_unescape_b1 acc z x = .ok (acc ++ [x], if x = 0 then z + 1 else 0) := by
        unfold F_unescape_b1
        by_cases c1 : 2 ≤ z
        · rw [if_pos c1, if_neg (fun q => c ⟨c1, q⟩), grd_pos (by omega)]
          rfl
        · rw [if_neg c1, grd_pos (by omega)]
          rfl
      show (F_unescape_b1 acc z x).bind _ = _
      rw [b, bind_ok, e, un, if_neg c]
      simp
theorem unescape_ok {l : List Int} (h : l.length ≤ 1000000) : F_unescape l = .ok (un 0 l) := by
  obtain ⟨z, e⟩ := unescape_go (l := l) (acc := []) (z := 0) (by rw [List.length_nil]; omega)
  unfold F_unescape
  rw [e]
  rfl
/-! ### start codes -/
theorem filterMap_congr' {α β : Type} {xs : List α} {f g : α → Option β} (h : ∀ x ∈ xs, f x = g x) : xs.filterMap f = xs.filterMap g := by
  induction xs with
  | nil => rfl
  | cons x r ih => rw [List.filterMap_cons, List.filterMap_cons, h x List.mem_cons_self, ih fun y hy => h y (List.mem_cons_of_mem _ hy)]
def st (o : List Int) : List Int := (List.range o.length).filterMap fun i => if PS o i then some (i : Int) else none
theorem range_more {o : List Int} {m : Nat} : ∀ k, (∀ i, m ≤ i → ¬ PS o i) → (List.range (m + k)).filterMap (fun i => if PS o i then some (i : Int) else none) = (List.range m).filterMap (fun i => if PS o i then some (i : Int) else none)
  | 0, _ => rfl
  | k + 1, h => by
    rw [← Nat.add_assoc, List.range_succ, List.filterMap_append, range_more k h]
    simp [h (m + k) (by omega)]
theorem ps_lt {o : List Int} {i : Nat} (h : PS o i) : i + 2 < o.length := get_len h.2.2
theorem itD_is {xs : List Int} {j : Nat} {x : Int} (h : xs[j]? = some x) {k : Int} (e : k = (j : Int)) : itD xs k = x := by
  subst e
  have hl := get_len h
  unfold itD atI ixN
  rw [if_pos (by omega), if_pos (by omega)]
  show (xs[j]?).getD default = x
  rw [h]
  rfl
theorem starts_ok {o : List Int} (h : o.length ≤ 1000000) : F__starts o = .ok (st o) := by
  unfold F__starts
  have em : Int.toNat ((o.length : Int) - 2) = o.length - 2 := by omega
  rw [grd_pos ⟨by omega, by omega⟩, em, mapF_pure (f := fun x => noEr (F__starts_c1 o x)) (g := fun x : Int => if PS o x.toNat then some x else none) (fun x hx => ?_) (by rw [rng_len]; show 0 + _ ≤ _; omega), bind_ok]
  · congr 1
    unfold st rng
    rw [List.nil_append, List.filterMap_map]
    have e2 : (List.range o.length).filterMap (fun i => if PS o i then some (i : Int) else none) = (List.range (o.length - 2)).filterMap (fun i => if PS o i then some (i : Int) else none) := by
      have := range_more (o := o) (m := o.length - 2) (o.length - (o.length - 2)) (fun i hi q => by have := ps_lt q; omega)
      rwa [show o.length - 2 + (o.length - (o.length - 2)) = o.length by omega] at this
    rw [e2]
    refine filterMap_congr' fun i _ => ?_
    show (if PS o (0 + (i : Int)).toNat then some (0 + (i : Int)) else none) = _
    rw [Int.zero_add, Int.toNat_natCast]
  · obtain ⟨i, hi⟩ : ∃ i : Nat, x = (i : Int) := ⟨x.toNat, by have := rng_mem hx; omega⟩
    have hm := rng_mem hx
    subst hi
    rw [Int.toNat_natCast]
    have l0 : i + 2 < o.length := by omega
    have h0 : o[i]? = some o[i] := List.getElem?_eq_getElem (by omega)
    have h1 : o[i + 1]? = some o[i + 1] := List.getElem?_eq_getElem (by omega)
    have h2 : o[i + 2]? = some o[i + 2] := List.getElem?_eq_getElem l0
    unfold F__starts_c1
    rw [grd_pos (by omega), itD_is h0 rfl, grd_pos (by omega), itD_is h1 (by omega), grd_pos (by omega), itD_is h2 (by omega)]
    have back : PS o i → o[i] = 0 ∧ o[i + 1] = 0 ∧ o[i + 2] = 1 := fun q => by
      obtain ⟨q1, q2, q3⟩ := q
      rw [h0] at q1
      rw [h1] at q2
      rw [h2] at q3
      exact ⟨Option.some.inj q1, Option.some.inj q2, Option.some.inj q3⟩
    by_cases c0 : o[i] = 0
    · by_cases c1 : o[i + 1] = 0
      · by_cases c2 : o[i + 2] = 1
        · have q : PS o i := ⟨by rw [h0, c0], by rw [h1, c1], by rw [h2, c2]⟩
          rw [if_pos c0, if_pos c1, if_pos c2, if_pos q]; rfl
        · rw [if_pos c0, if_pos c1, if_neg c2, if_neg (fun q => c2 (back q).2.2)]; rfl
      · rw [if_pos c0, if_neg c1, if_neg (fun q => c1 (back q).2.1)]; rfl
    · rw [if_neg c0, if_neg (fun q => c0 (back q).1)]; rfl
/-- nothing, or it begins with a start code -/
def Begins (o : List Int) : Prop := o = [] ∨ ∃ r, o = 0 :: 0 :: 1 :: r
theorem st_app {b o : List Int} (h : Begins o) : st (b ++ o) = st b ++ (st o).map (fun s => s + (b.length : Int)) := by
  rcases h with rfl | ⟨r, rfl⟩
  · simp [st]
  · unfold st
    rw [List.length_append, List.range_add, List.filterMap_append, List.filterMap_map, List.map_filterMap]
    congr 1
    · refine filterMap_congr' fun i hi => ?_
      have hi := List.mem_range.mp hi
      have e : PS (b ++ 0 :: 0 :: 1 :: r) i ↔ PS b i := by
        constructor
        · intro q
          obtain ⟨q1, q2, q3⟩ := q
          rcases Nat.lt_or_ge (i + 2) b.length with z | z
          · rw [List.getElem?_append_left (by omega)] at q1 q2 q3
            exact ⟨q1, q2, q3⟩
          · rw [List.getElem?_append_right z] at q3
            rcases Nat.lt_or_ge (i + 1) b.length with y | y
            · rw [show i + 2 - b.length = 0 by omega] at q3
              simp at q3
            · rw [show i + 2 - b.length = 1 by omega] at q3
              simp at q3
        · intro q
          have := ps_lt q
          unfold PS
          rw [List.getElem?_append_left (by omega), List.getElem?_append_left (by omega), List.getElem?_append_left (by omega)]
          exact q
      by_cases c : PS b i
      · rw [if_pos c, if_pos (e.2 c)]
      · rw [if_neg c, if_neg (fun q => c (e.1 q))]
    · refine filterMap_congr' fun i _ => ?_
      have e : PS (b ++ 0 :: 0 :: 1 :: r) (b.length + i) ↔ PS (0 :: 0 :: 1 :: r) i := by
        unfold PS
        rw [List.getElem?_append_right (by omega), List.getElem?_append_right (by omega), List.getElem?_append_right (by omega), show b.length + i - b.length = i by omega, show b.length + i + 1 - b.length = i + 1 by omega, show b.length + i + 2 - b.length = i + 2 by omega]
      show (if PS (b ++ 0 :: 0 :: 1 :: r) (b.length + i) then some (((b.length + i : Nat)) : Int) else none) = Option.map _ (if PS (0 :: 0 :: 1 :: r) i then some (i : Int) else none)
      by_cases c : PS (0 :: 0 :: 1 :: r) i
      · rw [if_pos c, if_pos (e.2 c)]
        show some (((b.length + i : Nat)) : Int) = some ((i : Int) + (b.length : Int))
        congr 1
        omega
      · rw [if_neg c, if_neg (fun q => c (e.1 q))]
        rfl
theorem st_in {o : List Int} {s : Int} (h : s ∈ st o) : 0 ≤ s ∧ s < o.length := by
  unfold st at h
  obtain ⟨i, hi, e⟩ := List.mem_filterMap.mp h
  have hi := List.mem_range.mp hi
  by_cases c : PS o i
  · rw [if_pos c] at e
    have := Option.some.inj e
    omega
  · rw [if_neg c] at e
    cases e
/-! ### units read -/
def cutN (o : List Int) (a b : Int) : List Int := cutL o (some a) (some b)
theorem sIx_nn {n d : Nat} {v : Int} (h0 : 0 ≤ v) : HT.sIx n d (some v) = min v.toNat n := by
  show (if v < 0 then (v + (n : Int)).toNat else min v.toNat n) = _
  rw [if_neg (by omega)]
theorem cutN_eq {xs : List Int} {a b : Int} (h0 : 0 ≤ a) (h1 : 0 ≤ b) : cutN xs a b = (xs.drop a.toNat).take (b.toNat - a.toNat) := by
  unfold cutN cutL
  rw [sIx_nn h0, sIx_nn h1]
  apply List.ext_getElem?
  intro i
  rw [List.getElem?_take, List.getElem?_take, List.getElem?_drop, List.getElem?_drop]
  by_cases c : a.toNat ≤ xs.length
  · rw [Nat.min_eq_left c]
    by_cases d : i < b.toNat - a.toNat
    · rw [if_pos d]
      by_cases e : i < min b.toNat xs.length - a.toNat
      · rw [if_pos e]
      · rw [if_neg e, List.getElem?_eq_none (by omega)]
    · rw [if_neg d, if_neg (by omega)]
  · rw [List.getElem?_eq_none (by omega), List.getElem?_eq_none (by omega)]
    simp
def rr (r : List Int) : Int × List Int := match F__read_raw r with
  | .ok v => v
  | _ => (0, [])
theorem raw_gv {r : List Int} (h : r.length ≤ 400000) : Gv (F__read_raw r) (fun _ => True) := by
  unfold F__read_raw
  refine Gv.ite (fun _ => .ok trivial) fun hne => ?_
  have hp : 0 < r.length := by
    cases r with
    | nil => exact absurd rfl hne
    | cons x t => simp
  refine Gv.grd (by omega) (Gv.ite (fun c1 => Gv.ite (fun c2 => Gv.bnd fun e he => ?_) fun _ => .ok trivial) fun _ => .ok trivial)
  have h0 : r[0]? = some r[0] := List.getElem?_eq_getElem hp
  rw [itD_is (k := 0) h0 rfl] at c1
  refine Gv.bind (Gv.whileR (P := fun k : Int => 1 ≤ k ∧ k ≤ r.length) (R := fun k : Int => 1 ≤ k ∧ k ≤ r.length) (fun k => k.toNat) (fun k hk => ?_) ⟨by omega, by omega⟩ (by omega)) ?_
  · unfold F__read_raw_b1
    refine Gv.grd (by omega) (Gv.ite (fun c => Gv.bnd fun k2 hk2 => .ok (.inl ⟨k2, rfl, ⟨?_, by omega⟩, by omega⟩)) fun _ => .ok (.inr ⟨k, rfl, hk⟩))
    rcases Decidable.em (k = 1) with z | z
    · rw [itD_is h0 (by omega)] at c
      omega
    · omega
  · rintro _ ⟨k, rfl, hk⟩
    show Gv (F__read_raw_r1 r k) _
    unfold F__read_raw_r1
    have lc := cutL_len r (some 1) (some (k - 1))
    exact Gv.grd (by omega) (Gv.ite (fun _ => Gv.bind_eq (unescape_ok (by omega)) (Gv.ite (fun _ => .ok trivial) fun _ => Gv.grd (by omega) (.ok trivial))) fun _ => .ok trivial)
theorem raw_ok {r : List Int} (h : r.length ≤ 400000) : F__read_raw r = .ok (rr r) := by
  obtain ⟨v, e, _⟩ := raw_gv h
  unfold rr
  rw [e]
def item (o : List Int) (p : Int × Int) : Int × Int × List Int := (p.1, (rr (cutN o (p.1 + 3) p.2)).1, (rr (cutN o (p.1 + 3) p.2)).2)
def zs (ss : List Int) (e : Int) : List (Int × Int) := List.zip ss (ss.drop 1 ++ [e])
def rd (o : List Int) : List (Int × Int × List Int) := (zs (st o) o.length).map (item o)
theorem forS_snoc {α β : Type} {xs : List α} {F : List β → α → Rx (List β)} {f : α → β} (h : ∀ x ∈ xs, ∀ s : List β, s.length ≤ 1000000 → F s x = .ok (s ++ [f x])) : ∀ {s : List β}, s.length + xs.length ≤ 1000000 → forS xs s F = .ok (s ++ xs.map f) := by
  induction xs with
  | nil => intro s _; simp [forS]
  | cons x r ih =>
    intro s hl
    rw [List.length_cons] at hl
    show (F s x).bind _ = _
    rw [h x List.mem_cons_self s (by omega), bind_ok, ih (fun y hy => h y (List.mem_cons_of_mem _ hy)) (by rw [List.length_append, List.length_singleton]; omega), List.map_cons, List.append_assoc]
    rfl
theorem st_len (o : List Int) : (st o).length ≤ o.length := by
  unfold st
  have := List.length_filterMap_le (fun i => if PS o i then some (i : Int) else none) (List.range o.length)
  rwa [List.length_range] at this
theorem read_ok {o : List Int} (h : o.length ≤ 400000) : F_read_units o = .ok (rd o) := by
  have hs := st_len o
  unfold F_read_units
  rw [starts_ok (by omega), noEr_ok, bind_ok]
  have e1 : cutL (st o) (some 1) none = (st o).drop 1 := by
    unfold cutL
    rw [sIx_nn (by decide)]
    show ((st o).drop (min 1 (st o).length)).take ((st o).length - min 1 (st o).length) = _
    by_cases c : 1 ≤ (st o).length
    · rw [Nat.min_eq_left c, List.take_of_length_le (by rw [List.length_drop]; omega)]
    · rw [Nat.min_eq_right (by omega), List.drop_of_length_le (by omega), List.drop_of_length_le (by omega)]
      simp
  rw [e1, grd_pos (by rw [List.length_drop]; show _ + 1 ≤ _; omega), forS_snoc (f := item o) (fun x _ s hs => ?_) (by rw [List.length_zip]; show 0 + _ ≤ _; omega), bind_ok]
  · rfl
  · unfold F_read_units_b1
    have lc := cutL_len o (some (x.1 + 3)) (some x.2)
    rw [raw_ok (by omega), noEr_ok, bind_ok, grd_pos hs]
    rfl
theorem zs_cons (x : Int) (r : List Int) (e : Int) : zs (x :: r) e = (x, r.headD e) :: zs r e := by
  unfold zs
  cases r with
  | nil => rfl
  | cons y t => rfl
theorem zs_app : ∀ (a b : List Int) (e : Int), zs (a ++ b) e = zs a (b.headD e) ++ zs b e
  | [], b, e => by simp [zs]
  | x :: r, b, e => by
    rw [List.cons_append, zs_cons, zs_cons, zs_app r b e, List.cons_append]
    congr 2
    cases r with
    | nil => rfl
    | cons y t => rfl
theorem zs_map (k : Int) : ∀ (b : List Int) (e : Int), zs (b.map (fun s => s + k)) (e + k) = (zs b e).map (fun p => (p.1 + k, p.2 + k))
  | [], e => rfl
  | x :: r, e => by
    rw [List.map_cons, zs_cons, zs_cons, List.map_cons, zs_map k r e]
    congr 2
    cases r with
    | nil => rfl
    | cons y t => rfl
theorem zs_in : ∀ {ss : List Int} {e : Int} {p : Int × Int}, p ∈ zs ss e → p.1 ∈ ss ∧ (p.2 ∈ ss ∨ p.2 = e)
  | [], e, p, h => by simp [zs] at h
  | x :: r, e, p, h => by
    rw [zs_cons] at h
    rcases List.mem_cons.mp h with z | z
    · rw [z]
      refine ⟨List.mem_cons_self, ?_⟩
      cases r with
      | nil => exact .inr rfl
      | cons y t => exact .inl (List.mem_cons_of_mem _ List.mem_cons_self)
    · obtain ⟨a, b⟩ := zs_in z
      exact ⟨List.mem_cons_of_mem _ a, b.elim (fun q => .inl (List.mem_cons_of_mem _ q)) .inr⟩
def shift (k : Int) (u : Int × Int × List Int) : Int × Int × List Int := (u.1 + k, u.2.1, u.2.2)
theorem rd_app {b o : List Int} (h : Begins o) : rd (b ++ o) = rd b ++ (rd o).map (shift b.length) := by
  rcases h with rfl | ⟨r, rfl⟩
  · rw [List.append_nil]
    simp [rd, st, zs]
  · have hd : ∃ t, st (0 :: 0 :: 1 :: r) = 0 :: t := by
      unfold st
      rw [List.length_cons, List.range_succ_eq_map, List.filterMap_cons]
      have : PS (0 :: 0 :: 1 :: r) 0 := ⟨rfl, rfl, rfl⟩
      rw [if_pos this]
      exact ⟨_, rfl⟩
    obtain ⟨t, ht⟩ := hd
    generalize ho : (0 :: 0 :: 1 :: r : List Int) = o at ht
    have hb : Begins o := .inr ⟨r, ho.symm⟩
    unfold rd
    rw [st_app hb, zs_app, List.map_append]
    have e1 : ((st o).map (fun s => s + (b.length : Int))).headD (((b ++ o).length : Nat) : Int) = (b.length : Int) := by
      rw [ht]
      show (0 : Int) + (b.length : Int) = _
      omega
    have e2 : (((b ++ o).length : Nat) : Int) = (o.length : Int) + (b.length : Int) := by rw [List.length_append]; omega
    rw [e1, e2, zs_map]
    congr 1
    · refine List.map_congr_left fun p hp => ?_
      obtain ⟨a, c⟩ := zs_in hp
      have pa := st_in a
      have pc : 0 ≤ p.2 ∧ p.2 ≤ b.length := by
        rcases c with c | c
        · have := st_in c; omega
        · omega
      unfold item
      have : cutN (b ++ o) (p.1 + 3) p.2 = cutN b (p.1 + 3) p.2 := by
        rw [cutN_eq (by omega) pc.1, cutN_eq (by omega) pc.1]
        rcases Nat.lt_or_ge p.2.toNat (p.1 + 3).toNat with z | z
        · rw [show p.2.toNat - (p.1 + 3).toNat = 0 by omega]
          simp
        · rw [List.drop_append_of_le_length (by omega), List.take_append_of_le_length (by rw [List.length_drop]; omega)]
      rw [this]
    · rw [List.map_map, List.map_map]
      refine List.map_congr_left fun p hp => ?_
      obtain ⟨a, c⟩ := zs_in hp
      have pa := st_in a
      have pc : 0 ≤ p.2 := by
        rcases c with c | c
        · have := st_in c; omega
        · omega
      show item (b ++ o) (p.1 + b.length, p.2 + b.length) = shift b.length (item o p)
      unfold item shift
      have : cutN (b ++ o) (p.1 + (b.length : Int) + 3) (p.2 + (b.length : Int)) = cutN o (p.1 + 3) p.2 := by
        rw [cutN_eq (by omega) (by omega), cutN_eq (by omega) pc, show (p.1 + (b.length : Int) + 3).toNat = b.length + (p.1 + 3).toNat by omega, ← List.drop_drop, List.drop_left]
        congr 1
        omega
      show (_, _, _) = (_, _, _)
      simp only [this]
/-! ### units written -/
def wu (u : Int × List Int) : List Int := [0, 0, 1, u.1] ++ (es 0 u.2 ++ [128])
theorem wu_len (u : Int × List Int) : (wu u).length ≤ 5 + 2 * u.2.length := by
  have := es_len (p := u.2) (z := 0)
  unfold wu
  simp only [List.length_append, List.length_cons, List.length_nil]
  omega
theorem st_wu {u : Int × List Int} (h : 1 ≤ u.1) : st (wu u) = [0] := by
  have no : ∀ i, 1 ≤ i → ¬ PS (wu u) i := by
    intro i hi q
    have tail : nst 0 (u.1 :: (es 0 u.2 ++ [128])) := ⟨by omega, by rw [if_neg (by omega)]; exact nst_es (by decide) (by decide)⟩
    obtain ⟨q1, q2, q3⟩ := q
    have e : wu u = 0 :: 0 :: 1 :: (u.1 :: (es 0 u.2 ++ [128])) := rfl
    rw [e] at q1 q2 q3
    match i, hi with
    | 1, _ => simp at q2
    | 2, _ => simp at q1
    | i + 3, _ => exact nst_no (by decide) tail i ⟨by simpa using q1, by simpa using q2, by simpa using q3⟩
  unfold st
  have hl : (wu u).length = (es 0 u.2).length + 4 + 1 := by
    unfold wu
    simp only [List.length_append, List.length_cons, List.length_nil]
    omega
  rw [hl, List.range_succ_eq_map, List.filterMap_cons]
  have z : PS (wu u) 0 := ⟨rfl, rfl, rfl⟩
  rw [if_pos z]
  show (0 : Int) :: _ = _
  congr 1
  rw [List.filterMap_map]
  refine List.filterMap_eq_nil_iff.mpr fun i _ => ?_
  show (if PS (wu u) (i + 1) then _ else none) = none
  rw [if_neg (no (i + 1) (by omega))]
theorem raw_wu {k : Int} {p : List Int} (h1 : 1 ≤ k) (h2 : k ≤ 31) (hp : p.length ≤ 65536) : rr (k :: (es 0 p ++ [128])) = (k, p) := by
  have hl := es_len (p := p) (z := 0)
  generalize hr : (k :: (es 0 p ++ [128]) : List Int) = r
  have rl : r.length = (es 0 p).length + 2 := by rw [← hr]; simp
  have g0 : r[0]? = some k := by rw [← hr]; rfl
  have gl : r[(es 0 p).length + 1]? = some 128 := by
    rw [← hr, List.getElem?_cons_succ, List.getElem?_append_right (Nat.le_refl _), Nat.sub_self]
    rfl
  have i0 : itD r 0 = k := itD_is g0 rfl
  have il : itD r ((r.length : Int) - 1) = 128 := itD_is gl (by omega)
  have key : F__read_raw r = .ok (k, p) := by
    unfold F__read_raw
    rw [if_neg (by rw [← hr]; simp), grd_pos (by omega), i0, if_pos h1, if_pos h2, bnd_eq]
    have w : whileR 1000000 (r.length : Int) (fun s => F__read_raw_b1 r s) = .ok (.go (r.length : Int)) := by
      show (F__read_raw_b1 r (r.length : Int)).bind _ = _
      have : F__read_raw_b1 r (r.length : Int) = .ok (.bk (r.length : Int)) := by
        unfold F__read_raw_b1
        rw [grd_pos (by omega), il, if_neg (by decide)]
      rw [this]
      rfl
    rw [w, bind_ok]
    show F__read_raw_r1 r (r.length : Int) = _
    unfold F__read_raw_r1
    have cu : cutL r (some 1) (some ((r.length : Int) - 1)) = es 0 p := by
      show cutN r 1 ((r.length : Int) - 1) = _
      rw [cutN_eq (by decide) (by omega), ← hr]
      show (es 0 p ++ [128]).take _ = _
      rw [List.take_append_of_le_length (by simp only [List.length_cons, List.length_append, List.length_nil]; omega), List.take_of_length_le (by simp only [List.length_cons, List.length_append, List.length_nil]; omega)]
    rw [grd_pos (by omega), il, if_pos rfl, cu, unescape_ok (by omega), bind_ok, un_es (by decide) (by decide), if_neg (by omega), grd_pos (by omega), i0]
  unfold rr
  rw [key]
theorem rd_wu {k : Int} {p : List Int} (h1 : 1 ≤ k) (h2 : k ≤ 31) (hp : p.length ≤ 65536) : rd (wu (k, p)) = [(0, k, p)] := by
  unfold rd
  rw [st_wu (u := (k, p)) h1]
  show [item (wu (k, p)) (0, _)] = _
  unfold item
  have : cutN (wu (k, p)) (0 + 3) ((wu (k, p)).length : Int) = k :: (es 0 p ++ [128]) := by
    rw [cutN_eq (by decide) (by omega)]
    show (k :: (es 0 p ++ [128])).take _ = _
    exact List.take_of_length_le (by show _ ≤ ((wu (k, p)).length : Int).toNat - 3; unfold wu; simp only [List.length_cons, List.length_append, List.length_nil]; omega)
  show [(0, (rr (cutN (wu (k, p)) (0 + 3) _)).1, (rr (cutN (wu (k, p)) (0 + 3) _)).2)] = _
  rw [this, raw_wu h1 h2 hp]
theorem begins_flat (us : List (Int × List Int)) : Begins (us.flatMap wu) := by
  cases us with
  | nil => exact .inl rfl
  | cons u r => exact .inr ⟨_, rfl⟩
theorem rd_units : ∀ {us : List (Int × List Int)}, (∀ u ∈ us, 1 ≤ u.1 ∧ u.1 ≤ 31 ∧ u.2.length ≤ 1000) → (rd (us.flatMap wu)).map (fun t => (t.2.1, t.2.2)) = us
  | [], _ => rfl
  | u :: r, h => by
    obtain ⟨a, b, c⟩ := h u List.mem_cons_self
    have hu : u = (u.1, u.2) := rfl
    have ih := rd_units (us := r) fun v hv => h v (List.mem_cons_of_mem _ hv)
    rw [List.flatMap_cons, rd_app (begins_flat r), List.map_append, hu, rd_wu a b (by omega), List.map_map]
    show (u.1, u.2) :: ((rd (r.flatMap wu)).map fun t => (t.2.1, t.2.2)) = _
    rw [ih]
theorem flat_wu_len : ∀ {us : List (Int × List Int)}, (∀ u ∈ us, u.2.length ≤ 60) → (us.flatMap wu).length ≤ 125 * us.length
  | [], _ => Nat.le_refl 0
  | u :: r, h => by
    have a := wu_len u
    have b := h u List.mem_cons_self
    have c := flat_wu_len (us := r) fun v hv => h v (List.mem_cons_of_mem _ hv)
    rw [List.flatMap_cons, List.length_append, List.length_cons]
    omega
theorem rep_in {n : Int} : (∀ l ∈ repL [(256 : Int)] n, 0 < l ∧ l < 18446744073709551616) ∧ (repL [(256 : Int)] n).length = n.toNat := by
  have e : repL [(256 : Int)] n = List.replicate n.toNat 256 := by
    unfold repL
    induction n.toNat with
    | zero => rfl
    | succ k ih => rw [List.replicate_succ, List.flatten_cons, ih, List.replicate_succ]; rfl
  rw [e]
  refine ⟨fun l hl => ?_, List.length_replicate⟩
  rw [List.eq_of_mem_replicate hl]
  decide
theorem some_gv {cell size : Int} (h0 : 0 ≤ size) (h1 : size ≤ 100) : Gv (F__law_some cell size) (fun v => (v.length : Int) = size) := by
  obtain ⟨r1, r2⟩ := rep_in (n := size)
  unfold F__law_some
  refine Gv.bnd fun kind _ => Gv.grd ⟨by omega, by omega, by rw [List.length_singleton]; omega⟩ (Gv.bind (draws_gv _ _ r1 (by omega)) fun v hv => ?_)
  have hl : (v.length : Int) = size := by have := hv.len; omega
  refine Gv.bind (P := fun w : List Int => (w.length : Int) = size) (.ite (fun _ => Gv.bind_eq (mapA_pure0 (g := fun x => x % 4) (fun x _ => rfl) (by omega)) (.ok (by rw [List.length_map]; exact hl))) fun _ => .ok hl) fun w hw => ?_
  unfold F__law_some_k1
  refine Gv.bind (P := fun w : List Int => (w.length : Int) = size) (.ite (fun _ => Gv.bind_eq (mapA_pure0 (f := fun x => noEr (F__law_some_c4 x)) (g := fun x => itD [0, 0, 0, 0, 0, 1, 3, x] (x % 8)) (fun x _ => ?_) (by omega)) (.ok (by rw [List.length_map]; exact hw))) fun _ => .ok hw) fun w hw => ?_
  · unfold F__law_some_c4
    rw [grd_pos (by simp only [List.length_cons, List.length_nil]; omega)]
    rfl
  · unfold F__law_some_k3
    refine Gv.bind (P := fun w : List Int => (w.length : Int) = size) (.ite (fun _ => Gv.bind_eq (mapA_pure0 (f := fun x => noEr (F__law_some_c6 x)) (g := fun x => itD [0, 0, 1, 128, (1 + ((x / 8) % 6)), 3, x, 0] (x % 8)) (fun x _ => ?_) (by omega)) (.ok (by rw [List.length_map]; exact hw))) fun _ => .ok hw) fun w hw => .ok hw
    unfold F__law_some_c6
    rw [grd_pos (by simp only [List.length_cons, List.length_nil]; omega)]
    rfl
/-! ### what the law reads -/
theorem lunesc_go : ∀ {l acc : List Int} {z : Int}, 0 ≤ z → z + l.length ≤ 1000000 → acc.length + l.length ≤ 1000000 → ∃ z', forS l (acc, z) (fun s x => F__law_unescape_b1 s.1 s.2 x) = .ok (acc ++ un z l, z')
  | [], acc, z, _, _, _ => ⟨z, by rw [show un z [] = [] from rfl, List.append_nil]; rfl⟩
  | x :: r, acc, z, hz, hz2, h => by
    rw [List.length_cons] at h hz2
    by_cases c : 2 ≤ z ∧ x = 3
    · obtain ⟨z', e⟩ := lunesc_go (l := r) (acc := acc) (z := 0) (by omega) (by omega) (by omega)
      refine ⟨z', ?_⟩
      have b : F__law_unescape_b1 acc z x = .ok (acc, 0) := by
        unfold F__law_unescape_b1
        rw [if_pos c.1, if_pos c.2]
      show (F__law_unescape_b1 acc z x).bind _ = _
      rw [b, bind_ok, e, un, if_pos c]
    · have ez : (z + 1) * (if decide (x = 0) = true then 1 else 0) = (if x = 0 then z + 1 else 0) := by
        by_cases q : x = 0
        · rw [if_pos q, if_pos (decide_eq_true q)]; omega
        · rw [if_neg q, if_neg (by rw [decide_eq_false q]; exact Bool.false_ne_true)]; omega
      obtain ⟨z', e⟩ := lunesc_go (l := r) (acc := acc ++ [x]) (z := if x = 0 then z + 1 else 0) (by split <;> omega) (by split <;> omega) (by rw [List.length_append, List.length_singleton]; omega)
      refine ⟨z', ?_⟩
      have b : F__law_unescape_b1 acc z x = .ok (acc ++ [x], if x = 0 then z + 1 else 0) := by
        unfold F__law_unescape_b1
        have gz : (-(2 ^ 64) < (z + 1 : Int) ∧ (z + 1 : Int) < 2 ^ 64) := by omega
        by_cases c1 : 2 ≤ z
        · rw [if_pos c1, if_neg (fun q => c ⟨c1, q⟩), grd_pos (by omega), bnd_eq, grd_pos (.inl gz), bnd_eq, ez]
        · rw [if_neg c1, grd_pos (by omega), bnd_eq, grd_pos (.inl gz), bnd_eq, ez]
      show (F__law_unescape_b1 acc z x).bind _ = _
      rw [b, bind_ok, e, un, if_neg c, List.append_assoc]
      rfl
theorem lunesc_ok {l : List Int} (h : l.length ≤ 900000) : F__law_unescape l = .ok (un 0 l) := by
  obtain ⟨z, e⟩ := lunesc_go (l := l) (acc := []) (z := 0) (by decide) (by omega) (by rw [List.length_nil]; omega)
  unfold F__law_unescape
  rw [e]
  rfl
/-- as many octets as stand ahead of the zeros at the end -/
def tz (r : List Int) : Nat → Nat
  | 0 => 0
  | n + 1 => if itD r (n : Int) = 0 then tz r n else n + 1
theorem tz_le (r : List Int) : ∀ n, tz r n ≤ n
  | 0 => Nat.le_refl 0
  | n + 1 => by
    unfold tz
    split
    · exact Nat.le_succ_of_le (tz_le r n)
    · exact Nat.le_refl _
theorem tz_pos {r : List Int} (h : itD r 0 ≠ 0) : ∀ n, 1 ≤ n → 1 ≤ tz r n
  | 0, q => absurd q (by decide)
  | 1, _ => by
    unfold tz
    rw [if_neg (show ¬ itD r ((0 : Nat) : Int) = 0 from h)]
    exact Nat.le_refl _
  | n + 2, _ => by
    unfold tz
    split
    · exact tz_pos h (n + 1) (by omega)
    · omega
/-- the raw unit whose first octet is a kind, told by tz -/
def raw1 (r : List Int) : Int × List Int :=
  let e : Int := (tz r r.length : Nat)
  if itD r (e - 1) = 128 then (if 65536 < ((un 0 (cutL r (some 1) (some (e - 1)))).length : Int) then (0, []) else (itD r 0, un 0 (cutL r (some 1) (some (e - 1))))) else (0, [])
theorem strip_go {r : List Int} (hl : r.length ≤ 400000) (h0 : itD r 0 ≠ 0) : ∀ (n m : Nat), n < m → 1 ≤ n → n ≤ r.length → (whileR m (n : Int) (fun s => F__read_raw_b1 r s) : Rx (Lp Int (Int × List Int))) = .ok (.go ((tz r n : Nat) : Int))
  | 0, _, _, h, _ => absurd h (by decide)
  | n + 1, 0, h, _, _ => absurd h (Nat.not_lt_zero _)
  | n + 1, m + 1, hm, h1, h2 => by
    have e1 : ((n + 1 : Nat) : Int) - 1 = (n : Int) := by omega
    have b : F__read_raw_b1 r ((n + 1 : Nat) : Int) = (if itD r (n : Int) = 0 then .ok (.go (n : Int)) else .ok (.bk ((n + 1 : Nat) : Int))) := by
      unfold F__read_raw_b1
      rw [e1, grd_pos (by omega)]
      rfl
    show (F__read_raw_b1 r ((n + 1 : Nat) : Int)).bind _ = _
    rw [b]
    unfold tz
    by_cases c : itD r (n : Int) = 0
    · rw [if_pos c, if_pos c, bind_ok]
      have hn : 1 ≤ n := by
        rcases Nat.eq_zero_or_pos n with z | z
        · rw [z] at c
          exact absurd c h0
        · exact z
      exact strip_go hl h0 n m (by omega) hn (by omega)
    · rw [if_neg c, if_neg c, bind_ok]
theorem rr_eq {r : List Int} (h : r.length ≤ 400000) : rr r = if r = [] then (0, []) else if 1 ≤ itD r 0 ∧ itD r 0 ≤ 31 then raw1 r else (0, []) := by
  have e := raw_ok h
  by_cases hne : r = []
  · rw [if_pos hne]
    subst hne
    rfl
  rw [if_neg hne]
  have hp : 0 < r.length := by
    cases r with
    | nil => exact absurd rfl hne
    | cons x t => simp
  have key : F__read_raw r = .ok (if 1 ≤ itD r 0 ∧ itD r 0 ≤ 31 then raw1 r else (0, [])) := by
    unfold F__read_raw
    rw [if_neg hne, grd_pos (by omega)]
    by_cases c1 : 1 ≤ itD r 0
    · by_cases c2 : itD r 0 ≤ 31
      · rw [if_pos c1, if_pos c2, if_pos ⟨c1, c2⟩, bnd_eq, strip_go h (by omega) r.length 1000000 (by omega) hp (Nat.le_refl _), bind_ok, aft_go]
        have l1 := tz_le r r.length
        have l2 := tz_pos (r := r) (by omega) r.length hp
        unfold F__read_raw_r1 raw1
        rw [grd_pos (by omega)]
        dsimp only
        have lc := cutL_len r (some 1) (some (((tz r r.length : Nat) : Int) - 1))
        by_cases c3 : itD r (((tz r r.length : Nat) : Int) - 1) = 128
        · rw [if_pos c3, if_pos c3, unescape_ok (by omega), bind_ok]
          split
          · rfl
          · rw [grd_pos (by omega)]
        · rw [if_neg c3, if_neg c3]
      · rw [if_pos c1, if_neg c2, if_neg (fun q => c2 q.2)]
    · rw [if_neg c1, if_neg (fun q => c1 q.1)]
  rw [key] at e
  exact (Rx.ok.inj e).symm
/-! k11 two -/
/-- the law takes the zeros away while there are two octets -/
theorem lstrip_go {r : List Int} (xs : List Int) : ∀ (n : Nat), 1 ≤ n → n ≤ r.length → n ≤ xs.length + 1 → ∃ k : Nat, forS xs (n : Int) (fun s x => F__law_raw_b1 r s x) = .ok (k : Int) ∧ 1 ≤ k ∧ k ≤ n ∧ (tz r n = k ∨ k = 1 ∧ tz r n = 0) := by
  induction xs with
  | nil =>
    intro n h1 h2 h3
    rw [List.length_nil] at h3
    have e : n = 1 := by omega
    subst e
    refine ⟨1, rfl, Nat.le_refl _, Nat.le_refl _, ?_⟩
    unfold tz
    split
    · exact .inr ⟨rfl, rfl⟩
    · exact .inl rfl
  | cons x t ih =>
    intro n h1 h2 h3
    rw [List.length_cons] at h3
    show ∃ k : Nat, (F__law_raw_b1 r (n : Int) x).bind _ = _ ∧ _
    by_cases c : n = 1
    · subst c
      have b : F__law_raw_b1 r ((1 : Nat) : Int) x = .ok ((1 : Nat) : Int) := by
        unfold F__law_raw_b1
        rw [if_neg (by omega)]
      rw [b, bind_ok]
      exact ih 1 h1 h2 (by omega)
    · obtain ⟨m, rfl⟩ : ∃ m, n = m + 1 := ⟨n - 1, by omega⟩
      have e1 : ((m + 1 : Nat) : Int) - 1 = (m : Int) := by omega
      by_cases z : itD r (m : Int) = 0
      · have b : F__law_raw_b1 r ((m + 1 : Nat) : Int) x = .ok (m : Int) := by
          unfold F__law_raw_b1
          rw [if_pos (by omega), e1, grd_pos (by omega), if_pos z, bnd_eq]
        rw [b, bind_ok]
        obtain ⟨k, k1, k2, k3, k4⟩ := ih m (by omega) (by omega) (by omega)
        refine ⟨k, k1, k2, by omega, ?_⟩
        rw [show tz r (m + 1) = tz r m by rw [tz, if_pos z]]
        exact k4
      · have b : F__law_raw_b1 r ((m + 1 : Nat) : Int) x = .ok ((m + 1 : Nat) : Int) := by
          unfold F__law_raw_b1
          rw [if_pos (by omega), e1, grd_pos (by omega), if_neg z]
        have stay : ∀ t : List Int, forS t ((m + 1 : Nat) : Int) (fun s x => F__law_raw_b1 r s x) = .ok ((m + 1 : Nat) : Int) := by
          intro t
          induction t with
          | nil => rfl
          | cons y t2 ih2 =>
            have b2 : F__law_raw_b1 r ((m + 1 : Nat) : Int) y = .ok ((m + 1 : Nat) : Int) := by
              unfold F__law_raw_b1
              rw [if_pos (by omega), e1, grd_pos (by omega), if_neg z]
            show (F__law_raw_b1 r ((m + 1 : Nat) : Int) y).bind _ = _
            rw [b2, bind_ok]
            exact ih2
        rw [b, bind_ok]
        refine ⟨m + 1, stay t, by omega, Nat.le_refl _, .inl ?_⟩
        rw [tz, if_neg z]
theorem lraw_ok {r : List Int} (h : r.length ≤ 400000) : F__law_raw r = .ok (rr r) := by
  rw [rr_eq h]
  unfold F__law_raw
  rw [bnd_eq, grd_pos (by omega), Int.toNat_natCast]
  by_cases hne : r = []
  · subst hne
    rfl
  rw [if_neg hne]
  have hp : 0 < r.length := by
    cases r with
    | nil => exact absurd rfl hne
    | cons x t => simp
  obtain ⟨k, k1, k2, k3, k4⟩ := lstrip_go (r := r) (rng 0 r.length) r.length hp (Nat.le_refl _) (by rw [rng_len]; omega)
  rw [k1, bind_ok]
  unfold F__law_raw_r1
  by_cases c : 1 ≤ itD r 0 ∧ itD r 0 ≤ 31
  · obtain ⟨c1, c2⟩ := id c
    have l2 := tz_pos (r := r) (by omega) r.length hp
    have ek : tz r r.length = k := by omega
    rw [if_pos c]
    unfold raw1
    dsimp only
    rw [ek]
    by_cases k5 : (k : Int) < 2
    · have e1 : k = 1 := by omega
      subst e1
      have c3 : ¬ itD r (((1 : Nat) : Int) - 1) = 128 := by
        show ¬ itD r 0 = 128
        omega
      rw [if_pos k5, if_neg c3]
    · have lc := cutL_len r (some 1) (some ((k : Int) - 1))
      rw [if_neg k5, grd_pos (by omega), if_pos c1, if_pos c2, grd_pos (by omega)]
      by_cases c3 : itD r ((k : Int) - 1) = 128
      · rw [if_pos c3, if_pos c3, lunesc_ok (by omega), bind_ok]
        split
        · rfl
        · rw [grd_pos (by omega)]
      · rw [if_neg c3, if_neg c3]
  · rw [if_neg c]
    by_cases k5 : (k : Int) < 2
    · rw [if_pos k5]
    · rw [if_neg k5, grd_pos (by omega)]
      by_cases c1 : 1 ≤ itD r 0
      · rw [if_pos c1, if_neg (fun q => c ⟨c1, q⟩)]
      · rw [if_neg c1]
/-! k11 three -/
theorem take3 {o : List Int} {i : Nat} (h : i + 2 < o.length) : cutL o (some (i : Int)) (some ((i : Int) + 3)) = [o[i], o[i + 1], o[i + 2]] := by
  have e := cutN_eq (xs := o) (a := (i : Int)) (b := (i : Int) + 3) (by omega) (by omega)
  unfold cutN at e
  rw [e, Int.toNat_natCast, show ((i : Int) + 3).toNat - i = 3 by omega, List.drop_eq_getElem_cons (by omega), List.drop_eq_getElem_cons (by omega), List.drop_eq_getElem_cons (by omega)]
  rfl
theorem lstarts_ok {o : List Int} (h : o.length ≤ 1000000) : F__law_starts o = .ok (st o) := by
  unfold F__law_starts
  have em : Int.toNat ((o.length : Int) - 2) = o.length - 2 := by omega
  rw [grd_pos ⟨by omega, by omega⟩, em, mapF_pure (f := fun x => noEr (F__law_starts_c1 o x)) (g := fun x : Int => if PS o x.toNat then some x else none) (fun x hx => ?_) (by rw [rng_len]; show 0 + _ ≤ _; omega), bind_ok]
  · congr 1
    unfold st rng
    rw [List.nil_append, List.filterMap_map]
    have e2 : (List.range o.length).filterMap (fun i => if PS o i then some (i : Int) else none) = (List.range (o.length - 2)).filterMap (fun i => if PS o i then some (i : Int) else none) := by
      have := range_more (o := o) (m := o.length - 2) (o.length - (o.length - 2)) (fun i hi q => by have := ps_lt q; omega)
      rwa [show o.length - 2 + (o.length - (o.length - 2)) = o.length by omega] at this
    rw [e2]
    refine filterMap_congr' fun i _ => ?_
    show (if PS o (0 + (i : Int)).toNat then some (0 + (i : Int)) else none) = _
    rw [Int.zero_add, Int.toNat_natCast]
  · obtain ⟨i, hi⟩ : ∃ i : Nat, x = (i : Int) := ⟨x.toNat, by have := rng_mem hx; omega⟩
    have hm := rng_mem hx
    subst hi
    rw [Int.toNat_natCast]
    have l0 : i + 2 < o.length := by omega
    have h0 : o[i]? = some o[i] := List.getElem?_eq_getElem (by omega)
    have h1 : o[i + 1]? = some o[i + 1] := List.getElem?_eq_getElem (by omega)
    have h2 : o[i + 2]? = some o[i + 2] := List.getElem?_eq_getElem l0
    unfold F__law_starts_c1
    rw [take3 l0]
    by_cases c : PS o i
    · obtain ⟨q1, q2, q3⟩ := id c
      rw [h0] at q1
      rw [h1] at q2
      rw [h2] at q3
      rw [Option.some.inj q1, Option.some.inj q2, Option.some.inj q3, if_pos rfl, if_pos c]
      rfl
    · rw [if_neg c, if_neg (fun q => c ?_)]
      · rfl
      · have e := List.cons.inj q
        have e2 := List.cons.inj e.2
        have e3 := List.cons.inj e2.2
        exact ⟨by rw [h0, e.1], by rw [h1, e2.1], by rw [h2, e3.1]⟩
theorem itD_atN {α : Type} [Inhabited α] {xs : List α} {j : Nat} (h : j < xs.length) : itD xs (j : Int) = xs[j] := by
  unfold itD atI ixN
  rw [if_pos (by omega), if_pos (by omega)]
  show (xs[(j : Int).toNat]?).getD default = _
  rw [Int.toNat_natCast, List.getElem?_eq_getElem h]
  rfl
theorem setL_atN {α : Type} {xs : List α} {j : Nat} {y : α} (h : j < xs.length) : setL xs (j : Int) y = xs.set j y := by
  unfold setL ixN
  rw [if_pos (by omega), if_pos (by omega), Int.toNat_natCast]
  rfl
theorem zs_rng (ss : List Int) (e : Int) (f : Int × Int → Int × Int × List Int) : (rng 0 ss.length).map (fun k => f (itD ss k, itD (ss ++ [e]) (k + 1))) = (zs ss e).map f := by
  have hz : (ss.drop 1 ++ [e]).length = (ss.length - 1) + 1 := by rw [List.length_append, List.length_drop]; rfl
  refine List.ext_getElem (by unfold zs; rw [List.length_map, List.length_map, rng_len, List.length_zip, hz]; omega) fun i h1 h2 => ?_
  rw [List.length_map, rng_len] at h1
  have hi : i < (zs ss e).length := by
    unfold zs
    rw [List.length_zip, hz]; omega
  rw [List.getElem_map, List.getElem_map]
  have ex : (rng 0 ss.length)[i]'(by rw [rng_len]; exact h1) = (i : Int) := by
    unfold rng
    rw [List.getElem_map, List.getElem_range]
    omega
  have ez : (zs ss e)[i]'hi = (ss[i], (ss.drop 1 ++ [e])[i]'(by rw [hz]; omega)) := by
    unfold zs
    exact List.getElem_zip
  rw [ex, ez, itD_atN h1, show ((i : Int) + 1) = ((i + 1 : Nat) : Int) by omega, itD_atN (xs := ss ++ [e]) (j := i + 1) (by rw [List.length_append]; show _ < _ + 1; omega)]
  congr 2
  have ed : ss.drop 1 ++ [e] = (ss ++ [e]).drop 1 := by
    cases ss with
    | nil => exact absurd h1 (Nat.not_lt_zero _)
    | cons x r => rfl
  simp only [ed, List.getElem_drop]
  congr 1
  omega
theorem lread_ok {o : List Int} (h : o.length ≤ 400000) : F__law_read o = .ok (rd o) := by
  have hs := st_len o
  unfold F__law_read
  rw [lstarts_ok (by omega), bind_ok, grd_pos (by omega), Int.toNat_natCast, forS_snoc (f := fun k => item o (itD (st o) k, itD (st o ++ [(o.length : Int)]) (k + 1))) (fun x hx s hl => ?_) (by rw [rng_len]; show 0 + _ ≤ _; omega), bind_ok]
  · show Rx.ok _ = _
    rw [List.nil_append, zs_rng]
    rfl
  · have hm := rng_mem hx
    unfold F__law_read_b1
    have lc := cutL_len o (some (itD (st o) x + 3)) (some (itD (st o ++ [(o.length : Int)]) (x + 1)))
    have l1 : (st o ++ [(o.length : Int)]).length = (st o).length + 1 := by rw [List.length_append]; rfl
    rw [grd_pos (by show _ + 1 ≤ _; omega), grd_pos (by omega), bnd_eq, grd_pos (by omega), lraw_ok (by omega), bind_ok, grd_pos (by omega), grd_pos hl, bnd_eq]
    rfl
/-! k11 four -/
theorem b4_ok (due : List (Int × Int × List Int)) (bad : Bool) (hl : due.length ≤ 400000) (hr : ∀ u ∈ due, u.2.2.length ≤ 400000) : F_law_b4 due due bad = .ok (.go due) := by
  unfold F_law_b4
  rw [grd_pos (by omega), Int.toNat_natCast, mapF_pure (f := fun x => noEr (F_law_c5 due bad x)) (g := fun x : Int => if V.bl (decide ((itD due x).2.1 = 0)) = V.bl bad then some x else none) (fun x hx => ?_) (by rw [rng_len]; show 0 + _ ≤ _; omega), bind_ok, List.nil_append]
  · generalize hF : (rng 0 due.length).filterMap (fun x : Int => if V.bl (decide ((itD due x).2.1 = 0)) = V.bl bad then some x else none) = fnd
    have hin : ∀ x ∈ fnd, 0 ≤ x ∧ x < due.length := fun x hx => by
      rw [← hF] at hx
      obtain ⟨y, hy, e⟩ := List.mem_filterMap.mp hx
      have hm := rng_mem hy
      split at e
      · have := Option.some.inj e
        omega
      · cases e
    by_cases c : 0 < (fnd.length : Int)
    · rw [if_pos c, grd_pos (by omega)]
      obtain ⟨j, ej, hj⟩ : ∃ j : Nat, itD fnd 0 = (j : Int) ∧ j < due.length := by
        have e := itD_atN (xs := fnd) (j := 0) (by omega)
        have q := hin _ (List.getElem_mem (l := fnd) (n := 0) (by omega))
        refine ⟨(itD fnd 0).toNat, ?_, ?_⟩
        · have : itD fnd 0 = fnd[0]'(by omega) := e
          omega
        · have : itD fnd 0 = fnd[0]'(by omega) := e
          omega
      have hx := hr _ (List.getElem_mem hj)
      rw [ej, grd_pos (by omega), itD_atN hj, grd_pos (by omega), bnd_eq, mapA_pure0 (f := fun x => noEr (F_law_c6 x)) (g := id) (fun x _ => rfl) (by omega), List.map_id, bind_ok, grd_pos (by omega), grd_pos (by omega), itD_atN hj, grd_pos (by omega), bnd_eq, if_pos rfl, setL_atN hj]
      have hj2 : j < (due.set j (due[j].1, due[j].2.1, due[j].2.2 ++ [1])).length := by rw [List.length_set]; exact hj
      rw [itD_atN hj2, List.getElem_set_self, grd_pos (by simp), bnd_eq, setL_atN hj2, List.set_set, List.dropLast_concat]
      show Rx.ok (Lp.go (due.set j due[j])) = _
      rw [List.set_getElem_self]
    · rw [if_neg c]
  · have hm := rng_mem hx
    unfold F_law_c5
    rw [grd_pos (by omega)]
    split <;> rfl
theorem rep5 {n : Int} : (repL [(5 : Int)] n).length = n.toNat := by
  have e : repL [(5 : Int)] n = List.replicate n.toNat 5 := by
    unfold repL
    induction n.toNat with
    | zero => rfl
    | succ k ih => rw [List.replicate_succ, List.flatten_cons, ih, List.replicate_succ]; rfl
  rw [e, List.length_replicate]
theorem un_len : ∀ (l : List Int) (z : Int), (un z l).length ≤ l.length
  | [], _ => Nat.le_refl 0
  | x :: r, z => by
    unfold un
    have a := un_len r 0
    have b := un_len r (if x = 0 then z + 1 else 0)
    split
    · rw [List.length_cons]; omega
    · rw [List.length_cons, List.length_cons]; omega
theorem rr_len {r : List Int} (h : r.length ≤ 400000) : (rr r).2.length ≤ r.length := by
  rw [rr_eq h]
  split
  · exact Nat.zero_le _
  · split
    · unfold raw1
      dsimp only
      have a := un_len (cutL r (some 1) (some (((tz r r.length : Nat) : Int) - 1))) 0
      have b := cutL_len r (some 1) (some (((tz r r.length : Nat) : Int) - 1))
      split
      · split
        · exact Nat.zero_le _
        · show (un 0 _).length ≤ _
          omega
      · exact Nat.zero_le _
    · exact Nat.zero_le _
theorem rd_len (o : List Int) : (rd o).length ≤ o.length := by
  unfold rd zs
  rw [List.length_map, List.length_zip]
  have := st_len o
  omega
theorem rd_small {o : List Int} (h : o.length ≤ 400000) : ∀ u ∈ rd o, u.2.2.length ≤ 400000 := fun u hu => by
  obtain ⟨p, _, rfl⟩ := List.mem_map.mp hu
  show (rr (cutN o (p.1 + 3) p.2)).2.length ≤ _
  have lc := cutL_len o (some (p.1 + 3)) (some p.2)
  have := rr_len (r := cutN o (p.1 + 3) p.2) (by unfold cutN; omega)
  unfold cutN at this ⊢
  omega
theorem gv_go {σ ρ τ : Type} {s : σ} {r : ρ → Rx τ} {k : σ → Rx τ} {Q : τ → Prop} (h : Gv (k s) Q) : Gv ((Lp.go s : Lp σ ρ).aft r k) Q := h
theorem law_true (s : List Int) (hs : s.length ≤ 63) : F_law s = .ok true := by
  refine Gv.get ?_
  unfold F_law
  have lc := cutL_len s (some 1) none
  refine Gv.bind (Gv.forS (P := fun i (o : List Int) => o.length ≤ 7 * i) (Nat.zero_le _) fun i x o hx p => ?_) fun o p => ?_
  · have hi := get_len hx
    unfold F_law_b1
    refine Gv.bind (some_gv (cell := x / 7) (size := x % 7) (Int.emod_nonneg _ (by decide)) (by omega)) fun v hv => Gv.grd (by omega) (.ok ?_)
    show (o ++ v).length ≤ _
    rw [List.length_append]
    omega
  · unfold F_law_r1
    have l2 := cutL_len o none (some 200)
    refine Gv.bind (cell_gv s 0 (by decide)) fun c _ => Gv.bind (P := fun w : List Int => w.length ≤ 400000) (Gv.ite (fun _ => ?_) fun _ => .ok (by omega)) fun w hw => ?_
    · have hm : 0 ≤ c / 16 % 2 := Int.emod_nonneg _ (by decide)
      have hm2 : c / 16 % 2 < 2 := Int.emod_lt_of_pos _ (by decide)
      have r5 := rep5 (n := 65536 + c / 16 % 2)
      refine Gv.grd (by show _ + 4 ≤ _; omega) (Gv.grd ⟨by omega, by omega, by show 1 * _ ≤ _; omega⟩ (Gv.grd (by rw [List.length_append]; show _ + 4 + _ ≤ _; omega) (Gv.grd (by rw [List.length_append, List.length_append]; show _ + 4 + _ + 2 ≤ _; omega) (.ok ?_))))
      rw [List.length_append, List.length_append, List.length_append]
      show _ + 4 + _ + 2 ≤ _
      omega
    · unfold F_law_k2
      have ln := rd_len w
      refine Gv.bind_eq (lread_ok hw) (Gv.bind_eq (by rw [read_ok hw, noEr_ok]) (Gv.pos rfl (Gv.pos rfl (Gv.grd (by omega) (Gv.bind_eq (forR_unit fun x hx => ?_) ?_)))))
      · have hm := rng_mem hx
        unfold F_law_b3
        rw [grd_pos (by omega), grd_pos (by omega), grd_pos (by omega), if_pos rfl]
      · refine gv_go ?_
        unfold F_law_r3
        have b1 := b4_ok (rd w) true (by omega) (rd_small hw)
        have b2 := b4_ok (rd w) false (by omega) (rd_small hw)
        have e : forR [true, false] (rd w) (fun s x => F_law_b4 (rd w) s x) = (.ok (.go (rd w)) : Rx (Lp (List (Int × Int × List Int)) Bool)) := by
          show (F_law_b4 (rd w) (rd w) true).bind _ = _
          rw [b1, bind_ok]
          show (F_law_b4 (rd w) (rd w) false).bind _ = _
          rw [b2, bind_ok]
          rfl
        refine Gv.bind_eq e (gv_go ?_)
        unfold F_law_r4
        exact Gv.bind_eq (by rw [read_ok hw, noEr_ok]) (.ok (decide_eq_true rfl))

end Vx
namespace Vx
open PySem PySem.Spec PyProof.Rows L2
def topS (i : Nat) : Stmt := PySem.Challenge.pw_thaumatrope_k11_any_octets_read_as_units.main.body.getD i (.Pass ⟨0, 0, 0, 0⟩)
abbrev s__law_starts : Stmt := topS 16
abbrev s__law_unescape : Stmt := topS 13
abbrev s__law_raw : Stmt := topS 17
abbrev s__law_read : Stmt := topS 18
abbrev s__law_cell : Stmt := topS 10
abbrev s__starts : Stmt := topS 7
abbrev s_unescape : Stmt := topS 5
abbrev s__read_raw : Stmt := topS 8
abbrev s_read_units : Stmt := topS 6
abbrev s__law_draws : Stmt := topS 11
abbrev s__law_some : Stmt := topS 14
abbrev s_law : Stmt := topS 19
structure Ads where
  z0 : Addr
def excA (AD : Ads) : Nat → Addr
  | _ => AD.z0
structure Txt (w : World) (K : PySem.W.Frag) (mg : Str → Option Value) (AD : Ads) : Prop where
  b_range : mg "range" = none
  b_len : mg "len" = none
  b_int : mg "int" = none
  g_ESCAPE : ∃ u, mg "ESCAPE" = some u ∧ RelV (V.int 3) u
  g_GREATEST_KIND : ∃ u, mg "GREATEST_KIND" = some u ∧ RelV (V.int 31) u
  g_STOP : ∃ u, mg "STOP" = some u ∧ RelV (V.int 128) u
  g_MOST_OCTETS : ∃ u, mg "MOST_OCTETS" = some u ∧ RelV (V.int 65536) u
  b_zip : mg "zip" = none
  b_abs : mg "abs" = none
  b_list : mg "list" = none
  b_isinstance : mg "isinstance" = none
  b_tuple : mg "tuple" = none
abbrev pat__law_starts_0 : Pat := (1, [], fun vs _ => vs)
abbrev pats__law_starts : List Pat := [pat__law_starts_0]
abbrev pat__law_unescape_0 : Pat := (1, [], fun vs _ => vs)
abbrev pats__law_unescape : List Pat := [pat__law_unescape_0]
abbrev pat__law_raw_0 : Pat := (1, [], fun vs _ => vs)
abbrev pats__law_raw : List Pat := [pat__law_raw_0]
abbrev pat__law_read_0 : Pat := (1, [], fun vs _ => vs)
abbrev pats__law_read : List Pat := [pat__law_read_0]
abbrev pat__law_cell_0 : Pat := (2, [], fun vs _ => vs)
abbrev pats__law_cell : List Pat := [pat__law_cell_0]
abbrev pat__starts_0 : Pat := (1, [], fun vs _ => vs)
abbrev pats__starts : List Pat := [pat__starts_0]
abbrev pat_unescape_0 : Pat := (1, [], fun vs _ => vs)
abbrev pats_unescape : List Pat := [pat_unescape_0]
abbrev pat__read_raw_0 : Pat := (1, [], fun vs _ => vs)
abbrev pats__read_raw : List Pat := [pat__read_raw_0]
abbrev pat_read_units_0 : Pat := (1, [], fun vs _ => vs)
abbrev pats_read_units : List Pat := [pat_read_units_0]
abbrev pat__law_draws_0 : Pat := (2, [], fun vs _ => vs)
abbrev pats__law_draws : List Pat := [pat__law_draws_0]
abbrev pat__law_some_0 : Pat := (2, [], fun vs _ => vs)
abbrev pats__law_some : List Pat := [pat__law_some_0]
abbrev pats_law : List Pat := []
def sp__law_starts (K : PySem.W.Frag) (AD : Ads) : Sp := fun vs H Q E => ∃ (G : Hp) (a_octets : Addr) (octets' : List Int), vs = [.ref a_octets] ∧ Same G H ∧ (hideL [] H) a_octets = some (.lst ((octets' : List Int).map V.int)) ∧ cW (F__law_starts octets') (fun v => ∀ p H', H p = none → Same H H' → H' p = some (.lst (v.map V.int)) → Q (.ref p) H') (fun e => ∀ H', Same H H' → E (.ref (excA AD e)) none H')
def sp__law_unescape (K : PySem.W.Frag) (AD : Ads) : Sp := fun vs H Q E => ∃ (G : Hp) (a_octets : Addr) (octets' : List Int), vs = [.ref a_octets] ∧ Same G H ∧ (hideL [] H) a_octets = some (.lst ((octets' : List Int).map V.int)) ∧ cW (F__law_unescape octets') (fun v => ∀ p H', H p = none → Same H H' → H' p = some (.lst (v.map V.int)) → Q (.ref p) H') (fun e => ∀ H', Same H H' → E (.ref (excA AD e)) none H')
def sp__law_raw (K : PySem.W.Frag) (AD : Ads) : Sp := fun vs H Q E => ∃ (G : Hp) (a_raw : Addr) (raw' : List Int), vs = [.ref a_raw] ∧ Same G H ∧ (hideL [] H) a_raw = some (.lst ((raw' : List Int).map V.int)) ∧ cW (F__law_raw raw') (fun v => ∀ u H' G', Same H H' → Same G G' → Same G' H' → (∀ b, H b ≠ none → G b = none → G' b = none) → Rp G' u ((encT2 PyData.int (encL PyData.int)) v) → Q u H') (fun e => ∀ H', Same H H' → E (.ref (excA AD e)) none H')
def sp__law_read (K : PySem.W.Frag) (AD : Ads) : Sp := fun vs H Q E => ∃ (G : Hp) (a_octets : Addr) (octets' : List Int), vs = [.ref a_octets] ∧ Same G H ∧ (hideL [] H) a_octets = some (.lst ((octets' : List Int).map V.int)) ∧ cW (F__law_read octets') (fun v => ∀ p vs H' G', H p = none → Same H H' → Same G G' → Same G' H' → (∀ b, H b ≠ none → G b = none → G' b = none) → G' p = none → H' p = some (.lst vs) → RpAll G' vs (v.map (encT3 PyData.int PyData.int (encL PyData.int))) → Q (.ref p) H') (fun e => ∀ H', Same H H' → E (.ref (excA AD e)) none H')
def sp__law_cell (K : PySem.W.Frag) (AD : Ads) : Sp := fun vs H Q E => ∃ (G : Hp) (a_script : Addr) (script' : List Int) (k' : Int), vs = [.ref a_script, .int k'] ∧ Same G H ∧ SqL K H a_script ((script' : List Int).map V.int) ∧ cW (F__law_cell script' k') (fun v => Q (.int v) H) (fun e => E (.ref (excA AD e)) none H)
def sp__starts (K : PySem.W.Frag) (AD : Ads) : Sp := fun vs H Q E => ∃ (G : Hp) (a_octets : Addr) (octets' : List Int), vs = [.ref a_octets] ∧ Same G H ∧ (hideL [] H) a_octets = some (.lst ((octets' : List Int).map V.int)) ∧ cW (F__starts octets') (fun v => ∀ p H', H p = none → Same H H' → H' p = some (.lst (v.map V.int)) → Q (.ref p) H') (fun e => ∀ H', Same H H' → E (.ref (excA AD e)) none H')
def sp_unescape (K : PySem.W.Frag) (AD : Ads) : Sp := fun vs H Q E => ∃ (G : Hp) (a_octets : Addr) (octets' : List Int), vs = [.ref a_octets] ∧ Same G H ∧ (hideL [] H) a_octets = some (.lst ((octets' : List Int).map V.int)) ∧ cW (F_unescape octets') (fun v => ∀ p H', H p = none → Same H H' → H' p = some (.lst (v.map V.int)) → Q (.ref p) H') (fun e => ∀ H', Same H H' → E (.ref (excA AD e)) none H')
def sp__read_raw (K : PySem.W.Frag) (AD : Ads) : Sp := fun vs H Q E => ∃ (G : Hp) (a_raw : Addr) (raw' : List Int), vs = [.ref a_raw] ∧ Same G H ∧ (hideL [] H) a_raw = some (.lst ((raw' : List Int).map V.int)) ∧ cW (F__read_raw raw') (fun v => ∀ (H' : Hp) (t_ l_1 : Addr), Same H H' → H t_ = none → H l_1 = none → H' t_ = some (.tup [V.int v.1, V.ref l_1]) → H' l_1 = some (.lst (v.2.map V.int)) → Q (.ref t_) H') (fun e => ∀ H', Same H H' → E (.ref (excA AD e)) none H')
def sp_read_units (K : PySem.W.Frag) (AD : Ads) : Sp := fun vs H Q E => ∃ (G : Hp) (a_octets : Addr) (octets' : List Int), vs = [.ref a_octets] ∧ Same G H ∧ (hideL [] H) a_octets = some (.lst ((octets' : List Int).map V.int)) ∧ cW (F_read_units octets') (fun v => ∀ (H' : Hp) (a : Addr) (vs : List V) (L : List Addr) (G' : Hp), H a = none → (∀ b ∈ L, H b = none) → (∀ b ∈ L, b ≠ a) → Same H H' → Same G G' → Same G' H' → (∀ b, H b ≠ none → G b = none → G' b = none) → G' a = none → (∀ b ∈ L, G' b = none) → H' a = some (.lst vs) → OwAll G' H' L vs ((v : (List (Int × Int × (List Int)))).map oU3) → Q (.ref a) H') (fun e => False)
def sg_read_units (K : PySem.W.Frag) (AD : Ads) : SpG := fun vs H Q E => ∃ (G : Hp) (a_octets : Addr) (octets' : List Int), vs = [.ref a_octets] ∧ Same G H ∧ (hideL [] H) a_octets = some (.lst ((octets' : List Int).map V.int)) ∧ cW (F_read_units octets') (fun v => ∀ (ys : List V) (H' G' : Hp) (L : List Addr), (∀ b ∈ L, H b = none) → Same H H' → Same G G' → Same G' H' → (∀ b, H b ≠ none → G b = none → G' b = none) → (∀ b ∈ L, G' b = none) → OwAll G' H' L ys ((v : (List (Int × Int × (List Int)))).map oU3) → Q ys H') (fun e => False)
theorem im_read_units {K : PySem.W.Frag} {AD : Ads} (vs : List V) (H : Hp) (Q : VK) (E E2 : XK) (h : sp_read_units K AD vs H Q E) : sg_read_units K AD vs H (fun out H2 => ∀ p, H2 p = none → Q (.ref p) (upd H2 p (.lst out))) E2 := by
  obtain ⟨G, a_octets, octets', e_, f0_, f1_, hw⟩ := h
  exact ⟨G, a_octets, octets', e_, f0_, f1_, Vy.cW_imp hw (fun v h => gen_topO h) fun _ z => z⟩
def sp__law_draws (K : PySem.W.Frag) (AD : Ads) : Sp := fun vs H Q E => ∃ (G : Hp) (cell' : Int) (a_limits : Addr) (limits' : List Int), vs = [.int cell', .ref a_limits] ∧ Same G H ∧ (hideL [] H) a_limits = some (.lst ((limits' : List Int).map V.int)) ∧ cW (F__law_draws cell' limits') (fun v => ∀ p H', H p = none → Same H H' → H' p = some (.lst (v.map V.int)) → Q (.ref p) H') (fun e => ∀ H', Same H H' → E (.ref (excA AD e)) none H')
def sp__law_some (K : PySem.W.Frag) (AD : Ads) : Sp := fun vs H Q E => ∃ (G : Hp) (cell' : Int) (size' : Int), vs = [.int cell', .int size'] ∧ Same G H ∧ cW (F__law_some cell' size') (fun v => ∀ p H', H p = none → Same H H' → H' p = some (.lst (v.map V.int)) → Q (.ref p) H') (fun e => ∀ H', Same H H' → E (.ref (excA AD e)) none H')
def sp_law (K : PySem.W.Frag) (AD : Ads) : Sp := fun vs H Q E => ∃ (a_script : Addr) (script : List Int), vs = [.ref a_script] ∧ SqL K H a_script (script.map V.int) ∧ cW (F_law script) (fun v => v = true) (fun _ => False) ∧ ∀ H', Q (.bl true) H'
section
variable {P : Program} {w : World} {K : PySem.W.Frag} {mg : Str → Option Value} {base : Heap} {AD : Ads}
abbrev N__law_starts : List Str := ["octets", "k"]
theorem sc__law_starts : FnScope N__law_starts ["octets"] (defScope s__law_starts) := ⟨rfl, rfl, rfl, by decide +kernel, rfl, by decide +kernel, by decide +kernel⟩
theorem ok__law_starts (D : DefX K mg "_law_starts" s__law_starts ["octets"] pats__law_starts) (T : Txt w K mg AD)  : CalX P w K mg base 1 "_law_starts" (sp__law_starts K AD) pats__law_starts := by
  refine D.ok sc__law_starts (fun vs H Q E h => ?_) (fun f cdv A_ outer s H vs Q E hr h => ?_)
  · obtain ⟨G, a_octets, octets', rfl, _⟩ := h
    rfl
  · obtain ⟨G, a_octets, octets', rfl, sG, q_octets, hw⟩ := h
    refine ⟨_, (pss_one (ps_ret (pe_lc (own := [("k", 1)]) (g := gName 1) (by rfl) sc__law_starts.nd (pi_range1 rfl T.b_range (pa_cons (pe_op op_sub (pe_callB (call_lenLiK (K := K)) (by rfl) T.b_len (by decide +kernel) (pa_cons (pv 0) pa_nil)) pe_int) pa_nil)) (blkOk_by (own := [("k", 1)]) (N := N__law_starts) (sc := defScope s__law_starts) (by decide +kernel)) (fun _ _ _ _ _ => (pg_name (i := 1) sc__law_starts.nd rfl (Or.inl rfl))) (fun _ _ _ _ _ => pts_one (pt_cmpR (op_eqT (encOk_L encOk_int) hr.units) (pe_slice (sl_listK (K := K)) (pv 0) (po_some (pv 1)) (po_some (pe_op op_add (pv 1) pe_int))) (pe_lst (pa_cons pe_int (pa_cons pe_int (pa_cons pe_int pa_nil)))) (nomark _))) (fun _ _ _ _ _ => (pv 1))))), ?_⟩
    obtain ⟨KK, EE, hK0, hE, hw⟩ := cW_gen hw
    have S0 := Sep.startG sG
    unfold F__law_starts at hw
    obtain ⟨g1, hw⟩ := cW_grd hw
    obtain ⟨K4, hK5, hw⟩ := cW_push hw
    refine ⟨_, rfl, _, _, rfl, (SqL.of (S0.bM _ _ q_octets)), _, _, rfl, rfl, _, rfl, g1.1, g1.2, fun D6 n7 => lc_range (lo := 0) (n := Int.toNat (((((octets') : (List Int)).length : Int) - 2))) (fun i1 H' => ∃ (G' : Hp) (acc9 : (List Int)), Same G G' ∧ Sep [] H G G' H' [D6] ∧ H' D6 = some (.lst ((acc9 : (List Int)).map V.int)) ∧ Same H H' ∧ cW (mapF (List.drop i1 (rng (0) (Int.toNat (((((octets') : (List Int)).length : Int) - 2))))) acc9 (fun x => noEr (F__law_starts_c1 (octets') x))) K4 EE) ?_ ?_ ?_⟩
    · generalize g11 : upd H D6 _ = H12
      obtain ⟨e13, h14⟩ := gen_new n7 g11
      have fr15 := S0.free n7
      have S16 := S0.new n7 e13 h14 fr15
      exact ⟨_, [], Same.refl _, S16, h14, e13, hw⟩
    · intro i1 H17 hi hw
      obtain ⟨G20, acc22, eG21, S18, h19, eo28, hw⟩ := hw
      obtain ⟨z29, hw⟩ := cW_mapF (rng_get hi) hw
      generalize (0 + (i1 : Int)) = x30 at hw ⊢
      have hw := cW_noEr hw
      have hw : cW (F__law_starts_c1 (octets') (x30)) _ (fun _ => False) := hw
      unfold F__law_starts_c1 at hw
      refine ⟨rfl, ?_⟩
      refine ⟨_, rfl, _, rfl, _, rfl, _, rfl, _, _, rfl, rfl, _, rfl, _, _, rfl, (SqL.of (S18.bM _ _ q_octets)), fun p32 n33 => ?_⟩
      generalize g34 : upd H17 p32 _ = H35
      obtain ⟨e36, h37⟩ := gen_new n33 g34
      have h38 : H35 p32 = some (.lst ((cutL (octets') (some (x30)) (some ((x30 + 3))) : (List Int)).map V.int)) := cut_map h37
      have fr39 := S18.free n33
      have S40 := S18.new n33 e36 h38 fr39
      refine ⟨(by show 3 ≤ sizeLine; decide), fun p41 n42 => ?_⟩
      generalize g43 : upd H35 p41 _ = H44
      obtain ⟨e45, h46⟩ := gen_new n42 g43
      have h47 : H44 p41 = some (.lst (([0, 0, 1] : (List Int)).map V.int)) := h46
      have fr48 := S40.free n42
      have S49 := S40.new n42 e45 h47 fr48
      have h50 := (e45 _ _ h38)
      refine ⟨_, _, (rp_mk_ints h50), (rp_mk_ints h47), _, rfl, ?_⟩
      refine iteD (fun c51 => ?_) (fun c51 => ?_)
      · have hw := cW_pos c51 hw
        have h52 := (e45 _ _ (e36 _ _ h19))
        refine ⟨_, rfl, _, h52, (app_lenM z29), ?_⟩
        generalize g53 : upd H44 D6 _ = H54
        obtain ⟨x55, h56⟩ := gen_mut g53
        have S57 := S49.mut1 x55 (.tail _ (.tail _ (.head _))) h56
        have hw := cW_ok hw
        exact ⟨_, (acc22 ++ [x30]), eG21, (S57.sub (all_cons (.tail _ (.tail _ (.head _))) all_nil)), (snoc_map h56), (same_mut (Same.trans (Same.trans eo28 e36) e45) x55 n7), hw⟩
      · have hw := cW_neg c51 hw
        have hw := cW_ok hw
        have h58 := (e45 _ _ (e36 _ _ h19))
        exact ⟨_, acc22, eG21, (S49.sub (all_cons (.tail _ (.tail _ (.head _))) all_nil)), h58, (Same.trans (Same.trans eo28 e36) e45), hw⟩
    intro H59 hw
    obtain ⟨G62, acc64, eG63, S60, h61, eo70, hw⟩ := hw
    have hw := hK5 _ (cW_mapF0 (rng_len _ _).symm hw)
    have fr71 := S0.free n7
    have hw := cW_ok hw
    exact hK0 _ hw _ _ fr71 S60.b0 h61

abbrev N__law_unescape : List Str := ["octets", "found", "zeros", "octet"]
theorem sc__law_unescape : FnScope N__law_unescape ["octets"] (defScope s__law_unescape) := ⟨rfl, rfl, rfl, by decide +kernel, rfl, by decide +kernel, by decide +kernel⟩
theorem ok__law_unescape (D : DefX K mg "_law_unescape" s__law_unescape ["octets"] pats__law_unescape) (T : Txt w K mg AD)  : CalX P w K mg base 1 "_law_unescape" (sp__law_unescape K AD) pats__law_unescape := by
  refine D.ok sc__law_unescape (fun vs H Q E h => ?_) (fun f cdv A_ outer s H vs Q E hr h => ?_)
  · obtain ⟨G, a_octets, octets', rfl, _⟩ := h
    rfl
  · obtain ⟨G, a_octets, octets', rfl, sG, q_octets, hw⟩ := h
    refine ⟨_, (pss_cons (ps_set (i := 1) sc__law_unescape.nd rfl (Or.inl rfl) (pe_lst pa_nil))
      (pss_cons (ps_set (i := 2) sc__law_unescape.nd rfl (Or.inl rfl) pe_int)
      (pss_cons (ps_for (passes_of rfl) rfl (pi_listK (K := K) (pv 0)) (pg_name (i := 3) sc__law_unescape.nd rfl (Or.inl rfl)) (pss_one (ps_if (PW.pt (pw_and (pt_cmp (pc_ge (pv 2) pe_int)) (pw_and1 (pt_cmp (pc_eqI (pv 3) pe_int))))) (pss_one (ps_set (i := 2) sc__law_unescape.nd rfl (Or.inl rfl) pe_int)) (pss_cons (ps_expr (pe_bm PySem.F.plainAttrs_list PySem.F.slot_list_append PySem.F.type_list_append mt_append (pv 1) (pa_cons (pv 3) pa_nil)))
      (pss_one (ps_set (i := 2) sc__law_unescape.nd rfl (Or.inl rfl) (pe_op op_mul (pe_op op_add (pv 2) pe_int) (pe_callTy call_int1 (by rfl) T.b_int (by decide +kernel) (pa_cons (pe_cmp (pc_eqI (pv 3) pe_int)) pa_nil)))))))))
      (pss_one (ps_ret (pv 1)))))), ?_⟩
    obtain ⟨KK, EE, hK0, hE, hw⟩ := cW_gen hw
    have S0 := Sep.startG sG
    unfold F__law_unescape at hw
    refine ⟨(by show 0 ≤ sizeLine; decide), fun p72 n73 => ?_⟩
    generalize g74 : upd H p72 _ = H75
    obtain ⟨e76, h77⟩ := gen_new n73 g74
    have h78 : H75 p72 = some (.lst ((([] : (List Int)) : (List Int)).map V.int)) := h77
    have fr79 := S0.free n73
    have S80 := S0.new n73 e76 h78 fr79
    obtain ⟨K81, hK82, hw⟩ := cW_push hw
    refine ⟨_, rfl, _, rfl, ⟨_, (SqL.of (S80.bM _ _ q_octets))⟩, for_list (K := K) (a := a_octets) (xs := (octets' : List Int).map V.int) (fun i σ H' => ∃ (found_83 : (List Int)) (zeros_84 : Int) (u85 : Option V) (G' : Hp), σ = [some (V.ref a_octets), some (V.ref p72), some (V.int zeros_84), u85] ∧ Same G G' ∧ Sep [] H G G' H' [p72] ∧ H' p72 = some (.lst ((found_83 : (List Int)).map V.int)) ∧ cW (forS (List.drop i (octets')) (found_83, zeros_84) (fun s x => F__law_unescape_b1  (s.1) (s.2) x)) K81 EE) ?_ ?_ ?_ ?_⟩
    · exact ⟨(([] : (List Int))), (0), _, _, rfl, (Same.refl _), S80, h78, hw⟩
    · intro i σ H86 _ hw
      obtain ⟨found_83, zeros_84, u85, G89, rfl, eG90, S87, h88, hw⟩ := hw
      exact (SqL.of (S87.bM _ _ q_octets))
    · intro i x σ H91 hj hw
      obtain ⟨found_83, zeros_84, u85, G94, rfl, eG95, S92, h93, hw⟩ := hw
      obtain ⟨x96, hx, rfl⟩ := map_get hj
      have hw := cW_forS hx hw
      have hw : cW (F__law_unescape_b1  (found_83) (zeros_84) (x96)) _ EE := hw
      unfold F__law_unescape_b1 at hw
      obtain ⟨K99, hK100, hw⟩ := cW_name hw
      refine ⟨_, rfl, _, _, rfl, rfl, _, rfl, ?_⟩
      refine iteD (fun c102 => ?_) (fun c102 => ?_)
      · have hw := cW_pos c102 hw
        refine ⟨_, rfl, _, _, rfl, rfl, _, rfl, ?_⟩
        refine iteD (fun c103 => ?_) (fun c103 => ?_)
        · have hw := cW_pos c103 hw
          have hw := cW_ok hw
          have hw := hK100 _ hw
          exact ⟨(found_83), (0), _, _, rfl, eG95, S92, h93, hw⟩
        · have hw := cW_neg c103 hw
          obtain ⟨g104, hw⟩ := cW_grd hw
          refine ⟨_, rfl, (.inl ⟨rfl, _, SqL.of h93⟩), _, rfl, _, _, _, rfl, rfl, h93, (app_lenM g104), ?_⟩
          generalize g105 : upd H91 p72 _ = H106
          obtain ⟨x107, h108⟩ := gen_mut g105
          have h109 : H106 p72 = some (.lst (((found_83) ++ [x96] : (List Int)).map V.int)) := snoc_map h108
          have S110 := S92.mut1 x107 (.head _) h109
          have hw := cW_bnd hw
          refine ⟨_, rfl, _, _, rfl, rfl, _, rfl, _, _, rfl, rfl, .inr ⟨_, rfl, ?_⟩⟩
          obtain ⟨g112, hw⟩ := cW_grd hw
          refine ⟨_, _, rfl, rfl, g112, ?_⟩
          have hw := cW_bnd hw
          have hw := cW_ok hw
          have hw := hK100 _ hw
          exact ⟨((found_83) ++ [x96]), (((zeros_84 + 1) * (if decide ((x96 : Int) = 0) = true then 1 else 0))), _, _, rfl, eG95, S110, h109, hw⟩
      · have hw := cW_neg c102 hw
        refine iteF ?_
        obtain ⟨g114, hw⟩ := cW_grd hw
        refine ⟨_, rfl, (.inl ⟨rfl, _, SqL.of h93⟩), _, rfl, _, _, _, rfl, rfl, h93, (app_lenM g114), ?_⟩
        generalize g115 : upd H91 p72 _ = H116
        obtain ⟨x117, h118⟩ := gen_mut g115
        have h119 : H116 p72 = some (.lst (((found_83) ++ [x96] : (List Int)).map V.int)) := snoc_map h118
        have S120 := S92.mut1 x117 (.head _) h119
        have hw := cW_bnd hw
        refine ⟨_, rfl, _, _, rfl, rfl, _, rfl, _, _, rfl, rfl, .inr ⟨_, rfl, ?_⟩⟩
        obtain ⟨g122, hw⟩ := cW_grd hw
        refine ⟨_, _, rfl, rfl, g122, ?_⟩
        have hw := cW_bnd hw
        have hw := cW_ok hw
        have hw := hK100 _ hw
        exact ⟨((found_83) ++ [x96]), (((zeros_84 + 1) * (if decide ((x96 : Int) = 0) = true then 1 else 0))), _, _, rfl, eG95, S120, h119, hw⟩
    · intro σ H124 hw
      obtain ⟨found_83, zeros_84, u85, G127, rfl, eG128, S125, h126, hw⟩ := hw
      have hw := hK82 _ (cW_forS0 (by rw [List.length_map]) hw)
      have hw : cW (F__law_unescape_r1  (found_83) (zeros_84)) _ EE := hw
      unfold F__law_unescape_r1 at hw
      refine ⟨_, rfl, ?_⟩
      have hw := cW_ok hw
      exact hK0 _ hw _ _ fr79 S125.b0 h126

abbrev N__law_raw : List Str := ["raw", "size", "k", "payload"]
theorem sc__law_raw : FnScope N__law_raw ["raw"] (defScope s__law_raw) := ⟨rfl, rfl, rfl, by decide +kernel, rfl, by decide +kernel, by decide +kernel⟩
theorem ok__law_raw (D : DefX K mg "_law_raw" s__law_raw ["raw"] pats__law_raw) (T : Txt w K mg AD) (c__law_unescape : CalX P w K mg base 1 "_law_unescape" (sp__law_unescape K AD) pats__law_unescape) : CalX P w K mg base 2 "_law_raw" (sp__law_raw K AD) pats__law_raw := by
  refine D.ok sc__law_raw (fun vs H Q E h => ?_) (fun f cdv A_ outer s H vs Q E hr h => ?_)
  · obtain ⟨G, a_raw, raw', rfl, _⟩ := h
    rfl
  · obtain ⟨G, a_raw, raw', rfl, sG, q_raw, hw⟩ := h
    refine ⟨_, (pss_cons (ps_set (i := 1) sc__law_raw.nd rfl (Or.inl rfl) (pe_callB (call_lenLiK (K := K)) (by rfl) T.b_len (by decide +kernel) (pa_cons (pv 0) pa_nil)))
      (pss_cons (ps_for (passes_of rfl) rfl (pi_range1 rfl T.b_range (pa_cons (pe_callB (call_lenLiK (K := K)) (by rfl) T.b_len (by decide +kernel) (pa_cons (pv 0) pa_nil)) pa_nil)) (pg_name (i := 2) sc__law_raw.nd rfl (Or.inl rfl)) (pss_one (ps_if (PW.pt (pw_and (pt_cmp (pc_gt (pv 1) pe_int)) (pw_and1 (pt_cmp (pc_eqI (pe_ix (ix_listK (K := K)) (pv 0) (pe_op op_sub (pv 1) pe_int) (fun _ _ => rfl)) pe_int))))) (pss_one (ps_set (i := 1) sc__law_raw.nd rfl (Or.inl rfl) (pe_op op_sub (pv 1) pe_int))) pss_nil)))
      (pss_cons (ps_if (PW.pt (pw_or (pt_cmp (pc_lt (pv 1) pe_int)) (pw_or (pt_not (pt_chain op_le op_le pe_int (pe_ix (ix_listK (K := K)) (pv 0) pe_int (fun _ _ => rfl)) pe_int)) (pw_or1 (pt_cmp (pc_neI (pe_ix (ix_listK (K := K)) (pv 0) (pe_op op_sub (pv 1) pe_int) (fun _ _ => rfl)) pe_int)))))) (pss_one (ps_ret (pe_tup (pa_cons pe_int (pa_cons (pe_lst pa_nil) pa_nil))))) pss_nil)
      (pss_cons (ps_set (i := 3) sc__law_raw.nd rfl (Or.inl rfl) (vx_callX c__law_unescape pat__law_unescape_0 (.head _) hr (by decide) (takes_of rfl rfl rfl rfl) rfl (pa_cons (pe_slice (sl_listK (K := K)) (pv 0) (po_some pe_int) (po_some (pe_op op_sub (pv 1) pe_int))) pa_nil) pk_nil))
      (pss_cons (ps_if (pt_cmp (pc_gt (pe_callB (call_lenLiK (K := K)) (by rfl) T.b_len (by decide +kernel) (pa_cons (pv 3) pa_nil)) pe_int)) (pss_one (ps_ret (pe_tup (pa_cons pe_int (pa_cons (pe_lst pa_nil) pa_nil))))) pss_nil)
      (pss_one (ps_ret (pe_tup (pa_cons (pe_ix (ix_listK (K := K)) (pv 0) pe_int (fun _ _ => rfl)) (pa_cons (pv 3) pa_nil)))))))))), ?_⟩
    obtain ⟨KK, EE, hK0, hE, hw⟩ := cW_gen hw
    have S0 := Sep.startG sG
    unfold F__law_raw at hw
    refine ⟨_, rfl, _, _, rfl, (SqL.of (S0.bM _ _ q_raw)), ?_⟩
    have hw := cW_bnd hw
    obtain ⟨g132, hw⟩ := cW_grd hw
    obtain ⟨K135, hK136, hw⟩ := cW_push hw
    refine ⟨_, rfl, _, _, rfl, (SqL.of (S0.bM _ _ q_raw)), _, rfl, g132.1, g132.2, for_range (lo := 0) (n := Int.toNat ((((raw') : (List Int)).length : Int))) (fun i σ H' => ∃ (size_137 : Int) (u138 : Option V) (G' : Hp), σ = [some (V.ref a_raw), some (V.int size_137), u138, none] ∧ Same G G' ∧ Sep [] H G G' H' [] ∧ cW (forS (List.drop i (rng (0) (Int.toNat ((((raw') : (List Int)).length : Int))))) size_137 (fun s x => F__law_raw_b1 (raw') s x)) K135 EE) ?_ ?_ ?_⟩
    · exact ⟨((((raw') : (List Int)).length : Int)), _, _, rfl, (Same.refl _), S0, hw⟩
    · intro i σ H139 hi hw
      obtain ⟨size_137, u138, G141, rfl, eG142, S140, hw⟩ := hw
      have hw := cW_forS (rng_get hi) hw
      generalize (0 + (i : Int)) = x143 at hw ⊢
      have hw : cW (F__law_raw_b1 (raw') (size_137) (x143)) _ EE := hw
      unfold F__law_raw_b1 at hw
      obtain ⟨K145, hK146, hw⟩ := cW_name hw
      refine ⟨_, rfl, _, _, rfl, rfl, _, rfl, ?_⟩
      refine iteD (fun c148 => ?_) (fun c148 => ?_)
      · have hw := cW_pos c148 hw
        obtain ⟨g149, hw⟩ := cW_grd hw
        refine ⟨_, rfl, _, rfl, _, _, rfl, rfl, _, _, _, _, rfl, rfl, (SqL.of (S140.bM _ _ q_raw)), (atI_map g149), _, _, rfl, rfl, _, rfl, ?_⟩
        refine iteD (fun c150 => ?_) (fun c150 => ?_)
        · have hw := cW_pos c150 hw
          refine ⟨_, rfl, _, _, rfl, rfl, ?_⟩
          have hw := cW_bnd hw
          have hw := cW_ok hw
          have hw := hK146 _ hw
          exact ⟨((size_137 - 1)), _, _, rfl, eG142, S140, hw⟩
        · have hw := cW_neg c150 hw
          have hw := cW_ok hw
          have hw := hK146 _ hw
          exact ⟨(size_137), _, _, rfl, eG142, S140, hw⟩
      · have hw := cW_neg c148 hw
        refine iteF ?_
        have hw := cW_ok hw
        have hw := hK146 _ hw
        exact ⟨(size_137), _, _, rfl, eG142, S140, hw⟩
    · intro σ H152 hw
      obtain ⟨size_137, u138, G154, rfl, eG155, S153, hw⟩ := hw
      have hw := hK136 _ (cW_forS0 (rng_len _ _).symm hw)
      have hw : cW (F__law_raw_r1 (raw') (size_137)) _ EE := hw
      unfold F__law_raw_r1 at hw
      refine ⟨_, rfl, _, _, rfl, rfl, _, rfl, ?_⟩
      refine iteD (fun c157 => ?_) (fun c157 => ?_)
      · have hw := cW_pos c157 hw
        refine iteT ?_
        refine ⟨(by show 0 ≤ sizeLine; decide), fun p158 n159 => ?_⟩
        generalize g160 : upd H152 p158 _ = H161
        obtain ⟨e162, h163⟩ := gen_new n159 g160
        have h164 : H161 p158 = some (.lst ((([] : (List Int)) : (List Int)).map V.int)) := h163
        have fr165 := S153.free n159
        have S166 := S153.new n159 e162 h164 fr165
        refine ⟨(by show 2 ≤ sizeLine; decide), fun p167 n168 => ?_⟩
        generalize g169 : upd H161 p167 _ = H170
        obtain ⟨e171, h172⟩ := gen_new n168 g169
        have h173 : H170 p167 = some (.tup [V.int (0), V.ref p158]) := h172
        have fr174 := S166.free n168
        obtain ⟨G176, eG177, hg178, S175⟩ := S166.grow n168 e171 h173 fr174
        have h179 := (e171 _ _ h164)
        obtain ⟨G180, eG181, hg182, S183⟩ := Sep.freeze (O' := []) S175 (.head _) h179 fr165 (all_nil)
        have hw := cW_ok hw
        exact hK0 _ hw _ _ _ S183.b0 S183.g0 S183.sG S183.gn (rp_mk2 (eG181 _ _ hg178) (.int _) (rp_mk_ints hg182))
      · have hw := cW_neg c157 hw
        obtain ⟨g184, hw⟩ := cW_grd hw
        refine ⟨_, rfl, _, _, _, _, rfl, rfl, (SqL.of (S153.bM _ _ q_raw)), (atI_map g184), _, _, rfl, rfl, _, rfl, ?_⟩
        refine iteD (fun c185 => ?_) (fun c185 => ?_)
        · have hw := cW_pos c185 hw
          refine ⟨_, _, rfl, rfl, _, rfl, ?_⟩
          refine iteN (fun c186 => ?_) (fun c186 => ?_)
          · have hw := cW_neg c186 hw
            refine iteT ?_
            refine ⟨(by show 0 ≤ sizeLine; decide), fun p187 n188 => ?_⟩
            generalize g189 : upd H152 p187 _ = H190
            obtain ⟨e191, h192⟩ := gen_new n188 g189
            have h193 : H190 p187 = some (.lst ((([] : (List Int)) : (List Int)).map V.int)) := h192
            have fr194 := S153.free n188
            have S195 := S153.new n188 e191 h193 fr194
            refine ⟨(by show 2 ≤ sizeLine; decide), fun p196 n197 => ?_⟩
            generalize g198 : upd H190 p196 _ = H199
            obtain ⟨e200, h201⟩ := gen_new n197 g198
            have h202 : H199 p196 = some (.tup [V.int (0), V.ref p187]) := h201
            have fr203 := S195.free n197
            obtain ⟨G205, eG206, hg207, S204⟩ := S195.grow n197 e200 h202 fr203
            have h208 := (e200 _ _ h193)
            obtain ⟨G209, eG210, hg211, S212⟩ := Sep.freeze (O' := []) S204 (.head _) h208 fr194 (all_nil)
            have hw := cW_ok hw
            exact hK0 _ hw _ _ _ S212.b0 S212.g0 S212.sG S212.gn (rp_mk2 (eG210 _ _ hg207) (.int _) (rp_mk_ints hg211))
          · have hw := cW_pos c186 hw
            obtain ⟨g213, hw⟩ := cW_grd hw
            refine ⟨_, rfl, _, rfl, _, _, rfl, rfl, _, _, _, _, rfl, rfl, (SqL.of (S153.bM _ _ q_raw)), (atI_map g213), _, _, rfl, rfl, _, rfl, ?_⟩
            refine iteN (fun c214 => ?_) (fun c214 => ?_)
            · have hw := cW_neg c214 hw
              refine ⟨(by show 0 ≤ sizeLine; decide), fun p215 n216 => ?_⟩
              generalize g217 : upd H152 p215 _ = H218
              obtain ⟨e219, h220⟩ := gen_new n216 g217
              have h221 : H218 p215 = some (.lst ((([] : (List Int)) : (List Int)).map V.int)) := h220
              have fr222 := S153.free n216
              have S223 := S153.new n216 e219 h221 fr222
              refine ⟨(by show 2 ≤ sizeLine; decide), fun p224 n225 => ?_⟩
              generalize g226 : upd H218 p224 _ = H227
              obtain ⟨e228, h229⟩ := gen_new n225 g226
              have h230 : H227 p224 = some (.tup [V.int (0), V.ref p215]) := h229
              have fr231 := S223.free n225
              obtain ⟨G233, eG234, hg235, S232⟩ := S223.grow n225 e228 h230 fr231
              have h236 := (e228 _ _ h221)
              obtain ⟨G237, eG238, hg239, S240⟩ := Sep.freeze (O' := []) S232 (.head _) h236 fr222 (all_nil)
              have hw := cW_ok hw
              exact hK0 _ hw _ _ _ S240.b0 S240.g0 S240.sG S240.gn (rp_mk2 (eG238 _ _ hg235) (.int _) (rp_mk_ints hg239))
            · have hw := cW_pos c214 hw
              refine ⟨_, rfl, _, rfl, _, rfl, _, _, rfl, rfl, _, rfl, _, _, rfl, (SqL.of (S153.bM _ _ q_raw)), fun p241 n242 => ?_⟩
              generalize g243 : upd H152 p241 _ = H244
              obtain ⟨e245, h246⟩ := gen_new n242 g243
              have h247 : H244 p241 = some (.lst ((cutL (raw') (some (1)) (some ((size_137 - 1))) : (List Int)).map V.int)) := cut_map h246
              have fr248 := S153.free n242
              have S249 := S153.new n242 e245 h247 fr248
              refine ⟨rfl, rfl, G154, _, _, rfl, S249.sG, (hide_nil h247), cW_call hw (fun v250 hw p253 H251 n254 e252 h255 => ?_) (fun e he H2 e2 => hE e he H2 (Same.trans S249.b0 e2))⟩
              have h256 : H251 p253 = some (.lst ((v250 : (List Int)).map V.int)) := h255
              have fr257 := S249.free n254
              have S258 := S249.new n254 e252 h256 fr257
              refine ⟨_, rfl, _, _, rfl, (SqL.of h256), _, _, rfl, rfl, _, rfl, ?_⟩
              refine iteD (fun c259 => ?_) (fun c259 => ?_)
              · have hw := cW_pos c259 hw
                refine ⟨(by show 0 ≤ sizeLine; decide), fun p260 n261 => ?_⟩
                generalize g262 : upd H251 p260 _ = H263
                obtain ⟨e264, h265⟩ := gen_new n261 g262
                have h266 : H263 p260 = some (.lst ((([] : (List Int)) : (List Int)).map V.int)) := h265
                have fr267 := S258.free n261
                have S268 := S258.new n261 e264 h266 fr267
                refine ⟨(by show 2 ≤ sizeLine; decide), fun p269 n270 => ?_⟩
                generalize g271 : upd H263 p269 _ = H272
                obtain ⟨e273, h274⟩ := gen_new n270 g271
                have h275 : H272 p269 = some (.tup [V.int (0), V.ref p260]) := h274
                have fr276 := S268.free n270
                obtain ⟨G278, eG279, hg280, S277⟩ := S268.grow n270 e273 h275 fr276
                have h281 := (e273 _ _ h266)
                obtain ⟨G282, eG283, hg284, S285⟩ := Sep.freeze (O' := [p253, p241]) S277 (.head _) h281 fr267 ((all_cons ⟨(.tail _ (.head _)), (ne_of_none h256 n261)⟩ (all_cons ⟨(.tail _ (.tail _ (.head _))), (ne_of_none (e252 _ _ h247) n261)⟩ all_nil)))
                have hw := cW_ok hw
                exact hK0 _ hw _ _ _ S285.b0 S285.g0 S285.sG S285.gn (rp_mk2 (eG283 _ _ hg280) (.int _) (rp_mk_ints hg284))
              · have hw := cW_neg c259 hw
                obtain ⟨g286, hw⟩ := cW_grd hw
                refine ⟨_, rfl, _, _, _, _, rfl, rfl, (SqL.of (S258.bM _ _ q_raw)), (atI_map g286), _, rfl, (by show 2 ≤ sizeLine; decide), fun p287 n288 => ?_⟩
                generalize g289 : upd H251 p287 _ = H290
                obtain ⟨e291, h292⟩ := gen_new n288 g289
                have h293 : H290 p287 = some (.tup [V.int ((itD (raw') (0))), V.ref p253]) := h292
                have fr294 := S258.free n288
                obtain ⟨G296, eG297, hg298, S295⟩ := S258.grow n288 e291 h293 fr294
                have h299 := (e291 _ _ h256)
                obtain ⟨G300, eG301, hg302, S303⟩ := Sep.freeze (O' := [p241]) S295 (.head _) h299 fr257 ((all_cons ⟨(.tail _ (.head _)), (ne_of_none h247 n254)⟩ all_nil))
                have hw := cW_ok hw
                exact hK0 _ hw _ _ _ S303.b0 S303.g0 S303.sG S303.gn (rp_mk2 (eG301 _ _ hg298) (.int _) (rp_mk_ints hg302))
        · have hw := cW_neg c185 hw
          refine ⟨_, rfl, ?_⟩
          refine iteT ?_
          refine iteT ?_
          refine ⟨(by show 0 ≤ sizeLine; decide), fun p304 n305 => ?_⟩
          generalize g306 : upd H152 p304 _ = H307
          obtain ⟨e308, h309⟩ := gen_new n305 g306
          have h310 : H307 p304 = some (.lst ((([] : (List Int)) : (List Int)).map V.int)) := h309
          have fr311 := S153.free n305
          have S312 := S153.new n305 e308 h310 fr311
          refine ⟨(by show 2 ≤ sizeLine; decide), fun p313 n314 => ?_⟩
          generalize g315 : upd H307 p313 _ = H316
          obtain ⟨e317, h318⟩ := gen_new n314 g315
          have h319 : H316 p313 = some (.tup [V.int (0), V.ref p304]) := h318
          have fr320 := S312.free n314
          obtain ⟨G322, eG323, hg324, S321⟩ := S312.grow n314 e317 h319 fr320
          have h325 := (e317 _ _ h310)
          obtain ⟨G326, eG327, hg328, S329⟩ := Sep.freeze (O' := []) S321 (.head _) h325 fr311 (all_nil)
          have hw := cW_ok hw
          exact hK0 _ hw _ _ _ S329.b0 S329.g0 S329.sG S329.gn (rp_mk2 (eG327 _ _ hg324) (.int _) (rp_mk_ints hg328))

abbrev N__law_read : List Str := ["octets", "starts", "found", "k", "end", "unit"]
theorem sc__law_read : FnScope N__law_read ["octets"] (defScope s__law_read) := ⟨rfl, rfl, rfl, by decide +kernel, rfl, by decide +kernel, by decide +kernel⟩
theorem ok__law_read (D : DefX K mg "_law_read" s__law_read ["octets"] pats__law_read) (T : Txt w K mg AD) (c__law_starts : CalX P w K mg base 1 "_law_starts" (sp__law_starts K AD) pats__law_starts) (c__law_raw : CalX P w K mg base 2 "_law_raw" (sp__law_raw K AD) pats__law_raw) : CalX P w K mg base 3 "_law_read" (sp__law_read K AD) pats__law_read := by
  refine D.ok sc__law_read (fun vs H Q E h => ?_) (fun f cdv A_ outer s H vs Q E hr h => ?_)
  · obtain ⟨G, a_octets, octets', rfl, _⟩ := h
    rfl
  · obtain ⟨G, a_octets, octets', rfl, sG, q_octets, hw⟩ := h
    refine ⟨_, (pss_cons (ps_set (i := 1) sc__law_read.nd rfl (Or.inl rfl) (vx_callX c__law_starts pat__law_starts_0 (.head _) hr (by decide) (takes_of rfl rfl rfl rfl) rfl (pa_cons (pv 0) pa_nil) pk_nil))
      (pss_cons (ps_set (i := 2) sc__law_read.nd rfl (Or.inl rfl) (pe_lst pa_nil))
      (pss_cons (ps_for (passes_of rfl) rfl (pi_range1 rfl T.b_range (pa_cons (pe_callB (call_lenLiK (K := K)) (by rfl) T.b_len (by decide +kernel) (pa_cons (pv 1) pa_nil)) pa_nil)) (pg_name (i := 3) sc__law_read.nd rfl (Or.inl rfl)) (pss_cons (ps_set (i := 4) sc__law_read.nd rfl (Or.inl rfl) (pe_ix (ix_listK (K := K)) (pe_op op_cat (pv 1) (pe_lst (pa_cons (pe_callB (call_lenLiK (K := K)) (by rfl) T.b_len (by decide +kernel) (pa_cons (pv 0) pa_nil)) pa_nil))) (pe_op op_add (pv 3) pe_int) (fun _ _ => rfl)))
      (pss_cons (ps_set (i := 5) sc__law_read.nd rfl (Or.inl rfl) (vx_callX c__law_raw pat__law_raw_0 (.head _) hr (by decide) (takes_of rfl rfl rfl rfl) rfl (pa_cons (pe_slice (sl_listK (K := K)) (pv 0) (po_some (pe_op op_add (pe_ix (ix_listK (K := K)) (pv 1) (pv 3) (fun _ _ => rfl)) pe_int)) (po_some (pv 4))) pa_nil) pk_nil))
      (pss_one (ps_expr (pe_bm PySem.F.plainAttrs_list PySem.F.slot_list_append PySem.F.type_list_append mt_append (pv 2) (pa_cons (pe_tup (pa_cons (pe_ix (ix_listK (K := K)) (pv 1) (pv 3) (fun _ _ => rfl)) (pa_cons (pe_ix (ix_tupK (K := K)) (pv 5) pe_int (fun _ _ => rfl)) (pa_cons (pe_ix (ix_tupK (K := K)) (pv 5) pe_int (fun _ _ => rfl)) pa_nil)))) pa_nil)))))))
      (pss_one (ps_ret (pv 2)))))), ?_⟩
    obtain ⟨KK, EE, hK0, hE, hw⟩ := cW_gen hw
    have S0 := Sep.startG sG
    unfold F__law_read at hw
    refine ⟨_, rfl, rfl, rfl, G, _, _, rfl, S0.sG, (hide_nil (S0.bM _ _ q_octets)), cW_call hw (fun v330 hw p333 H331 n334 e332 h335 => ?_) (fun e he H2 e2 => hE e he H2 (Same.trans S0.b0 e2))⟩
    have h336 : H331 p333 = some (.lst ((v330 : (List Int)).map V.int)) := h335
    have fr337 := S0.free n334
    have S338 := S0.new n334 e332 h336 fr337
    refine ⟨(by show 0 ≤ sizeLine; decide), fun p339 n340 => ?_⟩
    generalize g341 : upd H331 p339 _ = H342
    obtain ⟨e343, h344⟩ := gen_new n340 g341
    have h345 : H342 p339 = some (.lst ([])) := h344
    have fr346 := S338.free n340
    have S347 := S338.new n340 e343 h345 fr346
    have d348 : RpAll G ([]) ((([] : (List (Int × Int × (List Int)))) : (List (Int × Int × (List Int)))).map (encT3 PyData.int PyData.int (encL PyData.int))) := RpAll.nil
    have h349 := (e343 _ _ h336)
    obtain ⟨g350, hw⟩ := cW_grd hw
    obtain ⟨K353, hK354, hw⟩ := cW_push hw
    refine ⟨_, rfl, _, _, rfl, (SqL.of h349), _, rfl, g350.1, g350.2, for_range (lo := 0) (n := Int.toNat ((((v330) : (List Int)).length : Int))) (fun i σ H' => ∃ (found_355 : (List (Int × Int × (List Int)))) (vs356 : List V) (u357 : Option V) (u358 : Option V) (u359 : Option V) (G' : Hp), σ = [some (V.ref a_octets), some (V.ref p333), some (V.ref p339), u357, u358, u359] ∧ Same G G' ∧ Sep [] H G G' H' [p333, p339] ∧ H' p333 = some (.lst ((v330 : (List Int)).map V.int)) ∧ H' p339 = some (.lst (vs356)) ∧ RpAll G' (vs356) ((found_355 : (List (Int × Int × (List Int)))).map (encT3 PyData.int PyData.int (encL PyData.int))) ∧ cW (forS (List.drop i (rng (0) (Int.toNat ((((v330) : (List Int)).length : Int))))) found_355 (fun s x => F__law_read_b1 (octets') (v330) s x)) K353 EE) ?_ ?_ ?_⟩
    · exact ⟨(([] : (List (Int × Int × (List Int))))), _, _, _, _, _, rfl, (Same.refl _), (S347.sub (all_cons (.tail _ (.head _)) (all_cons (.head _) all_nil))), h349, h345, d348, hw⟩
    · intro i σ H360 hi hw
      obtain ⟨found_355, vs356, u357, u358, u359, G365, rfl, eG366, S361, h362, h363, d364, hw⟩ := hw
      have hw := cW_forS (rng_get hi) hw
      generalize (0 + (i : Int)) = x367 at hw ⊢
      have hw : cW (F__law_read_b1 (octets') (v330) (found_355) (x367)) _ EE := hw
      unfold F__law_read_b1 at hw
      obtain ⟨K369, hK370, hw⟩ := cW_name hw
      refine ⟨_, rfl, _, rfl, _, _, rfl, (SqL.of (S361.bM _ _ q_octets)), (by show 1 ≤ sizeLine; decide), fun p372 n373 => ?_⟩
      generalize g374 : upd H360 p372 _ = H375
      obtain ⟨e376, h377⟩ := gen_new n373 g374
      have h378 : H375 p372 = some (.lst (([(((octets') : (List Int)).length : Int)] : (List Int)).map V.int)) := h377
      have fr379 := S361.free n373
      have S380 := S361.new n373 e376 h378 fr379
      obtain ⟨g381, hw⟩ := cW_grd hw
      have h382 := (e376 _ _ h362)
      refine ⟨_, _, _, _, rfl, rfl, h382, h378, (cat_lenM g381), fun p383 n384 => ?_⟩
      generalize g385 : upd H375 p383 _ = H386
      obtain ⟨e387, h388⟩ := gen_new n384 g385
      have h389 : H386 p383 = some (.lst (((v330) ++ ([(((octets') : (List Int)).length : Int)]) : (List Int)).map V.int)) := cat_map h388
      have fr390 := S380.free n384
      have S391 := S380.new n384 e387 h389 fr390
      obtain ⟨g392, hw⟩ := cW_grd hw
      refine ⟨_, rfl, _, _, rfl, rfl, _, _, _, _, rfl, rfl, (SqL.of h389), (atI_map g392), ?_⟩
      have hw := cW_bnd hw
      obtain ⟨g394, hw⟩ := cW_grd hw
      have h395 := (e387 _ _ h382)
      refine ⟨_, rfl, _, rfl, _, rfl, _, _, _, _, rfl, rfl, (SqL.of h395), (atI_map g394), _, _, rfl, rfl, _, rfl, _, rfl, _, rfl, _, _, rfl, (SqL.of (S391.bM _ _ q_octets)), fun p396 n397 => ?_⟩
      generalize g398 : upd H386 p396 _ = H399
      obtain ⟨e400, h401⟩ := gen_new n397 g398
      have h402 : H399 p396 = some (.lst ((cutL (octets') (some (((itD (v330) (x367)) + 3))) (some ((itD ((v330) ++ ([(((octets') : (List Int)).length : Int)])) ((x367 + 1))))) : (List Int)).map V.int)) := cut_map h401
      have fr403 := S391.free n397
      have S404 := S391.new n397 e400 h402 fr403
      refine ⟨rfl, rfl, G365, _, _, rfl, S404.sG, (hide_nil h402), cW_call hw (fun v405 hw v408 H406 G409 e407 eG410 sG411 hn412 r413 => ?_) (fun e he H2 e2 => hE e he H2 (Same.trans S404.b0 e2))⟩
      have S414 := S404.step e407 eG410 sG411 hn412
      obtain ⟨a415, v417, v418, rfl, h416, r419, r420⟩ := rp_tup2 r413
      obtain rfl := rp_int r419
      obtain ⟨a421, rfl, h422⟩ := rp_ints r420
      have h423 := (e407 _ _ (e400 _ _ (e387 _ _ (e376 _ _ h363))))
      obtain ⟨g424, hw⟩ := cW_grd hw
      have h425 := (e407 _ _ (e400 _ _ h395))
      refine ⟨_, rfl, (.inl ⟨rfl, _, SqL.of h423⟩), _, rfl, _, rfl, _, _, _, _, rfl, rfl, (SqL.of h425), (atI_map g424), _, rfl, _, _, _, _, rfl, rfl, (SqT.of (S414.sG _ _ h416)), rfl, _, rfl, _, _, _, _, rfl, rfl, (SqT.of (S414.sG _ _ h416)), rfl, (by show 3 ≤ sizeLine; decide), fun p426 n427 => ?_⟩
      generalize g428 : upd H406 p426 _ = H429
      obtain ⟨e430, h431⟩ := gen_new n427 g428
      have h432 : H429 p426 = some (.tup [V.int ((itD (v330) (x367))), V.int (v405.1), V.ref a421]) := h431
      have fr433 := S414.free n427
      obtain ⟨G435, eG436, hg437, S434⟩ := S414.grow n427 e430 h432 fr433
      obtain ⟨g438, hw⟩ := cW_grd hw
      have h439 := (e430 _ _ h423)
      refine ⟨_, _, _, rfl, rfl, h439, (app_len (RpAll.mono eG436 (RpAll.mono eG410 d364)) g438), ?_⟩
      generalize g440 : upd H429 p339 _ = H441
      obtain ⟨x442, h443⟩ := gen_mut g440
      have h444 : H441 p339 = some (.lst (vs356 ++ [V.ref p426])) := h443
      have S445 := S434.mut1 x442 (.tail _ (.tail _ (.tail _ (.tail _ (.head _))))) h444
      have d446 : RpAll G435 (vs356 ++ [V.ref p426]) (((found_355) ++ [((itD (v330) (x367)), v405.1, v405.2)] : (List (Int × Int × (List Int)))).map (encT3 PyData.int PyData.int (encL PyData.int))) := app_map (RpAll.mono eG436 (RpAll.mono eG410 d364)) (RpAll.one (rp_mk3 hg437 (.int _) (.int _) (rp_mk_ints (eG436 _ _ h422))))
      have hw := cW_bnd hw
      have hw := cW_ok hw
      have hw := hK370 _ hw
      have h448 := (x442 _ _ (e430 _ _ h425) (ne_of_none h336 n340))
      exact ⟨((found_355) ++ [((itD (v330) (x367)), v405.1, v405.2)]), _, _, _, _, _, rfl, (Same.trans (Same.trans eG366 eG410) eG436), (S445.sub (all_cons (.tail _ (.tail _ (.tail _ (.head _)))) (all_cons (.tail _ (.tail _ (.tail _ (.tail _ (.head _))))) all_nil))), h448, h444, d446, hw⟩
    · intro σ H449 hw
      obtain ⟨found_355, vs356, u357, u358, u359, G454, rfl, eG455, S450, h451, h452, d453, hw⟩ := hw
      have hw := hK354 _ (cW_forS0 (rng_len _ _).symm hw)
      have hw : cW (F__law_read_r1  (found_355)) _ EE := hw
      unfold F__law_read_r1 at hw
      refine ⟨_, rfl, ?_⟩
      have hw := cW_ok hw
      exact hK0 _ hw _ _ _ _ fr346 S450.b0 S450.g0 S450.sG S450.gn (S450.ow _ (.tail _ (.head _))).1 h452 d453

abbrev N__law_cell : List Str := ["script", "k"]
theorem sc__law_cell : FnScope N__law_cell ["script", "k"] (defScope s__law_cell) := ⟨rfl, rfl, rfl, by decide +kernel, rfl, by decide +kernel, by decide +kernel⟩
theorem ok__law_cell (D : DefX K mg "_law_cell" s__law_cell ["script", "k"] pats__law_cell) (T : Txt w K mg AD)  : CalX P w K mg base 1 "_law_cell" (sp__law_cell K AD) pats__law_cell := by
  refine D.ok sc__law_cell (fun vs H Q E h => ?_) (fun f cdv A_ outer s H vs Q E hr h => ?_)
  · obtain ⟨G, a_script, script', k', rfl, _⟩ := h
    rfl
  · obtain ⟨G, a_script, script', k', rfl, sG, q_script, hw⟩ := h
    refine ⟨_, (pss_cons (ps_if (pt_cmp (pc_lt (pv 1) (pe_callB (call_lenLiK (K := K)) (by rfl) T.b_len (by decide +kernel) (pa_cons (pv 0) pa_nil)))) (pss_one (ps_ret (pe_callTy call_int1 (by rfl) T.b_int (by decide +kernel) (pa_cons (pe_ix (ix_listK (K := K)) (pv 0) (pv 1) (fun _ _ => rfl)) pa_nil)))) pss_nil)
      (pss_one (ps_ret pe_int))), ?_⟩
    obtain ⟨KK, EE, hK0, hE, hw⟩ := cW_gen hw
    have S0 := Sep.startG sG
    unfold F__law_cell at hw
    refine ⟨_, rfl, _, rfl, _, _, rfl, (S0.b0.seq q_script), _, _, rfl, rfl, _, rfl, ?_⟩
    refine iteD (fun c457 => ?_) (fun c457 => ?_)
    · have hw := cW_pos c457 hw
      obtain ⟨g458, hw⟩ := cW_grd hw
      refine ⟨_, rfl, _, rfl, _, _, _, _, rfl, rfl, (S0.b0.seq q_script), (atI_map g458), .inl ⟨_, rfl, ?_⟩⟩
      have hw := cW_ok hw
      exact hK0 _ hw
    · have hw := cW_neg c457 hw
      have hw := cW_ok hw
      exact hK0 _ hw

abbrev N__starts : List Str := ["octets", "index"]
theorem sc__starts : FnScope N__starts ["octets"] (defScope s__starts) := ⟨rfl, rfl, rfl, by decide +kernel, rfl, by decide +kernel, by decide +kernel⟩
theorem ok__starts (D : DefX K mg "_starts" s__starts ["octets"] pats__starts) (T : Txt w K mg AD)  : CalX P w K mg base 1 "_starts" (sp__starts K AD) pats__starts := by
  refine D.ok sc__starts (fun vs H Q E h => ?_) (fun f cdv A_ outer s H vs Q E hr h => ?_)
  · obtain ⟨G, a_octets, octets', rfl, _⟩ := h
    rfl
  · obtain ⟨G, a_octets, octets', rfl, sG, q_octets, hw⟩ := h
    refine ⟨_, (pss_one (ps_ret (pe_lc (own := [("index", 1)]) (g := gName 1) (by rfl) sc__starts.nd (pi_range1 rfl T.b_range (pa_cons (pe_op op_sub (pe_callB (call_lenLiK (K := K)) (by rfl) T.b_len (by decide +kernel) (pa_cons (pv 0) pa_nil)) pe_int) pa_nil)) (blkOk_by (own := [("index", 1)]) (N := N__starts) (sc := defScope s__starts) (by decide +kernel)) (fun _ _ _ _ _ => (pg_name (i := 1) sc__starts.nd rfl (Or.inl rfl))) (fun _ _ _ _ _ => pts_one (PW.pt (pw_and (pt_cmp (pc_eqI (pe_ix (ix_listK (K := K)) (pv 0) (pv 1) (fun _ _ => rfl)) pe_int)) (pw_and (pt_cmp (pc_eqI (pe_ix (ix_listK (K := K)) (pv 0) (pe_op op_add (pv 1) pe_int) (fun _ _ => rfl)) pe_int)) (pw_and1 (pt_cmp (pc_eqI (pe_ix (ix_listK (K := K)) (pv 0) (pe_op op_add (pv 1) pe_int) (fun _ _ => rfl)) pe_int))))))) (fun _ _ _ _ _ => (pv 1))))), ?_⟩
    obtain ⟨KK, EE, hK0, hE, hw⟩ := cW_gen hw
    have S0 := Sep.startG sG
    unfold F__starts at hw
    obtain ⟨g459, hw⟩ := cW_grd hw
    obtain ⟨K462, hK463, hw⟩ := cW_push hw
    refine ⟨_, rfl, _, _, rfl, (SqL.of (S0.bM _ _ q_octets)), _, _, rfl, rfl, _, rfl, g459.1, g459.2, fun D464 n465 => lc_range (lo := 0) (n := Int.toNat (((((octets') : (List Int)).length : Int) - 2))) (fun i1 H' => ∃ (G' : Hp) (acc467 : (List Int)), Same G G' ∧ Sep [] H G G' H' [D464] ∧ H' D464 = some (.lst ((acc467 : (List Int)).map V.int)) ∧ Same H H' ∧ cW (mapF (List.drop i1 (rng (0) (Int.toNat (((((octets') : (List Int)).length : Int) - 2))))) acc467 (fun x => noEr (F__starts_c1 (octets') x))) K462 EE) ?_ ?_ ?_⟩
    · generalize g469 : upd H D464 _ = H470
      obtain ⟨e471, h472⟩ := gen_new n465 g469
      have fr473 := S0.free n465
      have S474 := S0.new n465 e471 h472 fr473
      exact ⟨_, [], Same.refl _, S474, h472, e471, hw⟩
    · intro i1 H475 hi hw
      obtain ⟨G478, acc480, eG479, S476, h477, eo486, hw⟩ := hw
      obtain ⟨z487, hw⟩ := cW_mapF (rng_get hi) hw
      generalize (0 + (i1 : Int)) = x488 at hw ⊢
      have hw := cW_noEr hw
      have hw : cW (F__starts_c1 (octets') (x488)) _ (fun _ => False) := hw
      unfold F__starts_c1 at hw
      refine ⟨rfl, ?_⟩
      obtain ⟨g490, hw⟩ := cW_grd hw
      refine ⟨_, rfl, _, rfl, _, _, _, _, rfl, rfl, (SqL.of (S476.bM _ _ q_octets)), (atI_map g490), _, _, rfl, rfl, _, rfl, ?_⟩
      refine iteD (fun c491 => ?_) (fun c491 => ?_)
      · have hw := cW_pos c491 hw
        obtain ⟨g492, hw⟩ := cW_grd hw
        refine ⟨_, rfl, _, rfl, _, _, rfl, rfl, _, _, _, _, rfl, rfl, (SqL.of (S476.bM _ _ q_octets)), (atI_map g492), _, _, rfl, rfl, _, rfl, ?_⟩
        refine iteD (fun c493 => ?_) (fun c493 => ?_)
        · have hw := cW_pos c493 hw
          obtain ⟨g494, hw⟩ := cW_grd hw
          refine ⟨_, rfl, _, rfl, _, _, rfl, rfl, _, _, _, _, rfl, rfl, (SqL.of (S476.bM _ _ q_octets)), (atI_map g494), _, _, rfl, rfl, _, rfl, ?_⟩
          refine iteD (fun c495 => ?_) (fun c495 => ?_)
          · have hw := cW_pos c495 hw
            refine ⟨_, rfl, _, h477, (app_lenM z487), ?_⟩
            generalize g496 : upd H475 D464 _ = H497
            obtain ⟨x498, h499⟩ := gen_mut g496
            have S500 := S476.mut1 x498 (.head _) h499
            have hw := cW_ok hw
            exact ⟨_, (acc480 ++ [x488]), eG479, S500, (snoc_map h499), (same_mut eo486 x498 n465), hw⟩
          · have hw := cW_neg c495 hw
            have hw := cW_ok hw
            exact ⟨_, acc480, eG479, S476, h477, eo486, hw⟩
        · have hw := cW_neg c493 hw
          refine iteF ?_
          have hw := cW_ok hw
          exact ⟨_, acc480, eG479, S476, h477, eo486, hw⟩
      · have hw := cW_neg c491 hw
        refine iteF ?_
        have hw := cW_ok hw
        exact ⟨_, acc480, eG479, S476, h477, eo486, hw⟩
    intro H501 hw
    obtain ⟨G504, acc506, eG505, S502, h503, eo512, hw⟩ := hw
    have hw := hK463 _ (cW_mapF0 (rng_len _ _).symm hw)
    have fr513 := S0.free n465
    have hw := cW_ok hw
    exact hK0 _ hw _ _ fr513 S502.b0 h503

abbrev N_unescape : List Str := ["octets", "kept", "zeros", "octet"]
theorem sc_unescape : FnScope N_unescape ["octets"] (defScope s_unescape) := ⟨rfl, rfl, rfl, by decide +kernel, rfl, by decide +kernel, by decide +kernel⟩
theorem ok_unescape (D : DefX K mg "unescape" s_unescape ["octets"] pats_unescape) (T : Txt w K mg AD)  : CalX P w K mg base 1 "unescape" (sp_unescape K AD) pats_unescape := by
  refine D.ok sc_unescape (fun vs H Q E h => ?_) (fun f cdv A_ outer s H vs Q E hr h => ?_)
  · obtain ⟨G, a_octets, octets', rfl, _⟩ := h
    rfl
  · obtain ⟨G, a_octets, octets', rfl, sG, q_octets, hw⟩ := h
    refine ⟨_, (pss_cons (ps_set (i := 1) sc_unescape.nd rfl (Or.inl rfl) (pe_lst pa_nil))
      (pss_cons (ps_set (i := 2) sc_unescape.nd rfl (Or.inl rfl) pe_int)
      (pss_cons (ps_for (passes_of rfl) rfl (pi_listK (K := K) (pv 0)) (pg_name (i := 3) sc_unescape.nd rfl (Or.inl rfl)) (pss_one (ps_if (PW.pt (pw_and (pt_cmp (pc_ge (pv 2) pe_int)) (pw_and1 (pt_cmp (pc_eqI (pv 3) (C8.pe_gc rfl T.g_ESCAPE)))))) (pss_one (ps_set (i := 2) sc_unescape.nd rfl (Or.inl rfl) pe_int)) (pss_cons (ps_expr (pe_bm PySem.F.plainAttrs_list PySem.F.slot_list_append PySem.F.type_list_append mt_append (pv 1) (pa_cons (pv 3) pa_nil)))
      (pss_one (ps_set (i := 2) sc_unescape.nd rfl (Or.inl rfl) (pe_ifExp (pt_cmp (pc_eqI (pv 3) pe_int)) (pe_op op_add (pv 2) pe_int) pe_int)))))))
      (pss_one (ps_ret (pv 1)))))), ?_⟩
    obtain ⟨KK, EE, hK0, hE, hw⟩ := cW_gen hw
    have S0 := Sep.startG sG
    unfold F_unescape at hw
    refine ⟨(by show 0 ≤ sizeLine; decide), fun p514 n515 => ?_⟩
    generalize g516 : upd H p514 _ = H517
    obtain ⟨e518, h519⟩ := gen_new n515 g516
    have h520 : H517 p514 = some (.lst ((([] : (List Int)) : (List Int)).map V.int)) := h519
    have fr521 := S0.free n515
    have S522 := S0.new n515 e518 h520 fr521
    obtain ⟨K523, hK524, hw⟩ := cW_push hw
    refine ⟨_, rfl, _, rfl, ⟨_, (SqL.of (S522.bM _ _ q_octets))⟩, for_list (K := K) (a := a_octets) (xs := (octets' : List Int).map V.int) (fun i σ H' => ∃ (kept_525 : (List Int)) (zeros_526 : Int) (u527 : Option V) (G' : Hp), σ = [some (V.ref a_octets), some (V.ref p514), some (V.int zeros_526), u527] ∧ Same G G' ∧ Sep [] H G G' H' [p514] ∧ H' p514 = some (.lst ((kept_525 : (List Int)).map V.int)) ∧ cW (forS (List.drop i (octets')) (kept_525, zeros_526) (fun s x => F_unescape_b1  (s.1) (s.2) x)) K523 EE) ?_ ?_ ?_ ?_⟩
    · exact ⟨(([] : (List Int))), (0), _, _, rfl, (Same.refl _), S522, h520, hw⟩
    · intro i σ H528 _ hw
      obtain ⟨kept_525, zeros_526, u527, G531, rfl, eG532, S529, h530, hw⟩ := hw
      exact (SqL.of (S529.bM _ _ q_octets))
    · intro i x σ H533 hj hw
      obtain ⟨kept_525, zeros_526, u527, G536, rfl, eG537, S534, h535, hw⟩ := hw
      obtain ⟨x538, hx, rfl⟩ := map_get hj
      have hw := cW_forS hx hw
      have hw : cW (F_unescape_b1  (kept_525) (zeros_526) (x538)) _ EE := hw
      unfold F_unescape_b1 at hw
      obtain ⟨K541, hK542, hw⟩ := cW_name hw
      refine ⟨_, rfl, _, _, rfl, rfl, _, rfl, ?_⟩
      refine iteD (fun c544 => ?_) (fun c544 => ?_)
      · have hw := cW_pos c544 hw
        refine ⟨_, rfl, _, _, rfl, rfl, _, rfl, ?_⟩
        refine iteD (fun c545 => ?_) (fun c545 => ?_)
        · have hw := cW_pos c545 hw
          have hw := cW_ok hw
          have hw := hK542 _ hw
          exact ⟨(kept_525), (0), _, _, rfl, eG537, S534, h535, hw⟩
        · have hw := cW_neg c545 hw
          obtain ⟨g546, hw⟩ := cW_grd hw
          refine ⟨_, rfl, (.inl ⟨rfl, _, SqL.of h535⟩), _, rfl, _, _, _, rfl, rfl, h535, (app_lenM g546), ?_⟩
          generalize g547 : upd H533 p514 _ = H548
          obtain ⟨x549, h550⟩ := gen_mut g547
          have h551 : H548 p514 = some (.lst (((kept_525) ++ [x538] : (List Int)).map V.int)) := snoc_map h550
          have S552 := S534.mut1 x549 (.head _) h551
          have hw := cW_bnd hw
          refine vv_if (p := (x538 : Int) = 0) (ta := (tOp (rI0 fun i j => V.int (i + j)) (tVar 2) (tC (V.int 1)))) (tb := (tC (V.int 0))) (t := tB (tEqI (tVar 3) (tC (V.int 0)))) (a := (zeros_526 + 1)) (b := 0) ?hx554 ?hy555 ?hz556 _ ?_
          case hx554 => exact vt_cmp (vv_cmp (val_var rfl) val_c (fun Q q => ⟨_, _, rfl, rfl, q⟩))
          case hy555 => exact (val_op (val_var rfl) val_c (fun Q q => ⟨_, _, rfl, rfl, q⟩))
          case hz556 => exact val_c
          have hw := cW_bnd hw
          have hw := cW_ok hw
          have hw := hK542 _ hw
          exact ⟨((kept_525) ++ [x538]), ((if (x538 : Int) = 0 then (zeros_526 + 1) else 0)), _, _, rfl, eG537, S552, h551, hw⟩
      · have hw := cW_neg c544 hw
        refine iteF ?_
        obtain ⟨g558, hw⟩ := cW_grd hw
        refine ⟨_, rfl, (.inl ⟨rfl, _, SqL.of h535⟩), _, rfl, _, _, _, rfl, rfl, h535, (app_lenM g558), ?_⟩
        generalize g559 : upd H533 p514 _ = H560
        obtain ⟨x561, h562⟩ := gen_mut g559
        have h563 : H560 p514 = some (.lst (((kept_525) ++ [x538] : (List Int)).map V.int)) := snoc_map h562
        have S564 := S534.mut1 x561 (.head _) h563
        have hw := cW_bnd hw
        refine vv_if (p := (x538 : Int) = 0) (ta := (tOp (rI0 fun i j => V.int (i + j)) (tVar 2) (tC (V.int 1)))) (tb := (tC (V.int 0))) (t := tB (tEqI (tVar 3) (tC (V.int 0)))) (a := (zeros_526 + 1)) (b := 0) ?hx566 ?hy567 ?hz568 _ ?_
        case hx566 => exact vt_cmp (vv_cmp (val_var rfl) val_c (fun Q q => ⟨_, _, rfl, rfl, q⟩))
        case hy567 => exact (val_op (val_var rfl) val_c (fun Q q => ⟨_, _, rfl, rfl, q⟩))
        case hz568 => exact val_c
        have hw := cW_bnd hw
        have hw := cW_ok hw
        have hw := hK542 _ hw
        exact ⟨((kept_525) ++ [x538]), ((if (x538 : Int) = 0 then (zeros_526 + 1) else 0)), _, _, rfl, eG537, S564, h563, hw⟩
    · intro σ H570 hw
      obtain ⟨kept_525, zeros_526, u527, G573, rfl, eG574, S571, h572, hw⟩ := hw
      have hw := hK524 _ (cW_forS0 (by rw [List.length_map]) hw)
      have hw : cW (F_unescape_r1  (kept_525) (zeros_526)) _ EE := hw
      unfold F_unescape_r1 at hw
      refine ⟨_, rfl, ?_⟩
      have hw := cW_ok hw
      exact hK0 _ hw _ _ fr521 S571.b0 h572

abbrev N__read_raw : List Str := ["raw", "end", "payload"]
theorem sc__read_raw : FnScope N__read_raw ["raw"] (defScope s__read_raw) := ⟨rfl, rfl, rfl, by decide +kernel, rfl, by decide +kernel, by decide +kernel⟩
theorem ok__read_raw (D : DefX K mg "_read_raw" s__read_raw ["raw"] pats__read_raw) (T : Txt w K mg AD) (c_unescape : CalX P w K mg base 1 "unescape" (sp_unescape K AD) pats_unescape) : CalX P w K mg base 2 "_read_raw" (sp__read_raw K AD) pats__read_raw := by
  refine D.ok sc__read_raw (fun vs H Q E h => ?_) (fun f cdv A_ outer s H vs Q E hr h => ?_)
  · obtain ⟨G, a_raw, raw', rfl, _⟩ := h
    rfl
  · obtain ⟨G, a_raw, raw', rfl, sG, q_raw, hw⟩ := h
    refine ⟨_, (pss_cons (ps_if (PW.pt (pw_or (pt_not (pt_truth (pv 0) (fun _ => rfl))) (pw_or1 (pt_not (pt_chain op_le op_le pe_int (pe_ix (ix_listK (K := K)) (pv 0) pe_int (fun _ _ => rfl)) (C8.pe_gc rfl T.g_GREATEST_KIND)))))) (pss_one (ps_ret (pe_tup (pa_cons pe_int (pa_cons (pe_lst pa_nil) pa_nil))))) pss_nil)
      (pss_cons (ps_set (i := 1) sc__read_raw.nd rfl (Or.inl rfl) (pe_callB (call_lenLiK (K := K)) (by rfl) T.b_len (by decide +kernel) (pa_cons (pv 0) pa_nil)))
      (pss_cons (ps_while (passes_of rfl) (pt_cmp (pc_eqI (pe_ix (ix_listK (K := K)) (pv 0) (pe_op op_sub (pv 1) pe_int) (fun _ _ => rfl)) pe_int)) (pss_one (ps_aug (i := 1) sc__read_raw.nd rfl (Or.inl rfl) pe_int (pip iop_sub))))
      (pss_cons (ps_if (pt_cmp (pc_neI (pe_ix (ix_listK (K := K)) (pv 0) (pe_op op_sub (pv 1) pe_int) (fun _ _ => rfl)) (C8.pe_gc rfl T.g_STOP))) (pss_one (ps_ret (pe_tup (pa_cons pe_int (pa_cons (pe_lst pa_nil) pa_nil))))) pss_nil)
      (pss_cons (ps_set (i := 2) sc__read_raw.nd rfl (Or.inl rfl) (vx_callX c_unescape pat_unescape_0 (.head _) hr (by decide) (takes_of rfl rfl rfl rfl) rfl (pa_cons (pe_slice (sl_listK (K := K)) (pv 0) (po_some pe_int) (po_some (pe_op op_sub (pv 1) pe_int))) pa_nil) pk_nil))
      (pss_cons (ps_if (pt_cmp (pc_gt (pe_callB (call_lenLiK (K := K)) (by rfl) T.b_len (by decide +kernel) (pa_cons (pv 2) pa_nil)) (C8.pe_gc rfl T.g_MOST_OCTETS))) (pss_one (ps_ret (pe_tup (pa_cons pe_int (pa_cons (pe_lst pa_nil) pa_nil))))) pss_nil)
      (pss_one (ps_ret (pe_tup (pa_cons (pe_ix (ix_listK (K := K)) (pv 0) pe_int (fun _ _ => rfl)) (pa_cons (pv 2) pa_nil))))))))))), ?_⟩
    obtain ⟨KK, EE, hK0, hE, hw⟩ := cW_gen hw
    have S0 := Sep.startG sG
    unfold F__read_raw at hw
    refine ⟨_, rfl, _, (.inl ⟨_, (SqL.of (S0.bM _ _ q_raw)), tru_map⟩), ?_⟩
    refine iteNN ?_
    refine iteD (fun c577 => ?_) (fun c577 => ?_)
    · have hw := cW_pos c577 hw
      refine iteT ?_
      refine ⟨(by show 0 ≤ sizeLine; decide), fun p578 n579 => ?_⟩
      generalize g580 : upd H p578 _ = H581
      obtain ⟨e582, h583⟩ := gen_new n579 g580
      have h584 : H581 p578 = some (.lst ((([] : (List Int)) : (List Int)).map V.int)) := h583
      have fr585 := S0.free n579
      have S586 := S0.new n579 e582 h584 fr585
      refine ⟨(by show 2 ≤ sizeLine; decide), fun p587 n588 => ?_⟩
      generalize g589 : upd H581 p587 _ = H590
      obtain ⟨e591, h592⟩ := gen_new n588 g589
      have h593 : H590 p587 = some (.tup [V.int (0), V.ref p578]) := h592
      have fr594 := S586.free n588
      obtain ⟨G596, eG597, hg598, S595⟩ := S586.grow n588 e591 h593 fr594
      have h599 := (e591 _ _ h584)
      have hw := cW_ok hw
      exact hK0 _ hw _ _ _ S595.b0 fr594 fr585 (S595.sG _ _ hg598) h599
    · have hw := cW_neg c577 hw
      obtain ⟨g600, hw⟩ := cW_grd hw
      refine ⟨_, rfl, _, _, _, _, rfl, rfl, (SqL.of (S0.bM _ _ q_raw)), (atI_map g600), _, _, rfl, rfl, _, rfl, ?_⟩
      refine iteD (fun c601 => ?_) (fun c601 => ?_)
      · have hw := cW_pos c601 hw
        refine ⟨_, _, rfl, rfl, _, rfl, ?_⟩
        refine iteN (fun c602 => ?_) (fun c602 => ?_)
        · have hw := cW_neg c602 hw
          refine ⟨(by show 0 ≤ sizeLine; decide), fun p603 n604 => ?_⟩
          generalize g605 : upd H p603 _ = H606
          obtain ⟨e607, h608⟩ := gen_new n604 g605
          have h609 : H606 p603 = some (.lst ((([] : (List Int)) : (List Int)).map V.int)) := h608
          have fr610 := S0.free n604
          have S611 := S0.new n604 e607 h609 fr610
          refine ⟨(by show 2 ≤ sizeLine; decide), fun p612 n613 => ?_⟩
          generalize g614 : upd H606 p612 _ = H615
          obtain ⟨e616, h617⟩ := gen_new n613 g614
          have h618 : H615 p612 = some (.tup [V.int (0), V.ref p603]) := h617
          have fr619 := S611.free n613
          obtain ⟨G621, eG622, hg623, S620⟩ := S611.grow n613 e616 h618 fr619
          have h624 := (e616 _ _ h609)
          have hw := cW_ok hw
          exact hK0 _ hw _ _ _ S620.b0 fr619 fr610 (S620.sG _ _ hg623) h624
        · have hw := cW_pos c602 hw
          refine ⟨_, rfl, _, _, rfl, (SqL.of (S0.bM _ _ q_raw)), ?_⟩
          have hw := cW_bnd hw
          obtain ⟨K628, hK629, hw⟩ := cW_push hw
          refine ⟨fun m σ H' => ∃ (end_630 : Int) (G' : Hp), σ = [some (V.ref a_raw), some (V.int end_630), none] ∧ Same G G' ∧ Sep [] H G G' H' [] ∧ cW (whileR m end_630 (fun s => F__read_raw_b1 (raw') s)) K628 EE, ?_, ?_⟩
          · exact ⟨_, ⟨((((raw') : (List Int)).length : Int)), _, rfl, (Same.refl _), S0, hw⟩⟩
          · intro m σ H631 hw
            obtain ⟨end_630, G633, rfl, eG634, S632, hw⟩ := hw
            obtain ⟨m635, rfl, hw2⟩ := cW_whileR hw
            have hw := hw2
            have hw : cW (F__read_raw_b1 (raw') (end_630)) _ EE := hw
            unfold F__read_raw_b1 at hw
            obtain ⟨K637, hK638, hw⟩ := cW_name hw
            obtain ⟨g639, hw⟩ := cW_grd hw
            refine ⟨_, rfl, _, rfl, _, _, rfl, rfl, _, _, _, _, rfl, rfl, (SqL.of (S632.bM _ _ q_raw)), (atI_map g639), _, _, rfl, rfl, _, rfl, ?_⟩
            refine iteD (fun c640 => ?_) (fun c640 => ?_)
            · have hw := cW_pos c640 hw
              refine ⟨(fun σ H' => ∃ m, (∃ (end_630 : Int) (G' : Hp), σ = [some (V.ref a_raw), some (V.int end_630), none] ∧ Same G G' ∧ Sep [] H G G' H' [] ∧ cW (whileR m end_630 (fun s => F__read_raw_b1 (raw') s)) K628 EE) ∧ m < m635 + 1), (fun _ _ ⟨m', a, b⟩ => ⟨m', b, a⟩), ?_⟩
              refine ⟨_, rfl, _, _, rfl, rfl, ?_⟩
              have hw := cW_bnd hw
              have hw := cW_ok hw
              have hw := hK638 _ hw
              exact ⟨m635, ⟨((end_630 - 1)), _, rfl, eG634, S632, hw⟩, Nat.lt_succ_self _⟩
            · have hw := cW_neg c640 hw
              have hw := cW_ok hw
              have hw := hK638 _ hw
              have hw := cW_aftgo (hK629 (.go _) hw)
              have hw : cW (F__read_raw_r1 (raw') (end_630)) _ EE := hw
              unfold F__read_raw_r1 at hw
              obtain ⟨g643, hw⟩ := cW_grd hw
              refine ⟨_, rfl, _, rfl, _, _, rfl, rfl, _, _, _, _, rfl, rfl, (SqL.of (S632.bM _ _ q_raw)), (atI_map g643), _, _, rfl, rfl, _, rfl, ?_⟩
              refine iteN (fun c644 => ?_) (fun c644 => ?_)
              · have hw := cW_neg c644 hw
                refine ⟨(by show 0 ≤ sizeLine; decide), fun p645 n646 => ?_⟩
                generalize g647 : upd H631 p645 _ = H648
                obtain ⟨e649, h650⟩ := gen_new n646 g647
                have h651 : H648 p645 = some (.lst ((([] : (List Int)) : (List Int)).map V.int)) := h650
                have fr652 := S632.free n646
                have S653 := S632.new n646 e649 h651 fr652
                refine ⟨(by show 2 ≤ sizeLine; decide), fun p654 n655 => ?_⟩
                generalize g656 : upd H648 p654 _ = H657
                obtain ⟨e658, h659⟩ := gen_new n655 g656
                have h660 : H657 p654 = some (.tup [V.int (0), V.ref p645]) := h659
                have fr661 := S653.free n655
                obtain ⟨G663, eG664, hg665, S662⟩ := S653.grow n655 e658 h660 fr661
                have h666 := (e658 _ _ h651)
                have hw := cW_ok hw
                exact hK0 _ hw _ _ _ S662.b0 fr661 fr652 (S662.sG _ _ hg665) h666
              · have hw := cW_pos c644 hw
                refine ⟨_, rfl, _, rfl, _, rfl, _, _, rfl, rfl, _, rfl, _, _, rfl, (SqL.of (S632.bM _ _ q_raw)), fun p667 n668 => ?_⟩
                generalize g669 : upd H631 p667 _ = H670
                obtain ⟨e671, h672⟩ := gen_new n668 g669
                have h673 : H670 p667 = some (.lst ((cutL (raw') (some (1)) (some ((end_630 - 1))) : (List Int)).map V.int)) := cut_map h672
                have fr674 := S632.free n668
                have S675 := S632.new n668 e671 h673 fr674
                refine ⟨rfl, rfl, G633, _, _, rfl, S675.sG, (hide_nil h673), cW_call hw (fun v676 hw p679 H677 n680 e678 h681 => ?_) (fun e he H2 e2 => hE e he H2 (Same.trans S675.b0 e2))⟩
                have h682 : H677 p679 = some (.lst ((v676 : (List Int)).map V.int)) := h681
                have fr683 := S675.free n680
                have S684 := S675.new n680 e678 h682 fr683
                refine ⟨_, rfl, _, _, rfl, (SqL.of h682), _, _, rfl, rfl, _, rfl, ?_⟩
                refine iteD (fun c685 => ?_) (fun c685 => ?_)
                · have hw := cW_pos c685 hw
                  refine ⟨(by show 0 ≤ sizeLine; decide), fun p686 n687 => ?_⟩
                  generalize g688 : upd H677 p686 _ = H689
                  obtain ⟨e690, h691⟩ := gen_new n687 g688
                  have h692 : H689 p686 = some (.lst ((([] : (List Int)) : (List Int)).map V.int)) := h691
                  have fr693 := S684.free n687
                  have S694 := S684.new n687 e690 h692 fr693
                  refine ⟨(by show 2 ≤ sizeLine; decide), fun p695 n696 => ?_⟩
                  generalize g697 : upd H689 p695 _ = H698
                  obtain ⟨e699, h700⟩ := gen_new n696 g697
                  have h701 : H698 p695 = some (.tup [V.int (0), V.ref p686]) := h700
                  have fr702 := S694.free n696
                  obtain ⟨G704, eG705, hg706, S703⟩ := S694.grow n696 e699 h701 fr702
                  have h707 := (e699 _ _ h692)
                  have hw := cW_ok hw
                  exact hK0 _ hw _ _ _ S703.b0 fr702 fr693 (S703.sG _ _ hg706) h707
                · have hw := cW_neg c685 hw
                  obtain ⟨g708, hw⟩ := cW_grd hw
                  refine ⟨_, rfl, _, _, _, _, rfl, rfl, (SqL.of (S684.bM _ _ q_raw)), (atI_map g708), _, rfl, (by show 2 ≤ sizeLine; decide), fun p709 n710 => ?_⟩
                  generalize g711 : upd H677 p709 _ = H712
                  obtain ⟨e713, h714⟩ := gen_new n710 g711
                  have h715 : H712 p709 = some (.tup [V.int ((itD (raw') (0))), V.ref p679]) := h714
                  have fr716 := S684.free n710
                  obtain ⟨G718, eG719, hg720, S717⟩ := S684.grow n710 e713 h715 fr716
                  have h721 := (e713 _ _ h682)
                  have hw := cW_ok hw
                  exact hK0 _ hw _ _ _ S717.b0 fr716 fr683 (S717.sG _ _ hg720) h721
      · have hw := cW_neg c601 hw
        refine ⟨_, rfl, ?_⟩
        refine iteT ?_
        refine ⟨(by show 0 ≤ sizeLine; decide), fun p722 n723 => ?_⟩
        generalize g724 : upd H p722 _ = H725
        obtain ⟨e726, h727⟩ := gen_new n723 g724
        have h728 : H725 p722 = some (.lst ((([] : (List Int)) : (List Int)).map V.int)) := h727
        have fr729 := S0.free n723
        have S730 := S0.new n723 e726 h728 fr729
        refine ⟨(by show 2 ≤ sizeLine; decide), fun p731 n732 => ?_⟩
        generalize g733 : upd H725 p731 _ = H734
        obtain ⟨e735, h736⟩ := gen_new n732 g733
        have h737 : H734 p731 = some (.tup [V.int (0), V.ref p722]) := h736
        have fr738 := S730.free n732
        obtain ⟨G740, eG741, hg742, S739⟩ := S730.grow n732 e735 h737 fr738
        have h743 := (e735 _ _ h728)
        have hw := cW_ok hw
        exact hK0 _ hw _ _ _ S739.b0 fr738 fr729 (S739.sG _ _ hg742) h743

abbrev N_read_units : List Str := ["octets", "starts", "ends", "start", "end", "kind", "payload"]
theorem sc_read_units : GScope N_read_units ["octets"] (defScope s_read_units) := ⟨rfl, rfl, rfl, by decide +kernel, rfl, by decide +kernel, by decide +kernel⟩
theorem ok_read_units (D : DefX K mg "read_units" s_read_units ["octets"] pats_read_units) (T : Txt w K mg AD) (c__starts : CalX P w K mg base 1 "_starts" (sp__starts K AD) pats__starts) (c__read_raw : CalX P w K mg base 2 "_read_raw" (sp__read_raw K AD) pats__read_raw) : Vy.CalG P w K mg base 3 "read_units" (sg_read_units K AD) pats_read_units := by
  refine Vy.okG D sc_read_units (fun vs H Q E h => ?_) (fun f cdv A_ outer s H vs Q E pn hr0 h => ?_)
  · obtain ⟨G, a_octets, octets', rfl, _⟩ := h
    rfl
  · obtain ⟨G, a_octets, octets', rfl, sG, q_octets, hw⟩ := h
    have hr : RoomG _ _ := ⟨hr0, trivial⟩
    refine ⟨_, (gss_cons (gs_ps (ps_set (i := 1) sc_read_units.nd rfl (Or.inl rfl) (vx_callX c__starts pat__starts_0 (.head _) hr (by decide) takes_gcx rfl (pa_cons (pv 0) pa_nil) pk_nil))) (gss_cons (gs_ps (ps_set (i := 2) sc_read_units.nd rfl (Or.inl rfl) (pe_op op_cat (pe_slice (sl_listK (K := K)) (pv 1) (po_some pe_int) po_none) (pe_lst (pa_cons (pe_callB (call_lenLiK (K := K)) (by rfl) T.b_len (by decide +kernel) (pa_cons (pv 0) pa_nil)) pa_nil))))) (gss_cons (Vy.gs_for owns_gcx rfl (pi_zipK (K := K) rfl T.b_zip (pa_cons (pv 1) (pa_cons (pv 2) pa_nil))) (pg_tupK (K := K) (n := 2) (pgs_cons (pg_name (i := 3) sc_read_units.nd rfl (Or.inl rfl)) (pgs_cons (pg_name (i := 4) sc_read_units.nd rfl (Or.inl rfl)) pgs_nil))) (gss_cons (gs_ps (ps_asg (vx_callX c__read_raw pat__read_raw_0 (.head _) hr (by decide) takes_gcx rfl (pa_cons (pe_slice (sl_listK (K := K)) (pv 0) (po_some (pe_op op_add (pv 3) pe_int)) (po_some (pv 4))) pa_nil) pk_nil) (pg_tupK (K := K) (n := 2) (pgs_cons (pg_name (i := 5) sc_read_units.nd rfl (Or.inl rfl)) (pgs_cons (pg_name (i := 6) sc_read_units.nd rfl (Or.inl rfl)) pgs_nil))))) (gss_cons (gs_yield (pe_tup (pa_cons (pv 3) (pa_cons (pv 5) (pa_cons (pv 6) pa_nil))))) gss_nil))) gss_nil))), ?_⟩
    obtain ⟨KK, EE, hK0, hE, hw⟩ := cW_gen hw
    have S0 := Sep.startG sG
    unfold F_read_units at hw
    refine ⟨_, rfl, rfl, rfl, G, _, _, rfl, S0.sG, (hide_nil (S0.bM _ _ q_octets)), cW_callN hw (fun v744 hw p747 H745 n748 e746 h749 => ?_) trivial⟩
    have h750 : H745 p747 = some (.lst ((v744 : (List Int)).map V.int)) := h749
    have fr751 := S0.free n748
    have S752 := S0.new n748 e746 h750 fr751
    refine ⟨_, rfl, _, rfl, _, _, rfl, (SqL.of h750), fun p753 n754 => ?_⟩
    generalize g755 : upd H745 p753 _ = H756
    obtain ⟨e757, h758⟩ := gen_new n754 g755
    have h759 : H756 p753 = some (.lst ((cutL (v744) (some (1)) none : (List Int)).map V.int)) := cut_map h758
    have fr760 := S752.free n754
    have S761 := S752.new n754 e757 h759 fr760
    refine ⟨_, rfl, _, _, rfl, (SqL.of (S761.bM _ _ q_octets)), (by show 1 ≤ sizeLine; decide), fun p762 n763 => ?_⟩
    generalize g764 : upd H756 p762 _ = H765
    obtain ⟨e766, h767⟩ := gen_new n763 g764
    have h768 : H765 p762 = some (.lst (([(((octets') : (List Int)).length : Int)] : (List Int)).map V.int)) := h767
    have fr769 := S761.free n763
    have S770 := S761.new n763 e766 h768 fr769
    obtain ⟨g771, hw⟩ := cW_grd hw
    have h772 := (e766 _ _ h759)
    refine ⟨_, _, _, _, rfl, rfl, h772, h768, (cat_lenM g771), fun p773 n774 => ?_⟩
    generalize g775 : upd H765 p773 _ = H776
    obtain ⟨e777, h778⟩ := gen_new n774 g775
    have h779 : H776 p773 = some (.lst (((cutL (v744) (some (1)) none) ++ ([(((octets') : (List Int)).length : Int)]) : (List Int)).map V.int)) := cat_map h778
    have fr780 := S770.free n774
    have S781 := S770.new n774 e777 h779 fr780
    have h782 := (e777 _ _ (e766 _ _ (e757 _ _ h750)))
    obtain ⟨K784, hK785, hw⟩ := cW_push hw
    refine ⟨_, rfl, _, rfl, _, _, _, _, rfl, .inl ⟨(SqL.of h782), (SqL.of h779), Vy.forG_zipM (K := K) (a := p747) (b := p773) (xs := (v744 : (List Int)).map V.int) (zs := ((cutL (v744) (some (1)) none) ++ ([(((octets') : (List Int)).length : Int)]) : (List Int)).map V.int) (min ((v744 : (List Int)).length) (((cutL (v744) (some (1)) none) ++ ([(((octets') : (List Int)).length : Int)]) : (List Int)).length)) (zipM_n (by rw [List.length_map]) (by rw [List.length_map])) (fun i ys σ H' => ∃ (u786 : Option V) (u787 : Option V) (u788 : Option V) (u789 : Option V) (out_790 : (List (Int × Int × (List Int)))) (L791 : List Addr) (G' : Hp), σ = [some (V.ref a_octets), some (V.ref p747), some (V.ref p773), u786, u787, u788, u789] ∧ Same G G' ∧ Sep [] H G G' H' (p747 :: (p773 :: (L791 ++ []))) ∧ H' p747 = some (.lst ((v744 : (List Int)).map V.int)) ∧ H' p773 = some (.lst (((cutL (v744) (some (1)) none) ++ ([(((octets') : (List Int)).length : Int)]) : (List Int)).map V.int)) ∧ (∀ b ∈ L791, b ≠ p747) ∧ (∀ b ∈ L791, b ≠ p773) ∧ OwAll G' H' L791 (ys) ((out_790 : (List (Int × Int × (List Int)))).map oU3) ∧ cW (forS (List.drop i (List.zip (v744) ((cutL (v744) (some (1)) none) ++ ([(((octets') : (List Int)).length : Int)])))) out_790 (fun s x => F_read_units_b1 (octets') s x)) K784 EE) ?_ ?_ ?_ ?_⟩⟩
    · have w792 : OwAll G H776 ([] : List Addr) ([]) ((([] : (List (Int × Int × (List Int)))) : (List (Int × Int × (List Int)))).map oU3) := (OwAll.mono (Same.refl _) (keeps_same e777) (OwAll.mono (Same.refl _) (keeps_same e766) (OwAll.mono (Same.refl _) (keeps_same e757) (OwAll.mono (Same.refl _) (keeps_same e746) (OwAll.nil : OwAll G H [] [] ((([] : (List (Int × Int × (List Int))))).map oU3))))))
      exact ⟨_, _, _, _, (([] : (List (Int × Int × (List Int))))), ([] : List Addr), _, rfl, (Same.refl _), (S781.sub (all_cons (.tail _ (.tail _ (.tail _ (.head _)))) (all_cons (.head _) (all_app all_nil all_nil)))), h782, h779, all_nil, all_nil, w792, hw⟩
    · intro i ys σ H793 hw
      obtain ⟨u786, u787, u788, u789, out_790, L791, G800, rfl, hw⟩ := hw
      obtain ⟨eG801, S794, h795, h796, ne797, ne798, w799, hw⟩ := hw
      exact ⟨(SqL.of h795), (SqL.of h796)⟩
    · intro i x y T803 ys σ H802 hj hj2 n804 hw
      obtain ⟨u786, u787, u788, u789, out_790, L791, G811, rfl, hw⟩ := hw
      obtain ⟨eG812, S805, h806, h807, ne808, ne809, w810, hw⟩ := hw
      obtain ⟨x813, hx814, rfl⟩ := map_get hj
      obtain ⟨x815, hx816, rfl⟩ := map_get hj2
      generalize g817 : upd H802 T803 _ = H818
      obtain ⟨e819, h820⟩ := gen_new n804 g817
      have h821 : H818 T803 = some (.tup [V.int (x813), V.int (x815)]) := h820
      have fr822 := S805.free n804
      obtain ⟨G824, eG825, hg826, S823⟩ := S805.grow n804 e819 h821 fr822
      have hw := cW_forS (zip_get hx814 hx816) hw
      have hw : cW (F_read_units_b1 (octets') (out_790) ((x813, x815))) _ EE := hw
      unfold F_read_units_b1 at hw
      obtain ⟨K828, hK829, hw⟩ := cW_name hw
      refine ⟨_, _, rfl, (SqT.of (S823.sG _ _ hg826)), rfl, _, _, rfl, _, _, rfl, rfl, _, rfl, _, rfl, _, _, rfl, rfl, _, rfl, _, rfl, _, rfl, _, _, rfl, (SqL.of (S823.bM _ _ q_octets)), fun p831 n832 => ?_⟩
      generalize g833 : upd H818 p831 _ = H834
      obtain ⟨e835, h836⟩ := gen_new n832 g833
      have h837 : H834 p831 = some (.lst ((cutL (octets') (some ((x813 + 3))) (some (x815)) : (List Int)).map V.int)) := cut_map h836
      have fr838 := S823.free n832
      have S839 := S823.new n832 e835 h837 fr838
      refine ⟨rfl, rfl, G824, _, _, rfl, S839.sG, (hide_nil h837), cW_callN hw (fun v840 hw H841 p843 l844 e842 n845 n846 h847 h848 => ?_) trivial⟩
      have fr849 := S839.free n845
      have fr850 := S839.free n846
      have S851 : Sep _ _ _ _ H841 (p843 :: (l844 :: (p831 :: (p747 :: (p773 :: (L791 ++ [])))))) := Sep.news S839 e842 [p843, l844] (all_cons ⟨n845, some_ne h847, fr849⟩ (all_cons ⟨n846, some_ne h848, fr850⟩ all_nil))
      obtain ⟨g852, hw⟩ := cW_grd hw
      refine ⟨_, _, rfl, (SqT.of h847), rfl, _, _, rfl, _, _, rfl, rfl, ?_⟩
      have w853 : OwAll G824 H841 L791 (ys) ((out_790 : (List (Int × Int × (List Int)))).map oU3) := (OwAll.mono eG825 keeps_refl (OwAll.mono (Same.refl _) (keeps_same e842) (OwAll.mono (Same.refl _) (keeps_same e835) (OwAll.mono (Same.refl _) (keeps_same e819) w810))))
      refine ⟨(app_len (OwAll.rpA w853 encO_U3 S851.sG) g852), _, rfl, _, rfl, _, rfl, (by show 3 ≤ sizeLine; decide), fun p854 n855 => ?_⟩
      generalize g856 : upd H841 p854 _ = H857
      obtain ⟨e858, h859⟩ := gen_new n855 g856
      have h860 : H857 p854 = some (.tup [V.int (x813), V.int (v840.1), V.ref l844]) := h859
      have fr861 := S851.free n855
      have S862 := S851.new n855 e858 h860 fr861
      have w863 : OwAll G824 H857 L791 (ys) ((out_790 : (List (Int × Int × (List Int)))).map oU3) := (OwAll.mono (Same.refl _) (keeps_same e858) w853)
      have h864 := (e858 _ _ h848)
      have w865 : OwAll G824 H857 (L791 ++ (p854 :: (l844 :: ([] : List Addr)))) (ys ++ [V.ref p854]) ((((out_790) ++ [(x813, v840.1, v840.2)]) : (List (Int × Int × (List Int)))).map oU3) := OwAll.snocM w863 (Ow.u3 h860 h864 (ne_of_none h848 n855)) ((fun b hb => (nm_cons ((there_ne (fun b_ hb_ => (S851.ow b_ (((fun b hb => (.tail _ (.tail _ (.tail _ (.tail _ (.tail _ (List.mem_append_left _ hb))))))) : ∀ b ∈ L791, b ∈ (p843 :: (l844 :: (p831 :: (p747 :: (p773 :: (L791 ++ []))))))) b_ hb_)).2.1) n855) b hb) (nm_cons ((there_ne (fun b_ hb_ => (S839.ow b_ (((fun b hb => (.tail _ (.tail _ (.tail _ (List.mem_append_left _ hb))))) : ∀ b ∈ L791, b ∈ (p831 :: (p747 :: (p773 :: (L791 ++ []))))) b_ hb_)).2.1) n846) b hb) nm_nil))) : ∀ b ∈ L791, b ∉ (p854 :: (l844 :: ([] : List Addr))))
      have hw := cW_ok hw
      have hw := hK829 _ hw
      have h866 := (e858 _ _ (e842 _ _ (e835 _ _ (e819 _ _ h806))))
      have h867 := (e858 _ _ (e842 _ _ (e835 _ _ (e819 _ _ h807))))
      exact ⟨_, _, _, _, (((out_790) ++ [(x813, v840.1, v840.2)])), (L791 ++ (p854 :: (l844 :: ([] : List Addr)))), _, rfl, (Same.trans eG812 eG825), (S862.sub (all_cons (.tail _ (.tail _ (.tail _ (.tail _ (.head _))))) (all_cons (.tail _ (.tail _ (.tail _ (.tail _ (.tail _ (.head _)))))) (all_app (all_app ((fun b hb => (.tail _ (.tail _ (.tail _ (.tail _ (.tail _ (.tail _ (List.mem_append_left _ hb)))))))) : ∀ b ∈ L791, b ∈ (p854 :: (p843 :: (l844 :: (p831 :: (p747 :: (p773 :: (L791 ++ [])))))))) (all_cons (.head _) (all_cons (.tail _ (.tail _ (.head _))) all_nil))) all_nil)))), h866, h867, (all_app ne808 (all_cons (ne_of_none (e842 _ _ (e835 _ _ (e819 _ _ h806))) n855).symm (all_cons (ne_of_none (e835 _ _ (e819 _ _ h806)) n846).symm all_nil))), (all_app ne809 (all_cons (ne_of_none (e842 _ _ (e835 _ _ (e819 _ _ h807))) n855).symm (all_cons (ne_of_none (e835 _ _ (e819 _ _ h807)) n846).symm all_nil))), w865, hw⟩
    · intro ys σ H868 hw
      obtain ⟨u786, u787, u788, u789, out_790, L791, G875, rfl, hw⟩ := hw
      obtain ⟨eG876, S869, h870, h871, ne872, ne873, w874, hw⟩ := hw
      have hw := hK785 _ (cW_forS0 zipM_len hw)
      have hw : cW (F_read_units_r1  (out_790)) _ EE := hw
      unfold F_read_units_r1 at hw
      have hw := cW_ok hw
      exact hK0 _ hw _ _ _ _ ((fun b hb => Sep.h0 S869 (((fun b hb => (.tail _ (.tail _ (List.mem_append_left _ hb)))) : ∀ b ∈ L791, b ∈ (p747 :: (p773 :: (L791 ++ [])))) b hb) nm_nil) : ∀ b ∈ L791, H b = none) S869.b0 S869.g0 S869.sG S869.gn ((fun b hb => (S869.ow b (((fun b hb => (.tail _ (.tail _ (List.mem_append_left _ hb)))) : ∀ b ∈ L791, b ∈ (p747 :: (p773 :: (L791 ++ [])))) b hb)).1) : ∀ b ∈ L791, G875 b = none) w874

abbrev N__law_draws : List Str := ["cell", "limits", "found", "rest", "state", "free", "limit"]
theorem sc__law_draws : FnScope N__law_draws ["cell", "limits"] (defScope s__law_draws) := ⟨rfl, rfl, rfl, by decide +kernel, rfl, by decide +kernel, by decide +kernel⟩
theorem ok__law_draws (D : DefX K mg "_law_draws" s__law_draws ["cell", "limits"] pats__law_draws) (T : Txt w K mg AD)  : CalX P w K mg base 1 "_law_draws" (sp__law_draws K AD) pats__law_draws := by
  refine D.ok sc__law_draws (fun vs H Q E h => ?_) (fun f cdv A_ outer s H vs Q E hr h => ?_)
  · obtain ⟨G, cell', a_limits, limits', rfl, _⟩ := h
    rfl
  · obtain ⟨G, cell', a_limits, limits', rfl, sG, q_limits, hw⟩ := h
    refine ⟨_, (pss_cons (ps_set (i := 2) sc__law_draws.nd rfl (Or.inl rfl) (pe_lst pa_nil))
      (pss_cons (ps_set (i := 3) sc__law_draws.nd rfl (Or.inl rfl) (pe_callB call_abs (by rfl) T.b_abs (by decide +kernel) (pa_cons (pe_callTy call_int1 (by rfl) T.b_int (by decide +kernel) (pa_cons (pv 0) pa_nil)) pa_nil)))
      (pss_cons (ps_set (i := 4) sc__law_draws.nd rfl (Or.inl rfl) (pe_op op_mod (pe_callTy call_int1 (by rfl) T.b_int (by decide +kernel) (pa_cons (pv 3) pa_nil)) pe_int))
      (pss_cons (ps_set (i := 5) sc__law_draws.nd rfl (Or.inl rfl) (pe_or (pe_cmp (pc_lt (pv 0) pe_int)) (pe_one (pe_cmp (pc_ge (pv 0) (pe_op op_pow pe_int pe_int))))))
      (pss_cons (ps_for (passes_of rfl) rfl (pi_listK (K := K) (pv 1)) (pg_name (i := 6) sc__law_draws.nd rfl (Or.inl rfl)) (pss_one (ps_if (PW.pt (pw_and (pt_val (pv 5)) (pw_and1 (pt_cmp (pc_gt (pv 3) pe_int))))) (pss_cons (ps_expr (pe_bm PySem.F.plainAttrs_list PySem.F.slot_list_append PySem.F.type_list_append mt_append (pv 2) (pa_cons (pe_op op_mod (pe_callTy call_int1 (by rfl) T.b_int (by decide +kernel) (pa_cons (pv 3) pa_nil)) (pv 6)) pa_nil)))
      (pss_one (ps_set (i := 3) sc__law_draws.nd rfl (Or.inl rfl) (pe_op op_fdivW (pv 3) (pv 6))))) (pss_cons (ps_set (i := 4) sc__law_draws.nd rfl (Or.inl rfl) (pe_op op_mod (pe_callTy call_int1 (by rfl) T.b_int (by decide +kernel) (pa_cons (pe_op op_add (pe_op op_mul (pv 4) pe_int) pe_int) pa_nil)) pe_int))
      (pss_cons (ps_set (i := 4) sc__law_draws.nd rfl (Or.inl rfl) (pe_op op_mod (pe_callTy call_int1 (by rfl) T.b_int (by decide +kernel) (pa_cons (pe_op op_add (pe_op op_mul (pv 4) pe_int) pe_int) pa_nil)) pe_int))
      (pss_one (ps_expr (pe_bm PySem.F.plainAttrs_list PySem.F.slot_list_append PySem.F.type_list_append mt_append (pv 2) (pa_cons (pe_op op_mod (pe_callTy call_int1 (by rfl) T.b_int (by decide +kernel) (pa_cons (pe_op op_fdivW (pv 4) pe_int) pa_nil)) (pv 6)) pa_nil)))))))))
      (pss_one (ps_ret (pv 2)))))))), ?_⟩
    obtain ⟨KK, EE, hK0, hE, hw⟩ := cW_gen hw
    have S0 := Sep.startG sG
    unfold F__law_draws at hw
    refine ⟨(by show 0 ≤ sizeLine; decide), fun p878 n879 => ?_⟩
    generalize g880 : upd H p878 _ = H881
    obtain ⟨e882, h883⟩ := gen_new n879 g880
    have h884 : H881 p878 = some (.lst ((([] : (List Int)) : (List Int)).map V.int)) := h883
    have fr885 := S0.free n879
    have S886 := S0.new n879 e882 h884 fr885
    refine ⟨_, rfl, .inl ⟨_, rfl, ?_⟩⟩
    refine ⟨_, rfl, ?_⟩
    have hw := cW_bnd hw
    refine ⟨_, rfl, .inl ⟨_, rfl, ?_⟩⟩
    refine ⟨_, _, rfl, rfl, (show (0 : Int) < 2147483647 by decide), ?_⟩
    have hw := cW_bnd hw
    refine vv_or (ta := (tLt (tVar 0) (tC (V.int 0)))) (tb := (tGe (tVar 0) (tOp (rI CPow fun i j => V.int (i ^ j.toNat)) (tC (V.int 10)) (tC (V.int 18))))) (a := decide (cell' < 0)) (b := decide (((10 : Int) ^ Int.toNat 18) ≤ cell')) ?ha889 ?hb890 _ ?_
    case ha889 => exact (vv_cmp (val_var rfl) val_c (fun Q q => ⟨_, _, rfl, rfl, q⟩))
    case hb890 => exact (vv_cmp (val_var rfl) (val_op val_c val_c (fun Q q => ⟨_, _, rfl, rfl, ⟨by decide, by decide, by decide⟩, q⟩)) (fun Q q => ⟨_, _, rfl, rfl, q⟩))
    have hw := cW_bnd hw
    obtain ⟨K893, hK894, hw⟩ := cW_push hw
    refine ⟨_, rfl, _, rfl, ⟨_, (SqL.of (S886.bM _ _ q_limits))⟩, for_list (K := K) (a := a_limits) (xs := (limits' : List Int).map V.int) (fun i σ H' => ∃ (found_895 : (List Int)) (rest_896 : Int) (state_897 : Int) (u898 : Option V) (G' : Hp), σ = [some (V.int (cell')), some (V.ref a_limits), some (V.ref p878), some (V.int rest_896), some (V.int state_897), some (V.bl ((decide (cell' < 0) || decide (((10 : Int) ^ Int.toNat 18) ≤ cell')))), u898] ∧ Same G G' ∧ Sep [] H G G' H' [p878] ∧ H' p878 = some (.lst ((found_895 : (List Int)).map V.int)) ∧ cW (forS (List.drop i (limits')) (found_895, rest_896, state_897) (fun s x => F__law_draws_b1 ((decide (cell' < 0) || decide (((10 : Int) ^ Int.toNat 18) ≤ cell'))) (s.1) (s.2.1) (s.2.2) x)) K893 EE) ?_ ?_ ?_ ?_⟩
    · exact ⟨(([] : (List Int))), ((if cell' < 0 then -cell' else cell')), (((if cell' < 0 then -cell' else cell') % 2147483647)), _, _, rfl, (Same.refl _), S886, h884, hw⟩
    · intro i σ H899 _ hw
      obtain ⟨found_895, rest_896, state_897, u898, G902, rfl, eG903, S900, h901, hw⟩ := hw
      exact (SqL.of (S900.bM _ _ q_limits))
    · intro i x σ H904 hj hw
      obtain ⟨found_895, rest_896, state_897, u898, G907, rfl, eG908, S905, h906, hw⟩ := hw
      obtain ⟨x909, hx, rfl⟩ := map_get hj
      have hw := cW_forS hx hw
      have hw : cW (F__law_draws_b1 ((decide (cell' < 0) || decide (((10 : Int) ^ Int.toNat 18) ≤ cell'))) (found_895) (rest_896) (state_897) (x909)) _ EE := hw
      unfold F__law_draws_b1 at hw
      obtain ⟨K913, hK914, hw⟩ := cW_name hw
      refine ⟨_, rfl, _, rfl, ?_⟩
      refine iteB (fun c916 => ?_) (fun c916 => ?_)
      · have hw := cW_pos c916 hw
        refine ⟨_, rfl, _, _, rfl, rfl, _, rfl, ?_⟩
        refine iteD (fun c917 => ?_) (fun c917 => ?_)
        · have hw := cW_pos c917 hw
          refine ⟨_, rfl, (.inl ⟨rfl, _, SqL.of h906⟩), _, rfl, .inl ⟨_, rfl, ?_⟩⟩
          obtain ⟨g918, hw⟩ := cW_grd hw
          obtain ⟨g919, hw⟩ := cW_grd hw
          refine ⟨_, rfl, _, _, rfl, rfl, g918, _, _, _, rfl, rfl, h906, (app_lenM g919), ?_⟩
          generalize g920 : upd H904 p878 _ = H921
          obtain ⟨x922, h923⟩ := gen_mut g920
          have h924 : H921 p878 = some (.lst (((found_895) ++ [(rest_896 % x909)] : (List Int)).map V.int)) := snoc_map h923
          have S925 := S905.mut1 x922 (.head _) h924
          have hw := cW_bnd hw
          obtain ⟨g927, hw⟩ := cW_grd hw
          refine ⟨_, rfl, _, rfl, _, _, rfl, rfl, (divW_small g927.1 g927.2), ?_⟩
          have hw := cW_bnd hw
          have hw := cW_ok hw
          have hw := hK914 _ hw
          exact ⟨((found_895) ++ [(rest_896 % x909)]), ((rest_896 / x909)), (state_897), _, _, rfl, eG908, S925, h924, hw⟩
        · have hw := cW_neg c917 hw
          refine ⟨_, rfl, _, _, rfl, rfl, (.inr ⟨by decide, by decide⟩), _, _, rfl, rfl, .inl ⟨_, rfl, ?_⟩⟩
          refine ⟨_, _, rfl, rfl, (show (0 : Int) < 2147483647 by decide), ?_⟩
          have hw := cW_bnd hw
          refine ⟨_, rfl, _, _, rfl, rfl, (.inr ⟨by decide, by decide⟩), _, _, rfl, rfl, .inl ⟨_, rfl, ?_⟩⟩
          refine ⟨_, _, rfl, rfl, (show (0 : Int) < 2147483647 by decide), ?_⟩
          have hw := cW_bnd hw
          refine ⟨_, rfl, (.inl ⟨rfl, _, SqL.of h906⟩), _, rfl, _, _, rfl, rfl, (divW_lit (by decide) (by decide)), .inl ⟨_, rfl, ?_⟩⟩
          obtain ⟨g931, hw⟩ := cW_grd hw
          obtain ⟨g932, hw⟩ := cW_grd hw
          refine ⟨_, rfl, _, _, rfl, rfl, g931, _, _, _, rfl, rfl, h906, (app_lenM g932), ?_⟩
          generalize g933 : upd H904 p878 _ = H934
          obtain ⟨x935, h936⟩ := gen_mut g933
          have h937 : H934 p878 = some (.lst (((found_895) ++ [((((((((state_897 * 48271) + 11) % 2147483647) * 69621) + 7) % 2147483647) / 13) % x909)] : (List Int)).map V.int)) := snoc_map h936
          have S938 := S905.mut1 x935 (.head _) h937
          have hw := cW_bnd hw
          have hw := cW_ok hw
          have hw := hK914 _ hw
          exact ⟨((found_895) ++ [((((((((state_897 * 48271) + 11) % 2147483647) * 69621) + 7) % 2147483647) / 13) % x909)]), (rest_896), (((((((state_897 * 48271) + 11) % 2147483647) * 69621) + 7) % 2147483647)), _, _, rfl, eG908, S938, h937, hw⟩
      · have hw := cW_negB c916 hw
        refine iteF ?_
        refine ⟨_, rfl, _, _, rfl, rfl, (.inr ⟨by decide, by decide⟩), _, _, rfl, rfl, .inl ⟨_, rfl, ?_⟩⟩
        refine ⟨_, _, rfl, rfl, (show (0 : Int) < 2147483647 by decide), ?_⟩
        have hw := cW_bnd hw
        refine ⟨_, rfl, _, _, rfl, rfl, (.inr ⟨by decide, by decide⟩), _, _, rfl, rfl, .inl ⟨_, rfl, ?_⟩⟩
        refine ⟨_, _, rfl, rfl, (show (0 : Int) < 2147483647 by decide), ?_⟩
        have hw := cW_bnd hw
        refine ⟨_, rfl, (.inl ⟨rfl, _, SqL.of h906⟩), _, rfl, _, _, rfl, rfl, (divW_lit (by decide) (by decide)), .inl ⟨_, rfl, ?_⟩⟩
        obtain ⟨g942, hw⟩ := cW_grd hw
        obtain ⟨g943, hw⟩ := cW_grd hw
        refine ⟨_, rfl, _, _, rfl, rfl, g942, _, _, _, rfl, rfl, h906, (app_lenM g943), ?_⟩
        generalize g944 : upd H904 p878 _ = H945
        obtain ⟨x946, h947⟩ := gen_mut g944
        have h948 : H945 p878 = some (.lst (((found_895) ++ [((((((((state_897 * 48271) + 11) % 2147483647) * 69621) + 7) % 2147483647) / 13) % x909)] : (List Int)).map V.int)) := snoc_map h947
        have S949 := S905.mut1 x946 (.head _) h948
        have hw := cW_bnd hw
        have hw := cW_ok hw
        have hw := hK914 _ hw
        exact ⟨((found_895) ++ [((((((((state_897 * 48271) + 11) % 2147483647) * 69621) + 7) % 2147483647) / 13) % x909)]), (rest_896), (((((((state_897 * 48271) + 11) % 2147483647) * 69621) + 7) % 2147483647)), _, _, rfl, eG908, S949, h948, hw⟩
    · intro σ H951 hw
      obtain ⟨found_895, rest_896, state_897, u898, G954, rfl, eG955, S952, h953, hw⟩ := hw
      have hw := hK894 _ (cW_forS0 (by rw [List.length_map]) hw)
      have hw : cW (F__law_draws_r1  (found_895) (rest_896) (state_897)) _ EE := hw
      unfold F__law_draws_r1 at hw
      refine ⟨_, rfl, ?_⟩
      have hw := cW_ok hw
      exact hK0 _ hw _ _ fr885 S952.b0 h953

abbrev N__law_some : List Str := ["cell", "size", "kind", "octets", "octet"]
theorem sc__law_some : FnScope N__law_some ["cell", "size"] (defScope s__law_some) := ⟨rfl, rfl, rfl, by decide +kernel, rfl, by decide +kernel, by decide +kernel⟩
theorem ok__law_some (D : DefX K mg "_law_some" s__law_some ["cell", "size"] pats__law_some) (T : Txt w K mg AD) (c__law_draws : CalX P w K mg base 1 "_law_draws" (sp__law_draws K AD) pats__law_draws) : CalX P w K mg base 2 "_law_some" (sp__law_some K AD) pats__law_some := by
  refine D.ok sc__law_some (fun vs H Q E h => ?_) (fun f cdv A_ outer s H vs Q E hr h => ?_)
  · obtain ⟨G, cell', size', rfl, _⟩ := h
    rfl
  · obtain ⟨G, cell', size', rfl, sG, hw⟩ := h
    refine ⟨_, (pss_cons (ps_set (i := 2) sc__law_some.nd rfl (Or.inl rfl) (pe_op op_mod (pe_callTy call_int1 (by rfl) T.b_int (by decide +kernel) (pa_cons (pv 0) pa_nil)) pe_int))
      (pss_cons (ps_set (i := 3) sc__law_some.nd rfl (Or.inl rfl) (vx_callX c__law_draws pat__law_draws_0 (.head _) hr (by decide) (takes_of rfl rfl rfl rfl) rfl (pa_cons (pe_op op_fdivW (pe_callTy call_int1 (by rfl) T.b_int (by decide +kernel) (pa_cons (pv 0) pa_nil)) pe_int) (pa_cons (pe_op op_rep (pe_lst (pa_cons pe_int pa_nil)) (pv 1)) pa_nil)) pk_nil))
      (C8.pss_cut (ps_if (pt_cmp (pc_eqI (pv 2) pe_int)) (pss_one (ps_setLc (i := 3) (y := "octets") rfl sc__law_some.nd rfl rfl (sw_true rfl rfl rfl (by decide +kernel)) (own := [("octet", 4)]) (g := gName 4) (pi_listK (K := K) (pv 3)) (blkOk_by (own := [("octet", 4)]) (N := N__law_some) (sc := defScope s__law_some) (by decide +kernel)) (fun _ _ _ _ _ => (pg_name (i := 4) sc__law_some.nd rfl (Or.inl rfl))) (fun _ _ _ _ _ => pts_nil) (fun _ _ _ _ _ => (pe_op op_mod (pe_callTy call_int1 (by rfl) T.b_int (by decide +kernel) (pa_cons (pv 4) pa_nil)) pe_int)))) pss_nil)
      (C8.pss_cut (ps_if (pt_cmp (pc_eqI (pv 2) pe_int)) (pss_one (ps_setLc (i := 3) (y := "octets") rfl sc__law_some.nd rfl rfl (sw_true rfl rfl rfl (by decide +kernel)) (own := [("octet", 4)]) (g := gName 4) (pi_listK (K := K) (pv 3)) (blkOk_by (own := [("octet", 4)]) (N := N__law_some) (sc := defScope s__law_some) (by decide +kernel)) (fun _ _ _ _ _ => (pg_name (i := 4) sc__law_some.nd rfl (Or.inl rfl))) (fun _ _ _ _ _ => pts_nil) (fun _ _ _ _ _ => (pe_ix (ix_listK (K := K)) (pe_lst (pa_cons pe_int (pa_cons pe_int (pa_cons pe_int (pa_cons pe_int (pa_cons pe_int (pa_cons pe_int (pa_cons pe_int (pa_cons (pv 4) pa_nil))))))))) (pe_op op_mod (pe_callTy call_int1 (by rfl) T.b_int (by decide +kernel) (pa_cons (pv 4) pa_nil)) pe_int) (fun _ _ => rfl))))) pss_nil)
      (C8.pss_cut (ps_if (pt_cmp (pc_eqI (pv 2) pe_int)) (pss_one (ps_setLc (i := 3) (y := "octets") rfl sc__law_some.nd rfl rfl (sw_true rfl rfl rfl (by decide +kernel)) (own := [("octet", 4)]) (g := gName 4) (pi_listK (K := K) (pv 3)) (blkOk_by (own := [("octet", 4)]) (N := N__law_some) (sc := defScope s__law_some) (by decide +kernel)) (fun _ _ _ _ _ => (pg_name (i := 4) sc__law_some.nd rfl (Or.inl rfl))) (fun _ _ _ _ _ => pts_nil) (fun _ _ _ _ _ => (pe_ix (ix_listK (K := K)) (pe_lst (pa_cons pe_int (pa_cons pe_int (pa_cons pe_int (pa_cons pe_int (pa_cons (pe_op op_add pe_int (pe_op op_mod (pe_callTy call_int1 (by rfl) T.b_int (by decide +kernel) (pa_cons (pe_op op_fdivW (pv 4) pe_int) pa_nil)) pe_int)) (pa_cons pe_int (pa_cons (pv 4) (pa_cons pe_int pa_nil))))))))) (pe_op op_mod (pe_callTy call_int1 (by rfl) T.b_int (by decide +kernel) (pa_cons (pv 4) pa_nil)) pe_int) (fun _ _ => rfl))))) pss_nil)
      (pss_one (ps_ret (pv 3)))))))), ?_⟩
    obtain ⟨KK, EE, hK0, hE, hw⟩ := cW_gen hw
    have S0 := Sep.startG sG
    unfold F__law_some at hw
    refine ⟨_, rfl, .inl ⟨_, rfl, ?_⟩⟩
    refine ⟨_, _, rfl, rfl, (show (0 : Int) < 4 by decide), ?_⟩
    have hw := cW_bnd hw
    refine ⟨_, rfl, .inl ⟨_, rfl, ?_⟩⟩
    refine ⟨_, _, rfl, rfl, (divW_lit (by decide) (by decide)), (by show 1 ≤ sizeLine; decide), fun p960 n961 => ?_⟩
    generalize g962 : upd H p960 _ = H963
    obtain ⟨e964, h965⟩ := gen_new n961 g962
    have h966 : H963 p960 = some (.lst (([256] : (List Int)).map V.int)) := h965
    have fr967 := S0.free n961
    have S968 := S0.new n961 e964 h966 fr967
    obtain ⟨g969, hw⟩ := cW_grd hw
    refine ⟨_, rfl, _, _, _, rfl, rfl, h966, g969.1, g969.2.1, (rep_lenM g969.2.2), fun p970 n971 => ?_⟩
    generalize g972 : upd H963 p970 _ = H973
    obtain ⟨e974, h975⟩ := gen_new n971 g972
    have h976 : H973 p970 = some (.lst ((repL ([256]) (size') : (List Int)).map V.int)) := rep_map h975
    have fr977 := S968.free n971
    have S978 := S968.new n971 e974 h976 fr977
    refine ⟨rfl, rfl, G, _, _, _, rfl, S978.sG, (hide_nil h976), cW_call hw (fun v979 hw p982 H980 n983 e981 h984 => ?_) (fun e he H2 e2 => hE e he H2 (Same.trans S978.b0 e2))⟩
    have h985 : H980 p982 = some (.lst ((v979 : (List Int)).map V.int)) := h984
    have fr986 := S978.free n983
    have S987 := S978.new n983 e981 h985 fr986
    refine ⟨fun σ H' => ∃ (p991 : Addr) (octets_990 : (List Int)) (G' : Hp), σ = [some (V.int (cell')), some (V.int (size')), some (V.int ((cell' % 4))), some (V.ref p991), none] ∧ Same G G' ∧ Sep [] H G G' H' [p991] ∧ H' p991 = some (.lst ((octets_990 : (List Int)).map V.int)) ∧ H p991 = none ∧ cW (F__law_some_k1 ((cell' % 4)) octets_990) KK EE, ?_, ?_⟩
    · obtain ⟨K992, hK993, hw⟩ := cW_push hw
      refine ⟨_, rfl, _, _, rfl, rfl, _, rfl, ?_⟩
      refine iteD (fun c994 => ?_) (fun c994 => ?_)
      · have hw := cW_pos c994 hw
        obtain ⟨K996, hK997, hw⟩ := cW_push hw
        refine ⟨_, rfl, _, rfl, ⟨_, (SqL.of h985)⟩, fun D998 n999 => lc_list (K := K) (a := p982) (xs := (v979 : (List Int)).map V.int) (fun i1 H' => ∃ (G' : Hp) (acc1001 : (List Int)), Same G G' ∧ Sep [] H G G' H' [D998, p982] ∧ H' p982 = some (.lst ((v979 : (List Int)).map V.int)) ∧ H' D998 = some (.lst ((acc1001 : (List Int)).map V.int)) ∧ Same H980 H' ∧ cW (mapA (List.drop i1 (v979)) acc1001 (fun x => noEr (F__law_some_c2  x))) K996 EE) ?_ ?_ ?_ ?_⟩
        · generalize g1003 : upd H980 D998 _ = H1004
          obtain ⟨e1005, h1006⟩ := gen_new n999 g1003
          have fr1007 := S987.free n999
          have S1008 := S987.new n999 e1005 h1006 fr1007
          have h1009 := (e1005 _ _ h985)
          exact ⟨_, [], Same.refl _, (S1008.sub (all_cons (.head _) (all_cons (.tail _ (.head _)) all_nil))), h1009, h1006, e1005, hw⟩
        · intro i1 H1010 _ hw
          obtain ⟨G1013, acc1015, eG1014, S1011, h1022, h1012, eo1021, hw⟩ := hw
          exact (SqL.of h1022)
        · intro i1 x H1023 hj hw
          obtain ⟨G1026, acc1028, eG1027, S1024, h1035, h1025, eo1034, hw⟩ := hw
          obtain ⟨x1036, hx, rfl⟩ := map_get hj
          obtain ⟨z1037, hw⟩ := cW_mapA hx hw
          have hw := cW_noEr hw
          have hw : cW (F__law_some_c2  (x1036)) _ (fun _ => False) := hw
          unfold F__law_some_c2 at hw
          refine ⟨rfl, ?_⟩
          refine tyes_go ?_
          refine ⟨_, rfl, .inl ⟨_, rfl, ?_⟩⟩
          refine ⟨_, _, rfl, rfl, (show (0 : Int) < 4 by decide), _, h1025, (app_lenM z1037), ?_⟩
          generalize g1039 : upd H1023 D998 _ = H1040
          obtain ⟨x1041, h1042⟩ := gen_mut g1039
          have S1043 := S1024.mut1 x1041 (.head _) h1042
          have hw := cW_ok hw
          have h1044 := (x1041 _ _ h1035 (ne_of_none h985 n999))
          exact ⟨_, (acc1028 ++ [(x1036 % 4)]), eG1027, S1043, h1044, (snoc_map h1042), (same_mut eo1034 x1041 n999), hw⟩
        intro H1045 hw
        obtain ⟨G1048, acc1050, eG1049, S1046, h1057, h1047, eo1056, hw⟩ := hw
        have hw := hK997 _ (cW_mapA0 (by rw [List.length_map]) hw)
        have fr1058 := S987.free n999
        have hw := cW_ok hw
        have hw := hK993 _ hw
        exact ⟨_, (acc1050), _, rfl, eG1049, (S1046.sub (all_cons (.head _) all_nil)), h1047, fr1058, hw⟩
      · have hw := cW_neg c994 hw
        have hw := cW_ok hw
        have hw := hK993 _ hw
        exact ⟨_, (v979), _, rfl, (Same.refl _), (S987.sub (all_cons (.head _) all_nil)), h985, fr986, hw⟩
    · intro σ H1059 hw
      obtain ⟨p991, octets_990, G1063, rfl, eG1064, S1060, h1061, fr1062, hw⟩ := hw
      unfold F__law_some_k1 at hw
      refine ⟨fun σ H' => ∃ (p1068 : Addr) (octets_1067 : (List Int)) (G' : Hp), σ = [some (V.int (cell')), some (V.int (size')), some (V.int ((cell' % 4))), some (V.ref p1068), none] ∧ Same G1063 G' ∧ Sep [] H G G' H' [p1068] ∧ H' p1068 = some (.lst ((octets_1067 : (List Int)).map V.int)) ∧ H p1068 = none ∧ cW (F__law_some_k3 ((cell' % 4)) octets_1067) KK EE, ?_, ?_⟩
      · obtain ⟨K1069, hK1070, hw⟩ := cW_push hw
        refine ⟨_, rfl, _, _, rfl, rfl, _, rfl, ?_⟩
        refine iteD (fun c1071 => ?_) (fun c1071 => ?_)
        · have hw := cW_pos c1071 hw
          obtain ⟨K1073, hK1074, hw⟩ := cW_push hw
          refine ⟨_, rfl, _, rfl, ⟨_, (SqL.of h1061)⟩, fun D1075 n1076 => lc_list (K := K) (a := p991) (xs := (octets_990 : (List Int)).map V.int) (fun i1 H' => ∃ (G' : Hp) (acc1078 : (List Int)), Same G1063 G' ∧ Sep [] H G G' H' [D1075, p991] ∧ H' p991 = some (.lst ((octets_990 : (List Int)).map V.int)) ∧ H' D1075 = some (.lst ((acc1078 : (List Int)).map V.int)) ∧ Same H1059 H' ∧ cW (mapA (List.drop i1 (octets_990)) acc1078 (fun x => noEr (F__law_some_c4  x))) K1073 EE) ?_ ?_ ?_ ?_⟩
          · generalize g1080 : upd H1059 D1075 _ = H1081
            obtain ⟨e1082, h1083⟩ := gen_new n1076 g1080
            have fr1084 := S1060.free n1076
            have S1085 := S1060.new n1076 e1082 h1083 fr1084
            have h1086 := (e1082 _ _ h1061)
            exact ⟨_, [], Same.refl _, S1085, h1086, h1083, e1082, hw⟩
          · intro i1 H1087 _ hw
            obtain ⟨G1090, acc1092, eG1091, S1088, h1099, h1089, eo1098, hw⟩ := hw
            exact (SqL.of h1099)
          · intro i1 x H1100 hj hw
            obtain ⟨G1103, acc1105, eG1104, S1101, h1112, h1102, eo1111, hw⟩ := hw
            obtain ⟨x1113, hx, rfl⟩ := map_get hj
            obtain ⟨z1114, hw⟩ := cW_mapA hx hw
            have hw := cW_noEr hw
            have hw : cW (F__law_some_c4  (x1113)) _ (fun _ => False) := hw
            unfold F__law_some_c4 at hw
            refine ⟨rfl, ?_⟩
            refine tyes_go ?_
            refine ⟨_, rfl, (by show 8 ≤ sizeLine; decide), fun p1116 n1117 => ?_⟩
            generalize g1118 : upd H1100 p1116 _ = H1119
            obtain ⟨e1120, h1121⟩ := gen_new n1117 g1118
            have h1122 : H1119 p1116 = some (.lst (([0, 0, 0, 0, 0, 1, 3, x1113] : (List Int)).map V.int)) := h1121
            have fr1123 := S1101.free n1117
            have S1124 := S1101.new n1117 e1120 h1122 fr1123
            refine ⟨_, rfl, .inl ⟨_, rfl, ?_⟩⟩
            obtain ⟨g1125, hw⟩ := cW_grd hw
            have h1126 := (e1120 _ _ h1102)
            refine ⟨_, _, rfl, rfl, (show (0 : Int) < 8 by decide), _, _, _, _, rfl, rfl, (SqL.of h1122), (atI_map g1125), _, h1126, (app_lenM z1114), ?_⟩
            generalize g1127 : upd H1119 D1075 _ = H1128
            obtain ⟨x1129, h1130⟩ := gen_mut g1127
            have S1131 := S1124.mut1 x1129 (.tail _ (.head _)) h1130
            have hw := cW_ok hw
            have h1132 := (x1129 _ _ (e1120 _ _ h1112) (ne_of_none h1061 n1076))
            exact ⟨_, (acc1105 ++ [(itD ([0, 0, 0, 0, 0, 1, 3, x1113]) ((x1113 % 8)))]), eG1104, (S1131.sub (all_cons (.tail _ (.head _)) (all_cons (.tail _ (.tail _ (.head _))) all_nil))), h1132, (snoc_map h1130), (same_mut (Same.trans eo1111 e1120) x1129 n1076), hw⟩
          intro H1133 hw
          obtain ⟨G1136, acc1138, eG1137, S1134, h1145, h1135, eo1144, hw⟩ := hw
          have hw := hK1074 _ (cW_mapA0 (by rw [List.length_map]) hw)
          have fr1146 := S1060.free n1076
          have hw := cW_ok hw
          have hw := hK1070 _ hw
          exact ⟨_, (acc1138), _, rfl, eG1137, (S1134.sub (all_cons (.head _) all_nil)), h1135, fr1146, hw⟩
        · have hw := cW_neg c1071 hw
          have hw := cW_ok hw
          have hw := hK1070 _ hw
          exact ⟨_, (octets_990), _, rfl, (Same.refl _), S1060, h1061, fr1062, hw⟩
      · intro σ H1147 hw
        obtain ⟨p1068, octets_1067, G1151, rfl, eG1152, S1148, h1149, fr1150, hw⟩ := hw
        unfold F__law_some_k3 at hw
        refine ⟨fun σ H' => ∃ (p1155 : Addr) (octets_1154 : (List Int)) (G' : Hp), σ = [some (V.int (cell')), some (V.int (size')), some (V.int ((cell' % 4))), some (V.ref p1155), none] ∧ Same G1151 G' ∧ Sep [] H G G' H' [p1155] ∧ H' p1155 = some (.lst ((octets_1154 : (List Int)).map V.int)) ∧ H p1155 = none ∧ cW (F__law_some_k5  octets_1154) KK EE, ?_, ?_⟩
        · obtain ⟨K1156, hK1157, hw⟩ := cW_push hw
          refine ⟨_, rfl, _, _, rfl, rfl, _, rfl, ?_⟩
          refine iteD (fun c1158 => ?_) (fun c1158 => ?_)
          · have hw := cW_pos c1158 hw
            obtain ⟨K1160, hK1161, hw⟩ := cW_push hw
            refine ⟨_, rfl, _, rfl, ⟨_, (SqL.of h1149)⟩, fun D1162 n1163 => lc_list (K := K) (a := p1068) (xs := (octets_1067 : (List Int)).map V.int) (fun i1 H' => ∃ (G' : Hp) (acc1165 : (List Int)), Same G1151 G' ∧ Sep [] H G G' H' [D1162, p1068] ∧ H' p1068 = some (.lst ((octets_1067 : (List Int)).map V.int)) ∧ H' D1162 = some (.lst ((acc1165 : (List Int)).map V.int)) ∧ Same H1147 H' ∧ cW (mapA (List.drop i1 (octets_1067)) acc1165 (fun x => noEr (F__law_some_c6  x))) K1160 EE) ?_ ?_ ?_ ?_⟩
            · generalize g1167 : upd H1147 D1162 _ = H1168
              obtain ⟨e1169, h1170⟩ := gen_new n1163 g1167
              have fr1171 := S1148.free n1163
              have S1172 := S1148.new n1163 e1169 h1170 fr1171
              have h1173 := (e1169 _ _ h1149)
              exact ⟨_, [], Same.refl _, S1172, h1173, h1170, e1169, hw⟩
            · intro i1 H1174 _ hw
              obtain ⟨G1177, acc1179, eG1178, S1175, h1186, h1176, eo1185, hw⟩ := hw
              exact (SqL.of h1186)
            · intro i1 x H1187 hj hw
              obtain ⟨G1190, acc1192, eG1191, S1188, h1199, h1189, eo1198, hw⟩ := hw
              obtain ⟨x1200, hx, rfl⟩ := map_get hj
              obtain ⟨z1201, hw⟩ := cW_mapA hx hw
              have hw := cW_noEr hw
              have hw : cW (F__law_some_c6  (x1200)) _ (fun _ => False) := hw
              unfold F__law_some_c6 at hw
              refine ⟨rfl, ?_⟩
              refine tyes_go ?_
              refine ⟨_, rfl, _, _, rfl, rfl, (divW_lit (by decide) (by decide)), .inl ⟨_, rfl, ?_⟩⟩
              refine ⟨_, _, rfl, rfl, (show (0 : Int) < 6 by decide), _, _, rfl, rfl, _, rfl, (by show 8 ≤ sizeLine; decide), fun p1203 n1204 => ?_⟩
              generalize g1205 : upd H1187 p1203 _ = H1206
              obtain ⟨e1207, h1208⟩ := gen_new n1204 g1205
              have h1209 : H1206 p1203 = some (.lst (([0, 0, 1, 128, (1 + ((x1200 / 8) % 6)), 3, x1200, 0] : (List Int)).map V.int)) := h1208
              have fr1210 := S1188.free n1204
              have S1211 := S1188.new n1204 e1207 h1209 fr1210
              refine ⟨_, rfl, .inl ⟨_, rfl, ?_⟩⟩
              obtain ⟨g1212, hw⟩ := cW_grd hw
              have h1213 := (e1207 _ _ h1189)
              refine ⟨_, _, rfl, rfl, (show (0 : Int) < 8 by decide), _, _, _, _, rfl, rfl, (SqL.of h1209), (atI_map g1212), _, h1213, (app_lenM z1201), ?_⟩
              generalize g1214 : upd H1206 D1162 _ = H1215
              obtain ⟨x1216, h1217⟩ := gen_mut g1214
              have S1218 := S1211.mut1 x1216 (.tail _ (.head _)) h1217
              have hw := cW_ok hw
              have h1219 := (x1216 _ _ (e1207 _ _ h1199) (ne_of_none h1149 n1163))
              exact ⟨_, (acc1192 ++ [(itD ([0, 0, 1, 128, (1 + ((x1200 / 8) % 6)), 3, x1200, 0]) ((x1200 % 8)))]), eG1191, (S1218.sub (all_cons (.tail _ (.head _)) (all_cons (.tail _ (.tail _ (.head _))) all_nil))), h1219, (snoc_map h1217), (same_mut (Same.trans eo1198 e1207) x1216 n1163), hw⟩
            intro H1220 hw
            obtain ⟨G1223, acc1225, eG1224, S1221, h1232, h1222, eo1231, hw⟩ := hw
            have hw := hK1161 _ (cW_mapA0 (by rw [List.length_map]) hw)
            have fr1233 := S1148.free n1163
            have hw := cW_ok hw
            have hw := hK1157 _ hw
            exact ⟨_, (acc1225), _, rfl, eG1224, (S1221.sub (all_cons (.head _) all_nil)), h1222, fr1233, hw⟩
          · have hw := cW_neg c1158 hw
            have hw := cW_ok hw
            have hw := hK1157 _ hw
            exact ⟨_, (octets_1067), _, rfl, (Same.refl _), S1148, h1149, fr1150, hw⟩
        · intro σ H1234 hw
          obtain ⟨p1155, octets_1154, G1238, rfl, eG1239, S1235, h1236, fr1237, hw⟩ := hw
          unfold F__law_some_k5 at hw
          refine ⟨_, rfl, ?_⟩
          have hw := cW_ok hw
          exact hK0 _ hw _ _ fr1237 S1235.b0 h1236

abbrev N_law : List Str := ["script", "octets", "cell", "large", "kept", "due", "actual", "k", "bad", "found", "first", "longer", "unit"]
theorem sc_law : FnScope N_law ["script"] (defScope s_law) := ⟨rfl, rfl, rfl, by decide +kernel, rfl, by decide +kernel, by decide +kernel⟩
theorem ok_law {f : Addr} {fd : FuncData} (F : FunD K "law" "law" (defArgs s_law) (defBody s_law) (defScope s_law) [] [] f fd) (T : Txt w K mg AD) (c__law_some : CalX P w K mg base 2 "_law_some" (sp__law_some K AD) pats__law_some) (c__law_cell : CalX P w K mg base 1 "_law_cell" (sp__law_cell K AD) pats__law_cell) (c__law_read : CalX P w K mg base 3 "_law_read" (sp__law_read K AD) pats__law_read) (c_read_units : Vy.CalG P w K mg base 3 "read_units" (sg_read_units K AD) pats_read_units) : FnG P w K mg base CX0 7 f fd ["script"] (sp_law K AD) := by
  refine FnG.bodyN F sc_law (fun vs H Q E h => ?_) (fun cdv A_ outer s H vs Q E hr h => ?_)
  · obtain ⟨a_script, script, rfl, _⟩ := h
    rfl
  · obtain ⟨a_script, script', rfl, q_script, hw, k⟩ := h
    refine ⟨_, (pss_cons (ps_set (i := 1) sc_law.nd rfl (Or.inl rfl) (pe_lst pa_nil))
      (pss_cons (ps_for PassesOwn.never rfl (pi_listK (K := K) (pe_slice (sl_listK (K := K)) (pv 0) (po_some pe_int) po_none)) (pg_name (i := 2) sc_law.nd rfl (Or.inl rfl)) (pss_one (ps_set (i := 1) sc_law.nd rfl (Or.inl rfl) (pe_op op_cat (pv 1) (vx_callX c__law_some pat__law_some_0 (.head _) hr (by decide) takes0 rfl (pa_cons (pe_op op_fdivW (pe_callTy call_int1 (by rfl) T.b_int (by decide +kernel) (pa_cons (pv 2) pa_nil)) pe_int) (pa_cons (pe_op op_mod (pe_callTy call_int1 (by rfl) T.b_int (by decide +kernel) (pa_cons (pv 2) pa_nil)) pe_int) pa_nil)) pk_nil)))))
      (pss_cons (ps_set (i := 1) sc_law.nd rfl (Or.inl rfl) (pe_slice (sl_listK (K := K)) (pv 1) po_none (po_some pe_int)))
      (pss_cons (ps_set (i := 3) sc_law.nd rfl (Or.inl rfl) (pe_callTy call_int1 (by rfl) T.b_int (by decide +kernel) (pa_cons (vx_callX c__law_cell pat__law_cell_0 (.head _) hr (by decide) takes0 rfl (pa_cons (pv 0) (pa_cons pe_int pa_nil)) pk_nil) pa_nil)))
      (C8.pss_cut (ps_if (pt_cmp (pc_eqI (pe_op op_mod (pv 3) pe_int) pe_int)) (pss_one (ps_set (i := 1) sc_law.nd rfl (Or.inl rfl) (pe_op op_cat (pe_op op_cat (pe_op op_cat (pv 1) (pe_lst (pa_cons pe_int (pa_cons pe_int (pa_cons pe_int (pa_cons pe_int pa_nil)))))) (pe_op op_rep (pe_lst (pa_cons pe_int pa_nil)) (pe_op op_add pe_int (pe_op op_mod (pe_op op_fdivW (pv 3) pe_int) pe_int)))) (pe_lst (pa_cons pe_int (pa_cons pe_int pa_nil)))))) pss_nil)
      (pss_cons (ps_set (i := 4) sc_law.nd rfl (Or.inl rfl) (pe_callTy (call_listLK (K := K)) (by rfl) T.b_list (by decide +kernel) (pa_cons (pv 1) pa_nil)))
      (pss_cons (ps_set (i := 5) sc_law.nd rfl (Or.inr rfl) (vx_callX c__law_read pat__law_read_0 (.head _) hr (by decide) takes0 rfl (pa_cons (pv 4) pa_nil) pk_nil))
      (pss_cons (ps_set (i := 6) sc_law.nd rfl (Or.inl rfl) (Vy.vx_lg c_read_units im_read_units pat_read_units_0 (.head _) hr (by decide) takes0 rfl rfl T.b_list (pa_cons (pv 1) pa_nil) pk_nil))
      (pss_cons (ps_if (PW.pt (pw_or (pt_cmp (pc_neI (pe_callB (call_lenLK (K := K)) (by rfl) T.b_len (by decide +kernel) (pa_cons (pv 6) pa_nil)) (pe_callB (call_lenLK (K := K)) (by rfl) T.b_len (by decide +kernel) (pa_cons (pv 5) pa_nil)))) (pw_or1 (pt_cmpR (op_neT (encOk_L encOk_int) hr.units) (pv 1) (pv 4) (nomark _))))) (pss_one (ps_ret pe_bl)) pss_nil)
      (pss_cons (ps_for PassesOwn.never rfl (pi_range1 rfl T.b_range (pa_cons (pe_callB (call_lenLK (K := K)) (by rfl) T.b_len (by decide +kernel) (pa_cons (pv 5) pa_nil)) pa_nil)) (pg_name (i := 7) sc_law.nd rfl (Or.inl rfl)) (pss_one (ps_if (PW.pt (pw_or (pt_not (pt_val (pe_callB call_isi (by rfl) T.b_isinstance (by decide +kernel) (pa_cons (pe_ix (ix_listK (K := K)) (pv 6) (pv 7) (fun _ _ => rfl)) (pa_cons (pe_bltn (v := V.ty "tuple") (u := Value.type "tuple") (by rfl) T.b_tuple (by decide +kernel) rfl) pa_nil))))) (pw_or1 (pt_cmpR (op_neT (encOk_T3 encOk_int encOk_int (encOk_L encOk_int)) hr.units) (pe_ix (ix_listK (K := K)) (pv 6) (pv 7) (fun _ _ => rfl)) (pe_ix (ix_listK (K := K)) (pv 5) (pv 7) (fun _ _ => rfl)) (nomark _))))) (pss_one (ps_ret pe_bl)) pss_nil)))
      (pss_cons (ps_for PassesOwn.never rfl (pi_listK (K := K) (pe_lst (pa_cons pe_bl (pa_cons pe_bl pa_nil)))) (pg_name (i := 8) sc_law.nd rfl (Or.inr rfl)) (pss_cons (ps_setLc (i := 9) (y := "found") rfl sc_law.nd rfl rfl (sw_true rfl rfl rfl (by decide +kernel)) (own := [("k", 7)]) (g := gName 7) (pi_range1 rfl T.b_range (pa_cons (pe_callB (call_lenLK (K := K)) (by rfl) T.b_len (by decide +kernel) (pa_cons (pv 5) pa_nil)) pa_nil)) (blkOk_by (own := [("k", 7)]) (N := N_law) (sc := defScope s_law) (by decide +kernel)) (fun _ _ _ _ _ => (pg_name (i := 7) sc_law.nd rfl (Or.inl rfl))) (fun _ _ _ _ _ => pts_one (pt_cmpR op_eq (pe_cmp (pc_eqI (pe_ix (ix_tupK (K := K)) (pe_ix (ix_listK (K := K)) (pv 5) (pv 7) (fun _ _ => rfl)) pe_int (fun _ _ => rfl)) pe_int)) (pv 8) (nomark _))) (fun _ _ _ _ _ => (pv 7)))
      (pss_one (ps_if (pt_cmp (pc_gt (pe_callB (call_lenLiK (K := K)) (by rfl) T.b_len (by decide +kernel) (pa_cons (pv 9) pa_nil)) pe_int)) (pss_cons (ps_set (i := 10) sc_law.nd rfl (Or.inl rfl) (pe_ix (ix_tupK (K := K)) (pe_ix (ix_listK (K := K)) (pv 6) (pe_ix (ix_listK (K := K)) (pv 9) pe_int (fun _ _ => rfl)) (fun _ _ => rfl)) pe_int (fun _ _ => rfl)))
      (pss_cons (ps_expr (pe_bm PySem.F.plainAttrs_list PySem.F.slot_list_append PySem.F.type_list_append mt_append (pv 10) (pa_cons pe_int pa_nil)))
      (pss_cons (ps_setLc (i := 11) (y := "longer") rfl sc_law.nd rfl rfl (sw_true rfl rfl rfl (by decide +kernel)) (own := [("unit", 12)]) (g := gName 12) (pi_listK (K := K) (pv 5)) (blkOk_by (own := [("unit", 12)]) (N := N_law) (sc := defScope s_law) (by decide +kernel)) (fun _ _ _ _ _ => (pg_name (i := 12) sc_law.nd rfl (Or.inl rfl))) (fun _ _ _ _ _ => pts_nil) (fun _ _ _ _ _ => (pe_tup (pa_cons (pe_ix (ix_tupK (K := K)) (pv 12) pe_int (fun _ _ => rfl)) (pa_cons (pe_ix (ix_tupK (K := K)) (pv 12) pe_int (fun _ _ => rfl)) (pa_cons (pe_callTy (call_listLK (K := K)) (by rfl) T.b_list (by decide +kernel) (pa_cons (pe_ix (ix_tupK (K := K)) (pv 12) pe_int (fun _ _ => rfl)) pa_nil)) pa_nil))))))
      (pss_cons (ps_expr (pe_bm PySem.F.plainAttrs_list PySem.F.slot_list_append PySem.F.type_list_append mt_append (pe_ix (ix_tupK (K := K)) (pe_ix (ix_listK (K := K)) (pv 11) (pe_ix (ix_listK (K := K)) (pv 9) pe_int (fun _ _ => rfl)) (fun _ _ => rfl)) pe_int (fun _ _ => rfl)) (pa_cons pe_int pa_nil)))
      (pss_cons (ps_if (pt_cmpR (op_neT (encOk_L (encOk_T3 encOk_int encOk_int (encOk_L encOk_int))) hr.units) (pv 6) (pv 11) (nomark _)) (pss_one (ps_ret pe_bl)) pss_nil)
      (pss_one (ps_expr (pe_bm0 PySem.F.plainAttrs_list PySem.F.slot_list_pop PySem.F.type_list_pop mt_pop (pv 10))))))))) pss_nil))))
      (pss_one (ps_ret (pe_cmpR (op_eqT (encOk_L (encOk_T3 encOk_int encOk_int (encOk_L encOk_int))) hr.units) (Vy.vx_lg c_read_units im_read_units pat_read_units_0 (.head _) hr (by decide) takes0 rfl rfl T.b_list (pa_cons (pv 1) pa_nil) pk_nil) (pv 5) (nomark _))))))))))))))), ?_⟩
    obtain ⟨KK, EE, hK0, hE, hw⟩ := cW_gen hw
    have S0 := Sep.start0 H
    unfold F_law at hw
    refine ⟨(by show 0 ≤ sizeLine; decide), fun p1240 n1241 => ?_⟩
    generalize g1242 : upd H p1240 _ = H1243
    obtain ⟨e1244, h1245⟩ := gen_new n1241 g1242
    have h1246 : H1243 p1240 = some (.lst ((([] : (List Int)) : (List Int)).map V.int)) := h1245
    have fr1247 := S0.free n1241
    have S1248 := S0.new n1241 e1244 h1246 fr1247
    refine ⟨_, rfl, _, rfl, _, _, rfl, (S1248.b0.seq q_script), fun p1249 n1250 => ?_⟩
    generalize g1251 : upd H1243 p1249 _ = H1252
    obtain ⟨e1253, h1254⟩ := gen_new n1250 g1251
    have h1255 : H1252 p1249 = some (.lst ((cutL (script') (some (1)) none : (List Int)).map V.int)) := cut_map h1254
    have fr1256 := S1248.free n1250
    have S1257 := S1248.new n1250 e1253 h1255 fr1256
    obtain ⟨K1259, hK1260, hw⟩ := cW_push hw
    refine ⟨_, rfl, ⟨_, (SqL.of h1255)⟩, for_list (K := K) (a := p1249) (xs := (cutL (script') (some (1)) none : (List Int)).map V.int) (fun i σ H' => ∃ (p1262 : Addr) (octets_1261 : (List Int)) (u1263 : Option V) (G' : Hp), σ = [some (V.ref a_script), some (V.ref p1262), u1263, none, none, none, none, none, none, none, none, none, none] ∧ Same H G' ∧ Sep [] H H G' H' [p1262, p1249] ∧ H' p1262 = some (.lst ((octets_1261 : (List Int)).map V.int)) ∧ H' p1249 = some (.lst ((cutL (script') (some (1)) none : (List Int)).map V.int)) ∧ H p1262 = none ∧ p1262 ≠ p1249 ∧ cW (forS (List.drop i (cutL (script') (some (1)) none)) octets_1261 (fun s x => F_law_b1  s x)) K1259 EE) ?_ ?_ ?_ ?_⟩
    · have h1264 := (e1253 _ _ h1246)
      exact ⟨_, (([] : (List Int))), _, _, rfl, (Same.refl _), (S1257.sub (all_cons (.tail _ (.head _)) (all_cons (.head _) all_nil))), h1264, h1255, fr1247, (ne_of_none h1246 n1250), hw⟩
    · intro i σ H1265 _ hw
      obtain ⟨p1262, octets_1261, u1263, G1271, rfl, eG1272, S1266, h1267, h1268, fr1269, ne1270, hw⟩ := hw
      exact (SqL.of h1268)
    · intro i x σ H1273 hj hw
      obtain ⟨p1262, octets_1261, u1263, G1279, rfl, eG1280, S1274, h1275, h1276, fr1277, ne1278, hw⟩ := hw
      obtain ⟨x1281, hx, rfl⟩ := map_get hj
      have hw := cW_forS hx hw
      have hw : cW (F_law_b1  (octets_1261) (x1281)) _ EE := hw
      unfold F_law_b1 at hw
      obtain ⟨K1283, hK1284, hw⟩ := cW_name hw
      refine ⟨_, rfl, _, rfl, .inl ⟨_, rfl, ?_⟩⟩
      refine ⟨_, _, rfl, rfl, (divW_lit (by decide) (by decide)), _, rfl, .inl ⟨_, rfl, ?_⟩⟩
      refine ⟨_, _, rfl, rfl, (show (0 : Int) < 7 by decide), rfl, rfl, G1279, _, _, rfl, S1274.sG, cW_call hw (fun v1286 hw p1289 H1287 n1290 e1288 h1291 => ?_) (fun e he => (hE e he).elim)⟩
      have h1292 : H1287 p1289 = some (.lst ((v1286 : (List Int)).map V.int)) := h1291
      have fr1293 := S1274.free n1290
      have S1294 := S1274.new n1290 e1288 h1292 fr1293
      obtain ⟨g1295, hw⟩ := cW_grd hw
      have h1296 := (e1288 _ _ h1275)
      refine ⟨_, _, _, _, rfl, rfl, h1296, h1292, (cat_lenM g1295), fun p1297 n1298 => ?_⟩
      generalize g1299 : upd H1287 p1297 _ = H1300
      obtain ⟨e1301, h1302⟩ := gen_new n1298 g1299
      have h1303 : H1300 p1297 = some (.lst (((octets_1261) ++ (v1286) : (List Int)).map V.int)) := cat_map h1302
      have fr1304 := S1294.free n1298
      have S1305 := S1294.new n1298 e1301 h1303 fr1304
      have hw := cW_ok hw
      have hw := hK1284 _ hw
      have h1306 := (e1301 _ _ (e1288 _ _ h1276))
      exact ⟨_, ((octets_1261) ++ (v1286)), _, _, rfl, eG1280, (S1305.sub (all_cons (.head _) (all_cons (.tail _ (.tail _ (.tail _ (.head _)))) all_nil))), h1303, h1306, fr1304, (ne_of_none (e1288 _ _ h1276) n1298).symm, hw⟩
    · intro σ H1307 hw
      obtain ⟨p1262, octets_1261, u1263, G1313, rfl, eG1314, S1308, h1309, h1310, fr1311, ne1312, hw⟩ := hw
      have hw := hK1260 _ (cW_forS0 (by rw [List.length_map]) hw)
      have hw : cW (F_law_r1 (script') (octets_1261)) _ EE := hw
      unfold F_law_r1 at hw
      refine ⟨_, rfl, _, rfl, _, _, rfl, (SqL.of h1309), fun p1316 n1317 => ?_⟩
      generalize g1318 : upd H1307 p1316 _ = H1319
      obtain ⟨e1320, h1321⟩ := gen_new n1317 g1318
      have h1322 : H1319 p1316 = some (.lst ((cutL (octets_1261) none (some (200)) : (List Int)).map V.int)) := cut_map h1321
      have fr1323 := S1308.free n1317
      have S1324 := S1308.new n1317 e1320 h1322 fr1323
      refine ⟨_, rfl, rfl, rfl, G1313, _, _, _, rfl, S1324.sG, (S1324.b0.seq q_script), cW_call hw (fun v1325 hw => ?_) (fun e he => (hE e he).elim)⟩
      refine .inl ⟨_, rfl, ?_⟩
      refine ⟨fun σ H' => ∃ (p1328 : Addr) (octets_1327 : (List Int)) (G' : Hp), σ = [some (V.ref a_script), some (V.ref p1328), u1263, some (V.int (v1325)), none, none, none, none, none, none, none, none, none] ∧ Same G1313 G' ∧ Sep [] H H G' H' [p1328] ∧ H' p1328 = some (.lst ((octets_1327 : (List Int)).map V.int)) ∧ H p1328 = none ∧ cW (F_law_k2  octets_1327) KK EE, ?_, ?_⟩
      · obtain ⟨K1329, hK1330, hw⟩ := cW_push hw
        refine ⟨_, rfl, _, _, rfl, rfl, (show (0 : Int) < 16 by decide), _, _, rfl, rfl, _, rfl, ?_⟩
        refine iteD (fun c1331 => ?_) (fun c1331 => ?_)
        · have hw := cW_pos c1331 hw
          refine ⟨_, rfl, (by show 4 ≤ sizeLine; decide), fun p1332 n1333 => ?_⟩
          generalize g1334 : upd H1319 p1332 _ = H1335
          obtain ⟨e1336, h1337⟩ := gen_new n1333 g1334
          have h1338 : H1335 p1332 = some (.lst (([0, 0, 1, 9] : (List Int)).map V.int)) := h1337
          have fr1339 := S1324.free n1333
          have S1340 := S1324.new n1333 e1336 h1338 fr1339
          obtain ⟨g1341, hw⟩ := cW_grd hw
          have h1342 := (e1336 _ _ h1322)
          refine ⟨_, _, _, _, rfl, rfl, h1342, h1338, (cat_lenM g1341), fun p1343 n1344 => ?_⟩
          generalize g1345 : upd H1335 p1343 _ = H1346
          obtain ⟨e1347, h1348⟩ := gen_new n1344 g1345
          have h1349 : H1346 p1343 = some (.lst (((cutL (octets_1261) none (some (200))) ++ ([0, 0, 1, 9]) : (List Int)).map V.int)) := cat_map h1348
          have fr1350 := S1340.free n1344
          have S1351 := S1340.new n1344 e1347 h1349 fr1350
          refine ⟨(by show 1 ≤ sizeLine; decide), fun p1352 n1353 => ?_⟩
          generalize g1354 : upd H1346 p1352 _ = H1355
          obtain ⟨e1356, h1357⟩ := gen_new n1353 g1354
          have h1358 : H1355 p1352 = some (.lst (([5] : (List Int)).map V.int)) := h1357
          have fr1359 := S1351.free n1353
          have S1360 := S1351.new n1353 e1356 h1358 fr1359
          obtain ⟨g1361, hw⟩ := cW_grd hw
          refine ⟨_, rfl, _, _, rfl, rfl, (divW_lit (by decide) (by decide)), _, _, rfl, rfl, (show (0 : Int) < 2 by decide), _, _, rfl, rfl, _, _, _, rfl, rfl, h1358, g1361.1, g1361.2.1, (rep_lenM g1361.2.2), fun p1362 n1363 => ?_⟩
          generalize g1364 : upd H1355 p1362 _ = H1365
          obtain ⟨e1366, h1367⟩ := gen_new n1363 g1364
          have h1368 : H1365 p1362 = some (.lst ((repL ([5]) ((65536 + ((v1325 / 16) % 2))) : (List Int)).map V.int)) := rep_map h1367
          have fr1369 := S1360.free n1363
          have S1370 := S1360.new n1363 e1366 h1368 fr1369
          obtain ⟨g1371, hw⟩ := cW_grd hw
          have h1372 := (e1366 _ _ (e1356 _ _ h1349))
          refine ⟨_, _, _, _, rfl, rfl, h1372, h1368, (cat_lenM g1371), fun p1373 n1374 => ?_⟩
          generalize g1375 : upd H1365 p1373 _ = H1376
          obtain ⟨e1377, h1378⟩ := gen_new n1374 g1375
          have h1379 : H1376 p1373 = some (.lst ((((cutL (octets_1261) none (some (200))) ++ ([0, 0, 1, 9])) ++ (repL ([5]) ((65536 + ((v1325 / 16) % 2)))) : (List Int)).map V.int)) := cat_map h1378
          have fr1380 := S1370.free n1374
          have S1381 := S1370.new n1374 e1377 h1379 fr1380
          refine ⟨(by show 2 ≤ sizeLine; decide), fun p1382 n1383 => ?_⟩
          generalize g1384 : upd H1376 p1382 _ = H1385
          obtain ⟨e1386, h1387⟩ := gen_new n1383 g1384
          have h1388 : H1385 p1382 = some (.lst (([128, 0] : (List Int)).map V.int)) := h1387
          have fr1389 := S1381.free n1383
          have S1390 := S1381.new n1383 e1386 h1388 fr1389
          obtain ⟨g1391, hw⟩ := cW_grd hw
          have h1392 := (e1386 _ _ h1379)
          refine ⟨_, _, _, _, rfl, rfl, h1392, h1388, (cat_lenM g1391), fun p1393 n1394 => ?_⟩
          generalize g1395 : upd H1385 p1393 _ = H1396
          obtain ⟨e1397, h1398⟩ := gen_new n1394 g1395
          have h1399 : H1396 p1393 = some (.lst (((((cutL (octets_1261) none (some (200))) ++ ([0, 0, 1, 9])) ++ (repL ([5]) ((65536 + ((v1325 / 16) % 2))))) ++ ([128, 0]) : (List Int)).map V.int)) := cat_map h1398
          have fr1400 := S1390.free n1394
          have S1401 := S1390.new n1394 e1397 h1399 fr1400
          have hw := cW_ok hw
          have hw := hK1330 _ hw
          exact ⟨_, ((((cutL (octets_1261) none (some (200))) ++ ([0, 0, 1, 9])) ++ (repL ([5]) ((65536 + ((v1325 / 16) % 2))))) ++ ([128, 0])), _, rfl, (Same.refl _), (S1401.sub (all_cons (.head _) all_nil)), h1399, fr1400, hw⟩
        · have hw := cW_neg c1331 hw
          have hw := cW_ok hw
          have hw := hK1330 _ hw
          exact ⟨_, (cutL (octets_1261) none (some (200))), _, rfl, (Same.refl _), (S1324.sub (all_cons (.head _) all_nil)), h1322, fr1323, hw⟩
      · intro σ H1402 hw
        obtain ⟨p1328, octets_1327, G1406, rfl, eG1407, S1403, h1404, fr1405, hw⟩ := hw
        unfold F_law_k2 at hw
        refine ⟨_, rfl, _, _, rfl, (SqL.of h1404), fun p1408 n1409 => ?_⟩
        generalize g1410 : upd H1402 p1408 _ = H1411
        obtain ⟨e1412, h1413⟩ := gen_new n1409 g1410
        have h1414 : H1411 p1408 = some (.lst ((octets_1327 : (List Int)).map V.int)) := h1413
        have fr1415 := S1403.free n1409
        have S1416 := S1403.new n1409 e1412 h1414 fr1415
        refine ⟨_, rfl, rfl, rfl, G1406, _, _, rfl, S1416.sG, (hide_nil h1414), cW_call hw (fun v1417 hw p1420 vs1421 H1418 G1422 n1423 e1419 eG1424 sG1425 hn1426 gp1427 h1428 d1429 => ?_) (fun e he => (hE e he).elim)⟩
        have fr1431 := S1416.free n1423
        have S1430 := S1416.stepnew e1419 eG1424 sG1425 hn1426 n1423 h1428 gp1427 fr1431
        have h1432 := (e1419 _ _ (e1412 _ _ h1404))
        refine ⟨_, rfl, rfl, rfl, G1422, _, _, rfl, S1430.sG, (hide_nil h1432), cW_callN hw (fun v1433 hw H1434 a1436 vs1437 L1438 G1439 n1440 nb1441 nd1442 e1435 eG1443 sG1444 hn1445 ga1446 gL1447 h1448 w1449 => ?_) trivial⟩
        have fr1450 := S1430.free n1440
        have S1451 : Sep _ _ _ _ H1434 (a1436 :: (L1438 ++ (p1420 :: (p1408 :: (p1328 :: []))))) := Sep.steptree S1430 e1435 eG1443 sG1444 hn1445 (a1436 :: L1438) (all_cons ⟨n1440, ga1446, some_ne h1448⟩ (fun b hb => ⟨nb1441 b hb, gL1447 b hb, OwAll.there w1449 b hb⟩))
        have h1452 := (e1435 _ _ h1428)
        refine ⟨_, rfl, _, _, _, rfl, (SqL.of h1448), (by rw [(OwAll.rpA w1449 encO_U3 S1451.sG).len, List.length_map]), _, rfl, _, _, _, rfl, (SqL.of h1452), (by rw [(RpAll.mono eG1443 d1429).len, List.length_map]), _, _, rfl, rfl, _, rfl, ?_⟩
        refine iteN (fun c1453 => ?_) (fun c1453 => ?_)
        · have hw := cW_neg c1453 hw
          refine iteT ?_
          have hw := cW_ok hw
          exact eq_bl (k _) (hK0 _ hw).symm
        · have hw := cW_pos c1453 hw
          have h1454 := (e1435 _ _ h1432)
          have h1455 := (e1435 _ _ (e1419 _ _ h1414))
          refine ⟨_, rfl, _, rfl, _, _, (rp_mk_ints h1454), (rp_mk_ints h1455), _, rfl, ?_⟩
          refine iteN (fun c1456 => ?_) (fun c1456 => ?_)
          · have hw := cW_neg c1456 hw
            have hw := cW_ok hw
            exact eq_bl (k _) (hK0 _ hw).symm
          · have hw := cW_pos c1456 hw
            obtain ⟨g1457, hw⟩ := cW_grd hw
            obtain ⟨K1463, hK1464, hw⟩ := cW_push hw
            refine ⟨_, rfl, _, _, _, rfl, (SqL.of h1452), (by rw [(RpAll.mono eG1443 d1429).len, List.length_map]), _, rfl, g1457.1, g1457.2, for_range (lo := 0) (n := Int.toNat ((((v1417) : (List (Int × Int × (List Int)))).length : Int))) (fun i σ H' => ∃ (u1465 : Option V) (G' : Hp), σ = [some (V.ref a_script), some (V.ref p1328), u1263, some (V.int (v1325)), some (V.ref p1408), some (V.ref p1420), some (V.ref a1436), u1465, none, none, none, none, none] ∧ Same G1439 G' ∧ Sep [] H H G' H' (p1328 :: (p1408 :: (p1420 :: (a1436 :: (L1438 ++ []))))) ∧ H' p1328 = some (.lst ((octets_1327 : (List Int)).map V.int)) ∧ H' p1408 = some (.lst ((octets_1327 : (List Int)).map V.int)) ∧ H' p1420 = some (.lst (vs1421)) ∧ H' a1436 = some (.lst (vs1437)) ∧ OwAll G' H' L1438 (vs1437) ((v1433 : (List (Int × Int × (List Int)))).map oU3) ∧ cW (forR (List.drop i (rng (0) (Int.toNat ((((v1417) : (List (Int × Int × (List Int)))).length : Int))))) () (fun s x => F_law_b3 (v1417) (v1433)  x)) K1463 EE) ?_ ?_ ?_⟩
            · exact ⟨_, _, rfl, (Same.refl _), (S1451.sub (all_cons (.tail _ (List.mem_append_right _ (.tail _ (.tail _ (.head _))))) (all_cons (.tail _ (List.mem_append_right _ (.tail _ (.head _)))) (all_cons (.tail _ (List.mem_append_right _ (.head _))) (all_cons (.head _) (all_app ((fun b hb => (.tail _ (List.mem_append_left _ hb))) : ∀ b ∈ L1438, b ∈ (a1436 :: (L1438 ++ (p1420 :: (p1408 :: (p1328 :: [])))))) all_nil)))))), h1454, h1455, h1452, h1448, w1449, hw⟩
            · intro i σ H1466 hi hw
              obtain ⟨u1465, G1473, rfl, eG1474, S1467, h1468, h1469, h1470, h1471, w1472, hw⟩ := hw
              have hw := cW_forR (rng_get hi) hw
              generalize (0 + (i : Int)) = x1475 at hw ⊢
              have hw : cW (F_law_b3 (v1417) (v1433)  (x1475)) _ EE := hw
              unfold F_law_b3 at hw
              obtain ⟨K1476, hK1477, hw⟩ := cW_name hw
              obtain ⟨g1479, hw⟩ := cW_grd hw
              obtain ⟨v1480, L1481, a1482, w1483, hs1484, up1485, gr1486⟩ := OwAll.partM (k := x1475) w1472 g1479
              obtain ⟨p1487, b1488, rfl, rfl, h1489, h1490, nb1491⟩ := Ow.toU3 w1483
              refine ⟨_, rfl, _, rfl, _, _, _, _, rfl, rfl, (SqL.of h1471), a1482, _, _, _, _, _, rfl, (.ty _), (.base (.tup h1489)), rfl, _, rfl, ?_⟩
              refine iteF ?_
              obtain ⟨g1492, hw⟩ := cW_grd hw
              obtain ⟨v1493, L1494, a1495, w1496, hs1497, up1498, gr1499⟩ := OwAll.partM (k := x1475) w1472 g1492
              obtain ⟨p1500, b1501, rfl, rfl, h1502, h1503, nb1504⟩ := Ow.toU3 w1496
              obtain ⟨g1505, hw⟩ := cW_grd hw
              obtain ⟨v1506, a1507, r1508⟩ := RpAll.ixD (k := x1475) (RpAll.mono eG1474 (RpAll.mono eG1443 d1429)) g1505
              obtain ⟨a1509, v1511, v1512, v1513, rfl, h1510, r1514, r1515, r1516⟩ := rp_tup3 r1508
              obtain rfl := rp_int r1514
              obtain rfl := rp_int r1515
              obtain ⟨a1517, rfl, h1518⟩ := rp_ints r1516
              refine ⟨_, rfl, _, rfl, _, _, _, _, rfl, rfl, (SqL.of h1471), a1495, _, rfl, _, rfl, _, _, _, _, rfl, rfl, (SqL.of h1470), a1507, _, _, (rp_mk3 h1502 (.int _) (.int _) (rp_mk_ints h1503)), (rp_mk3 (S1467.sG _ _ h1510) (.int _) (.int _) (rp_mk_ints (S1467.sG _ _ h1518))), _, rfl, ?_⟩
              refine iteN (fun c1519 => ?_) (fun c1519 => ?_)
              · have hw := cW_neg c1519 hw
                have hw := cW_ok hw
                have hw := hK1477 (.rt _) hw
                have hw := hK1464 (.rt _) hw
                have hw := cW_ok hw
                exact eq_bl (k _) (hK0 _ hw).symm
              · have hw := cW_pos c1519 hw
                have hw := cW_ok hw
                have hw := hK1477 _ hw
                exact ⟨_, _, rfl, eG1474, S1467, h1468, h1469, h1470, h1471, w1472, hw⟩
            · intro σ H1520 hw
              obtain ⟨u1465, G1527, rfl, eG1528, S1521, h1522, h1523, h1524, h1525, w1526, hw⟩ := hw
              have hw := cW_aftgo (hK1464 _ (cW_forR0 (rng_len _ _).symm hw))
              have hw : cW (F_law_r3 (octets_1327) (v1417) (v1433) ) _ EE := hw
              unfold F_law_r3 at hw
              refine ⟨(by show 2 ≤ sizeLine; decide), fun p1529 n1530 => ?_⟩
              generalize g1531 : upd H1520 p1529 _ = H1532
              obtain ⟨e1533, h1534⟩ := gen_new n1530 g1531
              have h1535 : H1532 p1529 = some (.lst (([true, false] : (List Bool)).map V.bl)) := h1534
              have fr1536 := S1521.free n1530
              have S1537 := S1521.new n1530 e1533 h1535 fr1536
              obtain ⟨K1541, hK1542, hw⟩ := cW_push hw
              refine ⟨_, rfl, ⟨_, (SqL.of h1535)⟩, for_list (K := K) (a := p1529) (xs := ([true, false] : (List Bool)).map V.bl) (fun i σ H' => ∃ (actual_1543 : (List (Int × Int × (List Int)))) (vs1544 : List V) (L1545 : List Addr) (u1546 : Option V) (u1547 : Option V) (u1548 : Option V) (u1549 : Option V) (G' : Hp), σ = [some (V.ref a_script), some (V.ref p1328), u1263, some (V.int (v1325)), some (V.ref p1408), some (V.ref p1420), some (V.ref a1436), u1465, u1546, u1547, u1548, u1549, none] ∧ Same G1527 G' ∧ Sep [] H H G' H' (p1328 :: (p1408 :: (p1420 :: (a1436 :: (p1529 :: (L1545 ++ [])))))) ∧ H' p1328 = some (.lst ((octets_1327 : (List Int)).map V.int)) ∧ H' p1408 = some (.lst ((octets_1327 : (List Int)).map V.int)) ∧ H' p1420 = some (.lst (vs1421)) ∧ H' a1436 = some (.lst (vs1544)) ∧ H' p1529 = some (.lst (([true, false] : (List Bool)).map V.bl)) ∧ (∀ b ∈ L1545, b ≠ p1328) ∧ (∀ b ∈ L1545, b ≠ p1408) ∧ (∀ b ∈ L1545, b ≠ p1420) ∧ (∀ b ∈ L1545, b ≠ a1436) ∧ (∀ b ∈ L1545, b ≠ p1529) ∧ OwAll G' H' L1545 (vs1544) ((actual_1543 : (List (Int × Int × (List Int)))).map oU3) ∧ cW (forR (List.drop i ([true, false])) actual_1543 (fun s x => F_law_b4 (v1417) s x)) K1541 EE) ?_ ?_ ?_ ?_⟩
              · have h1550 := (e1533 _ _ h1522)
                have h1551 := (e1533 _ _ h1523)
                have h1552 := (e1533 _ _ h1524)
                have h1553 := (e1533 _ _ h1525)
                have w1554 : OwAll G1527 H1532 L1438 (vs1437) ((v1433 : (List (Int × Int × (List Int)))).map oU3) := (OwAll.mono (Same.refl _) (keeps_same e1533) w1526)
                exact ⟨(v1433), (vs1437), L1438, _, _, _, _, _, rfl, (Same.refl _), (S1537.sub (all_cons (.tail _ (.head _)) (all_cons (.tail _ (.tail _ (.head _))) (all_cons (.tail _ (.tail _ (.tail _ (.head _)))) (all_cons (.tail _ (.tail _ (.tail _ (.tail _ (.head _))))) (all_cons (.head _) (all_app ((fun b hb => (.tail _ (.tail _ (.tail _ (.tail _ (.tail _ (List.mem_append_left _ hb))))))) : ∀ b ∈ L1438, b ∈ (p1529 :: (p1328 :: (p1408 :: (p1420 :: (a1436 :: (L1438 ++ []))))))) all_nil))))))), h1550, h1551, h1552, h1553, h1535, (new_ne2 nb1441 (S1430.ow _ (.tail _ (.tail _ (.head _)))).2.1), (new_ne2 nb1441 (S1430.ow _ (.tail _ (.head _))).2.1), (new_ne2 nb1441 (S1430.ow _ (.head _)).2.1), nd1442, (there_ne (fun b_ hb_ => (S1521.ow b_ (((fun b hb => (.tail _ (.tail _ (.tail _ (.tail _ (List.mem_append_left _ hb)))))) : ∀ b ∈ L1438, b ∈ (p1328 :: (p1408 :: (p1420 :: (a1436 :: (L1438 ++ [])))))) b_ hb_)).2.1) n1530), w1554, hw⟩
              · intro i σ H1555 _ hw
                obtain ⟨actual_1543, vs1544, L1545, u1546, u1547, u1548, u1549, G1568, hw⟩ := hw
                obtain ⟨rfl, eG1569, S1556, h1557, h1558, h1559, h1560, h1561, hw⟩ := hw
                obtain ⟨ne1562, ne1563, ne1564, ne1565, ne1566, w1567, hw⟩ := hw
                exact (SqL.of h1561)
              · intro i x σ H1570 hj hw
                obtain ⟨actual_1543, vs1544, L1545, u1546, u1547, u1548, u1549, G1583, hw⟩ := hw
                obtain ⟨rfl, eG1584, S1571, h1572, h1573, h1574, h1575, h1576, hw⟩ := hw
                obtain ⟨ne1577, ne1578, ne1579, ne1580, ne1581, w1582, hw⟩ := hw
                obtain ⟨x1585, hx, rfl⟩ := map_getF hj
                have hw := cW_forR hx hw
                have hw : cW (F_law_b4 (v1417) (actual_1543) (x1585)) _ EE := hw
                unfold F_law_b4 at hw
                obtain ⟨K1587, hK1588, hw⟩ := cW_name hw
                obtain ⟨g1590, hw⟩ := cW_grd hw
                obtain ⟨K1594, hK1595, hw⟩ := cW_push hw
                refine ⟨_, rfl, _, _, _, rfl, (SqL.of h1574), (by rw [(RpAll.mono eG1584 (RpAll.mono eG1528 (RpAll.mono eG1443 d1429))).len, List.length_map]), _, rfl, g1590.1, g1590.2, fun D1596 n1597 => lc_range (lo := 0) (n := Int.toNat ((((v1417) : (List (Int × Int × (List Int)))).length : Int))) (fun i1 H' => ∃ (G' : Hp) (acc1599 : (List Int)), Same G1583 G' ∧ Sep [] H H G' H' (D1596 :: (a1436 :: (p1328 :: (p1408 :: (p1420 :: (p1529 :: (L1545 ++ []))))))) ∧ H' a1436 = some (.lst (vs1544)) ∧ H' p1328 = some (.lst ((octets_1327 : (List Int)).map V.int)) ∧ H' p1408 = some (.lst ((octets_1327 : (List Int)).map V.int)) ∧ H' p1420 = some (.lst (vs1421)) ∧ H' p1529 = some (.lst (([true, false] : (List Bool)).map V.bl)) ∧ H' D1596 = some (.lst ((acc1599 : (List Int)).map V.int)) ∧ OwAll G' H' L1545 (vs1544) ((actual_1543 : (List (Int × Int × (List Int)))).map oU3) ∧ Same H1570 H' ∧ cW (mapF (List.drop i1 (rng (0) (Int.toNat ((((v1417) : (List (Int × Int × (List Int)))).length : Int))))) acc1599 (fun x => noEr (F_law_c5 (v1417) (x1585) x))) K1594 EE) ?_ ?_ ?_⟩
                · generalize g1601 : upd H1570 D1596 _ = H1602
                  obtain ⟨e1603, h1604⟩ := gen_new n1597 g1601
                  have fr1605 := S1571.free n1597
                  have S1606 := S1571.new n1597 e1603 h1604 fr1605
                  have h1607 := (e1603 _ _ h1575)
                  have h1608 := (e1603 _ _ h1572)
                  have h1609 := (e1603 _ _ h1573)
                  have h1610 := (e1603 _ _ h1574)
                  have h1611 := (e1603 _ _ h1576)
                  have w1612 : OwAll G1583 H1602 L1545 (vs1544) ((actual_1543 : (List (Int × Int × (List Int)))).map oU3) := (OwAll.mono (Same.refl _) (keeps_same e1603) w1582)
                  exact ⟨_, [], Same.refl _, (S1606.sub (all_cons (.head _) (all_cons (.tail _ (.tail _ (.tail _ (.tail _ (.head _))))) (all_cons (.tail _ (.head _)) (all_cons (.tail _ (.tail _ (.head _))) (all_cons (.tail _ (.tail _ (.tail _ (.head _)))) (all_cons (.tail _ (.tail _ (.tail _ (.tail _ (.tail _ (.head _)))))) (all_app ((fun b hb => (.tail _ (.tail _ (.tail _ (.tail _ (.tail _ (.tail _ (List.mem_append_left _ hb)))))))) : ∀ b ∈ L1545, b ∈ (D1596 :: (p1328 :: (p1408 :: (p1420 :: (a1436 :: (p1529 :: (L1545 ++ [])))))))) all_nil)))))))), h1607, h1608, h1609, h1610, h1611, h1604, w1612, e1603, hw⟩
                · intro i1 H1613 hi hw
                  obtain ⟨G1616, acc1618, eG1617, S1614, h1625, h1626, h1627, h1628, h1629, h1615, w1630, eo1624, hw⟩ := hw
                  obtain ⟨z1631, hw⟩ := cW_mapF (rng_get hi) hw
                  generalize (0 + (i1 : Int)) = x1632 at hw ⊢
                  have hw := cW_noEr hw
                  have hw : cW (F_law_c5 (v1417) (x1585) (x1632)) _ (fun _ => False) := hw
                  unfold F_law_c5 at hw
                  refine ⟨rfl, ?_⟩
                  obtain ⟨g1634, hw⟩ := cW_grd hw
                  obtain ⟨v1635, a1636, r1637⟩ := RpAll.ixD (k := x1632) (RpAll.mono eG1617 (RpAll.mono eG1584 (RpAll.mono eG1528 (RpAll.mono eG1443 d1429)))) g1634
                  obtain ⟨a1638, v1640, v1641, v1642, rfl, h1639, r1643, r1644, r1645⟩ := rp_tup3 r1637
                  obtain rfl := rp_int r1643
                  obtain rfl := rp_int r1644
                  obtain ⟨a1646, rfl, h1647⟩ := rp_ints r1645
                  refine ⟨_, rfl, _, rfl, _, _, _, _, rfl, rfl, (SqL.of h1628), a1636, _, _, _, _, rfl, rfl, (SqT.of (S1614.sG _ _ h1639)), rfl, _, _, rfl, rfl, _, rfl, rfl, _, rfl, ?_⟩
                  refine iteD (fun c1648 => ?_) (fun c1648 => ?_)
                  · have hw := cW_pos c1648 hw
                    refine ⟨_, rfl, _, h1615, (app_lenM z1631), ?_⟩
                    generalize g1649 : upd H1613 D1596 _ = H1650
                    obtain ⟨x1651, h1652⟩ := gen_mut g1649
                    have S1653 := S1614.mut1 x1651 (.head _) h1652
                    have hw := cW_ok hw
                    have h1654 := (x1651 _ _ h1625 (ne_of_none h1575 n1597))
                    have h1655 := (x1651 _ _ h1626 (ne_of_none h1572 n1597))
                    have h1656 := (x1651 _ _ h1627 (ne_of_none h1573 n1597))
                    have h1657 := (x1651 _ _ h1628 (ne_of_none h1574 n1597))
                    have h1658 := (x1651 _ _ h1629 (ne_of_none h1576 n1597))
                    have w1659 : OwAll G1616 H1650 L1545 (vs1544) ((actual_1543 : (List (Int × Int × (List Int)))).map oU3) := (OwAll.mono (Same.refl _) (keeps_mut x1651 ((there_ne (fun b_ hb_ => (S1571.ow b_ (((fun b hb => (.tail _ (.tail _ (.tail _ (.tail _ (.tail _ (List.mem_append_left _ hb))))))) : ∀ b ∈ L1545, b ∈ (p1328 :: (p1408 :: (p1420 :: (a1436 :: (p1529 :: (L1545 ++ []))))))) b_ hb_)).2.1) n1597) : ∀ b ∈ L1545, b ≠ D1596)) w1630)
                    exact ⟨_, (acc1618 ++ [x1632]), eG1617, S1653, h1654, h1655, h1656, h1657, h1658, (snoc_map h1652), w1659, (same_mut eo1624 x1651 n1597), hw⟩
                  · have hw := cW_neg c1648 hw
                    have hw := cW_ok hw
                    exact ⟨_, acc1618, eG1617, S1614, h1625, h1626, h1627, h1628, h1629, h1615, w1630, eo1624, hw⟩
                intro H1660 hw
                obtain ⟨G1663, acc1665, eG1664, S1661, h1672, h1673, h1674, h1675, h1676, h1662, w1677, eo1671, hw⟩ := hw
                have hw := hK1595 _ (cW_mapF0 (rng_len _ _).symm hw)
                have fr1678 := S1571.free n1597
                refine ⟨_, rfl, _, _, rfl, (SqL.of h1662), _, _, rfl, rfl, _, rfl, ?_⟩
                refine iteD (fun c1679 => ?_) (fun c1679 => ?_)
                · have hw := cW_pos c1679 hw
                  obtain ⟨g1680, hw⟩ := cW_grd hw
                  obtain ⟨g1681, hw⟩ := cW_grd hw
                  obtain ⟨v1682, L1683, a1684, w1685, hs1686, up1687, gr1688⟩ := OwAll.partM (k := (itD (acc1665) (0))) w1677 g1681
                  obtain ⟨p1689, b1690, rfl, rfl, h1691, h1692, nb1693⟩ := Ow.toU3 w1685
                  obtain ⟨g1694, hw⟩ := cW_grd hw
                  refine ⟨_, rfl, _, rfl, _, _, _, _, rfl, rfl, (SqL.of h1662), (atI_map g1680), _, _, _, _, rfl, rfl, (SqL.of h1672), a1684, _, _, _, _, rfl, rfl, (SqT.of h1691), rfl, _, rfl, (.inl ⟨rfl, _, SqL.of h1692⟩), _, _, _, rfl, rfl, h1692, (app_lenM g1694), ?_⟩
                  generalize g1695 : upd H1660 b1690 _ = H1696
                  obtain ⟨x1697, h1698⟩ := gen_mut g1695
                  have h1699 : H1696 b1690 = some (.lst (((((itD (actual_1543) ((itD (acc1665) (0))))).2.2) ++ [1] : (List Int)).map V.int)) := snoc_map h1698
                  have S1700 := S1661.mut1 x1697 ((((fun b hb => (.tail _ (.tail _ (.tail _ (.tail _ (.tail _ (.tail _ (List.mem_append_left _ hb)))))))) : ∀ b ∈ L1545, b ∈ (D1596 :: (a1436 :: (p1328 :: (p1408 :: (p1420 :: (p1529 :: (L1545 ++ [])))))))) : ∀ b ∈ L1545, b ∈ (D1596 :: (a1436 :: (p1328 :: (p1408 :: (p1420 :: (p1529 :: (L1545 ++ [])))))))) _ (hs1686 _ (List.mem_cons_of_mem _ List.mem_cons_self))) h1699
                  have h1701 := (x1697 _ _ h1691 (nb1693).symm)
                  have w1702 : OwAll G1663 H1696 L1545 (vs1544) ((setL (actual_1543) ((itD (acc1665) (0))) ((((itD (actual_1543) ((itD (acc1665) (0))))).1, ((itD (actual_1543) ((itD (acc1665) (0))))).2.1, (((itD (actual_1543) ((itD (acc1665) (0))))).2.2) ++ [1])) : (List (Int × Int × (List Int)))).map oU3) := upd_tree up1687 x1697 (List.mem_cons_of_mem _ List.mem_cons_self) (Ow.u3 h1701 h1699 nb1693)
                  have hw := cW_bnd hw
                  have h1704 := (x1697 _ _ h1675 (ne1579 _ (hs1686 _ (List.mem_cons_of_mem _ List.mem_cons_self))).symm)
                  obtain ⟨K1706, hK1707, hw⟩ := cW_push hw
                  refine ⟨_, rfl, _, rfl, ⟨_, (SqL.of h1704)⟩, fun D1708 n1709 => lc_list (K := K) (a := p1420) (xs := vs1421) (fun i1 H' => ∃ (G' : Hp) (acc1711 : (List (Int × Int × (List Int)))) (vs1712 : List V) (L1710 : List Addr), Same G1663 G' ∧ Sep [] H H G' H' (D1708 :: (L1710 ++ (a1436 :: (p1328 :: (p1408 :: (p1420 :: (D1596 :: (p1529 :: (L1545 ++ []))))))))) ∧ H' a1436 = some (.lst (vs1544)) ∧ H' p1328 = some (.lst ((octets_1327 : (List Int)).map V.int)) ∧ H' p1408 = some (.lst ((octets_1327 : (List Int)).map V.int)) ∧ H' p1420 = some (.lst (vs1421)) ∧ H' D1596 = some (.lst ((acc1665 : (List Int)).map V.int)) ∧ H' p1529 = some (.lst (([true, false] : (List Bool)).map V.bl)) ∧ H' D1708 = some (.lst vs1712) ∧ OwAll G' H' L1545 (vs1544) ((setL (actual_1543) ((itD (acc1665) (0))) ((((itD (actual_1543) ((itD (acc1665) (0))))).1, ((itD (actual_1543) ((itD (acc1665) (0))))).2.1, (((itD (actual_1543) ((itD (acc1665) (0))))).2.2) ++ [1])) : (List (Int × Int × (List Int)))).map oU3) ∧ OwAll G' H' L1710 vs1712 ((acc1711 : (List (Int × Int × (List Int)))).map oU3) ∧ (∀ b ∈ L1710, H1696 b = none) ∧ (∀ b ∈ L1710, b ≠ D1708) ∧ Same H1696 H' ∧ cW (mapA (List.drop i1 (v1417)) acc1711 (fun x => noEr (F_law_c6  x))) K1706 EE) ?_ ?_ ?_ ?_⟩
                  · generalize g1713 : upd H1696 D1708 _ = H1714
                    obtain ⟨e1715, h1716⟩ := gen_new n1709 g1713
                    have fr1717 := S1700.free n1709
                    have S1718 := S1700.new n1709 e1715 h1716 fr1717
                    have h1719 := (e1715 _ _ (x1697 _ _ h1672 (ne1580 _ (hs1686 _ (List.mem_cons_of_mem _ List.mem_cons_self))).symm))
                    have h1720 := (e1715 _ _ (x1697 _ _ h1673 (ne1577 _ (hs1686 _ (List.mem_cons_of_mem _ List.mem_cons_self))).symm))
                    have h1721 := (e1715 _ _ (x1697 _ _ h1674 (ne1578 _ (hs1686 _ (List.mem_cons_of_mem _ List.mem_cons_self))).symm))
                    have h1722 := (e1715 _ _ h1704)
                    have h1723 := (e1715 _ _ (x1697 _ _ h1662 ((there_ne (fun b_ hb_ => (S1571.ow b_ (((fun b hb => (.tail _ (.tail _ (.tail _ (.tail _ (.tail _ (List.mem_append_left _ hb))))))) : ∀ b ∈ L1545, b ∈ (p1328 :: (p1408 :: (p1420 :: (a1436 :: (p1529 :: (L1545 ++ []))))))) b_ hb_)).2.1) n1597) _ (hs1686 _ (List.mem_cons_of_mem _ List.mem_cons_self))).symm))
                    have h1724 := (e1715 _ _ (x1697 _ _ h1676 (ne1581 _ (hs1686 _ (List.mem_cons_of_mem _ List.mem_cons_self))).symm))
                    have w1725 : OwAll G1663 H1714 L1545 (vs1544) ((setL (actual_1543) ((itD (acc1665) (0))) ((((itD (actual_1543) ((itD (acc1665) (0))))).1, ((itD (actual_1543) ((itD (acc1665) (0))))).2.1, (((itD (actual_1543) ((itD (acc1665) (0))))).2.2) ++ [1])) : (List (Int × Int × (List Int)))).map oU3) := (OwAll.mono (Same.refl _) (keeps_same e1715) w1702)
                    exact ⟨_, [], [], [], Same.refl _, (S1718.sub (all_cons (.head _) (all_app (L := []) all_nil (all_cons (.tail _ (.tail _ (.head _))) (all_cons (.tail _ (.tail _ (.tail _ (.head _)))) (all_cons (.tail _ (.tail _ (.tail _ (.tail _ (.head _))))) (all_cons (.tail _ (.tail _ (.tail _ (.tail _ (.tail _ (.head _)))))) (all_cons (.tail _ (.head _)) (all_cons (.tail _ (.tail _ (.tail _ (.tail _ (.tail _ (.tail _ (.head _))))))) (all_app ((fun b hb => (.tail _ (.tail _ (.tail _ (.tail _ (.tail _ (.tail _ (.tail _ (List.mem_append_left _ hb))))))))) : ∀ b ∈ L1545, b ∈ (D1708 :: (D1596 :: (a1436 :: (p1328 :: (p1408 :: (p1420 :: (p1529 :: (L1545 ++ []))))))))) all_nil)))))))))), h1719, h1720, h1721, h1722, h1723, h1724, h1716, w1725, OwAll.nil, all_nil, all_nil, e1715, hw⟩
                  · intro i1 H1726 _ hw
                    obtain ⟨G1729, acc1731, vs1732, L1734, eG1730, S1727, h1738, h1739, hw⟩ := hw
                    obtain ⟨h1740, h1741, h1742, h1743, h1728, w1744, d1733, nb1735, nd1736, eo1737, hw⟩ := hw
                    exact (SqL.of h1741)
                  · intro i1 x H1745 hj hw
                    obtain ⟨G1748, acc1750, vs1751, L1753, eG1749, S1746, h1757, h1758, hw⟩ := hw
                    obtain ⟨h1759, h1760, h1761, h1762, h1747, w1763, d1752, nb1754, nd1755, eo1756, hw⟩ := hw
                    obtain ⟨x1764, hx, r1765⟩ := RpAll.get (RpAll.mono eG1749 (RpAll.mono eG1664 (RpAll.mono eG1584 (RpAll.mono eG1528 (RpAll.mono eG1443 d1429))))) hj
                    obtain ⟨a1766, v1768, v1769, v1770, rfl, h1767, r1771, r1772, r1773⟩ := rp_tup3 r1765
                    obtain rfl := rp_int r1771
                    obtain rfl := rp_int r1772
                    obtain ⟨a1774, rfl, h1775⟩ := rp_ints r1773
                    obtain ⟨z1776, hw⟩ := cW_mapA hx hw
                    have hw := cW_noEr hw
                    have hw : cW (F_law_c6  (x1764)) _ (fun _ => False) := hw
                    unfold F_law_c6 at hw
                    refine ⟨rfl, ?_⟩
                    refine tyes_go ?_
                    refine ⟨_, rfl, _, _, _, _, rfl, rfl, (SqT.of (S1746.sG _ _ h1767)), rfl, _, rfl, _, _, _, _, rfl, rfl, (SqT.of (S1746.sG _ _ h1767)), rfl, _, rfl, _, _, _, _, rfl, rfl, (SqT.of (S1746.sG _ _ h1767)), rfl, _, _, rfl, (SqL.of (S1746.sG _ _ h1775)), fun p1778 n1779 => ?_⟩
                    generalize g1780 : upd H1745 p1778 _ = H1781
                    obtain ⟨e1782, h1783⟩ := gen_new n1779 g1780
                    have h1784 : H1781 p1778 = some (.lst ((x1764.2.2 : (List Int)).map V.int)) := h1783
                    have fr1785 := S1746.free n1779
                    have S1786 := S1746.new n1779 e1782 h1784 fr1785
                    refine ⟨(by show 3 ≤ sizeLine; decide), fun p1787 n1788 => ?_⟩
                    generalize g1789 : upd H1781 p1787 _ = H1790
                    obtain ⟨e1791, h1792⟩ := gen_new n1788 g1789
                    have h1793 : H1790 p1787 = some (.tup [V.int (x1764.1), V.int (x1764.2.1), V.ref p1778]) := h1792
                    have fr1794 := S1786.free n1788
                    have S1795 := S1786.new n1788 e1791 h1793 fr1794
                    have w1796 : OwAll G1748 H1790 L1753 (vs1751) ((acc1750 : (List (Int × Int × (List Int)))).map oU3) := (OwAll.mono (Same.refl _) (keeps_same e1791) (OwAll.mono (Same.refl _) (keeps_same e1782) d1752))
                    have h1797 := (e1791 _ _ h1784)
                    have h1798 := (e1791 _ _ (e1782 _ _ h1747))
                    refine ⟨_, h1798, (app_len (OwAll.rpA w1796 encO_U3 S1795.sG) z1776), ?_⟩
                    generalize g1799 : upd H1790 D1708 _ = H1800
                    obtain ⟨x1801, h1802⟩ := gen_mut g1799
                    have S1803 := S1795.mut1 x1801 (.tail _ (.tail _ (.head _))) h1802
                    have hw := cW_ok hw
                    have h1804 := (x1801 _ _ (e1791 _ _ (e1782 _ _ h1757)) (ne_of_none (x1697 _ _ h1672 (ne1580 _ (hs1686 _ (List.mem_cons_of_mem _ List.mem_cons_self))).symm) n1709))
                    have h1805 := (x1801 _ _ (e1791 _ _ (e1782 _ _ h1758)) (ne_of_none (x1697 _ _ h1673 (ne1577 _ (hs1686 _ (List.mem_cons_of_mem _ List.mem_cons_self))).symm) n1709))
                    have h1806 := (x1801 _ _ (e1791 _ _ (e1782 _ _ h1759)) (ne_of_none (x1697 _ _ h1674 (ne1578 _ (hs1686 _ (List.mem_cons_of_mem _ List.mem_cons_self))).symm) n1709))
                    have h1807 := (x1801 _ _ (e1791 _ _ (e1782 _ _ h1760)) (ne_of_none h1704 n1709))
                    have h1808 := (x1801 _ _ (e1791 _ _ (e1782 _ _ h1761)) (ne_of_none (x1697 _ _ h1662 ((there_ne (fun b_ hb_ => (S1571.ow b_ (((fun b hb => (.tail _ (.tail _ (.tail _ (.tail _ (.tail _ (List.mem_append_left _ hb))))))) : ∀ b ∈ L1545, b ∈ (p1328 :: (p1408 :: (p1420 :: (a1436 :: (p1529 :: (L1545 ++ []))))))) b_ hb_)).2.1) n1597) _ (hs1686 _ (List.mem_cons_of_mem _ List.mem_cons_self))).symm) n1709))
                    have h1809 := (x1801 _ _ (e1791 _ _ (e1782 _ _ h1762)) (ne_of_none (x1697 _ _ h1676 (ne1581 _ (hs1686 _ (List.mem_cons_of_mem _ List.mem_cons_self))).symm) n1709))
                    have w1810 : OwAll G1748 H1800 L1545 (vs1544) ((setL (actual_1543) ((itD (acc1665) (0))) ((((itD (actual_1543) ((itD (acc1665) (0))))).1, ((itD (actual_1543) ((itD (acc1665) (0))))).2.1, (((itD (actual_1543) ((itD (acc1665) (0))))).2.2) ++ [1])) : (List (Int × Int × (List Int)))).map oU3) := (OwAll.mono (Same.refl _) (keeps_mut x1801 ((there_ne (fun b_ hb_ => (S1700.ow b_ (((fun b hb => (.tail _ (.tail _ (.tail _ (.tail _ (.tail _ (.tail _ (List.mem_append_left _ hb)))))))) : ∀ b ∈ L1545, b ∈ (D1596 :: (a1436 :: (p1328 :: (p1408 :: (p1420 :: (p1529 :: (L1545 ++ [])))))))) b_ hb_)).2.1) n1709) : ∀ b ∈ L1545, b ≠ D1708)) (OwAll.mono (Same.refl _) (keeps_same e1791) (OwAll.mono (Same.refl _) (keeps_same e1782) w1763)))
                    exact ⟨_, (acc1750 ++ [(x1764.1, x1764.2.1, x1764.2.2)]), _, (L1753 ++ (p1787 :: (p1778 :: ([] : List Addr)))), eG1749, (S1803.sub (all_cons (.tail _ (.tail _ (.head _))) (all_app (all_app ((fun b hb => (.tail _ (.tail _ (.tail _ (List.mem_append_left _ hb))))) : ∀ b ∈ L1753, b ∈ (p1787 :: (p1778 :: (D1708 :: (L1753 ++ (a1436 :: (p1328 :: (p1408 :: (p1420 :: (D1596 :: (p1529 :: (L1545 ++ [])))))))))))) (all_cons (.head _) (all_cons (.tail _ (.head _)) all_nil))) (all_cons (.tail _ (.tail _ (.tail _ (List.mem_append_right _ (.head _))))) (all_cons (.tail _ (.tail _ (.tail _ (List.mem_append_right _ (.tail _ (.head _)))))) (all_cons (.tail _ (.tail _ (.tail _ (List.mem_append_right _ (.tail _ (.tail _ (.head _))))))) (all_cons (.tail _ (.tail _ (.tail _ (List.mem_append_right _ (.tail _ (.tail _ (.tail _ (.head _)))))))) (all_cons (.tail _ (.tail _ (.tail _ (List.mem_append_right _ (.tail _ (.tail _ (.tail _ (.tail _ (.head _))))))))) (all_cons (.tail _ (.tail _ (.tail _ (List.mem_append_right _ (.tail _ (.tail _ (.tail _ (.tail _ (.tail _ (.head _)))))))))) (all_app ((fun b hb => (.tail _ (.tail _ (.tail _ (List.mem_append_right _ (.tail _ (.tail _ (.tail _ (.tail _ (.tail _ (.tail _ (List.mem_append_left _ hb)))))))))))) : ∀ b ∈ L1545, b ∈ (p1787 :: (p1778 :: (D1708 :: (L1753 ++ (a1436 :: (p1328 :: (p1408 :: (p1420 :: (D1596 :: (p1529 :: (L1545 ++ [])))))))))))) all_nil)))))))))), h1804, h1805, h1806, h1807, h1808, h1809, h1802, w1810, (OwAll.mono (Same.refl _) (keeps_mut x1801 ((all_app nd1755 (all_cons (ne_of_none (e1782 _ _ h1747) n1788).symm (all_cons (ne_of_none h1747 n1779).symm all_nil))) : ∀ b ∈ (L1753 ++ (p1787 :: (p1778 :: ([] : List Addr)))), b ≠ D1708)) (OwAll.snocM w1796 (Ow.u3 h1793 h1797 (ne_of_none h1784 n1788)) ((fun b hb => (nm_cons ((there_ne (fun b_ hb_ => (S1786.ow b_ (((fun b hb => (.tail _ (.tail _ (List.mem_append_left _ hb)))) : ∀ b ∈ L1753, b ∈ (p1778 :: (D1708 :: (L1753 ++ (a1436 :: (p1328 :: (p1408 :: (p1420 :: (D1596 :: (p1529 :: (L1545 ++ []))))))))))) b_ hb_)).2.1) n1788) b hb) (nm_cons ((there_ne (fun b_ hb_ => (S1746.ow b_ (((fun b hb => (.tail _ (List.mem_append_left _ hb))) : ∀ b ∈ L1753, b ∈ (D1708 :: (L1753 ++ (a1436 :: (p1328 :: (p1408 :: (p1420 :: (D1596 :: (p1529 :: (L1545 ++ [])))))))))) b_ hb_)).2.1) n1779) b hb) nm_nil))) : ∀ b ∈ L1753, b ∉ (p1787 :: (p1778 :: ([] : List Addr)))))), ((all_app nb1754 (all_cons (none_of_same (Same.trans eo1756 e1782) n1788) (all_cons (none_of_same eo1756 n1779) all_nil))) : ∀ b ∈ (L1753 ++ (p1787 :: (p1778 :: ([] : List Addr)))), H1696 b = none), ((all_app nd1755 (all_cons (ne_of_none (e1782 _ _ h1747) n1788).symm (all_cons (ne_of_none h1747 n1779).symm all_nil))) : ∀ b ∈ (L1753 ++ (p1787 :: (p1778 :: ([] : List Addr)))), b ≠ D1708), (same_mut (Same.trans (Same.trans eo1756 e1782) e1791) x1801 n1709), hw⟩
                  intro H1811 hw
                  obtain ⟨G1814, acc1816, vs1817, L1819, eG1815, S1812, h1823, h1824, hw⟩ := hw
                  obtain ⟨h1825, h1826, h1827, h1828, h1813, w1829, d1818, nb1820, nd1821, eo1822, hw⟩ := hw
                  have hw := hK1707 _ (cW_mapA0 (by rw [(RpAll.mono eG1815 (RpAll.mono eG1664 (RpAll.mono eG1584 (RpAll.mono eG1528 (RpAll.mono eG1443 d1429))))).len, List.length_map]) hw)
                  have fr1830 := S1700.free n1709
                  obtain ⟨g1831, hw⟩ := cW_grd hw
                  obtain ⟨g1832, hw⟩ := cW_grd hw
                  obtain ⟨v1833, L1834, a1835, w1836, hs1837, up1838, gr1839⟩ := OwAll.partM (k := (itD (acc1665) (0))) d1818 g1832
                  obtain ⟨p1840, b1841, rfl, rfl, h1842, h1843, nb1844⟩ := Ow.toU3 w1836
                  obtain ⟨g1845, hw⟩ := cW_grd hw
                  refine ⟨_, rfl, _, rfl, _, _, _, _, rfl, rfl, (SqL.of h1827), (atI_map g1831), _, _, _, _, rfl, rfl, (SqL.of h1813), a1835, _, _, _, _, rfl, rfl, (SqT.of h1842), rfl, (.inl ⟨rfl, _, SqL.of h1843⟩), _, _, _, rfl, rfl, h1843, (app_lenM g1845), ?_⟩
                  generalize g1846 : upd H1811 b1841 _ = H1847
                  obtain ⟨x1848, h1849⟩ := gen_mut g1846
                  have h1850 : H1847 b1841 = some (.lst (((((itD (acc1816) ((itD (acc1665) (0))))).2.2) ++ [1] : (List Int)).map V.int)) := snoc_map h1849
                  have S1851 := S1812.mut1 x1848 ((((fun b hb => (.tail _ (List.mem_append_left _ hb))) : ∀ b ∈ L1819, b ∈ (D1708 :: (L1819 ++ (a1436 :: (p1328 :: (p1408 :: (p1420 :: (D1596 :: (p1529 :: (L1545 ++ [])))))))))) : ∀ b ∈ L1819, b ∈ (D1708 :: (L1819 ++ (a1436 :: (p1328 :: (p1408 :: (p1420 :: (D1596 :: (p1529 :: (L1545 ++ [])))))))))) _ (hs1837 _ (List.mem_cons_of_mem _ List.mem_cons_self))) h1850
                  have h1852 := (x1848 _ _ h1842 (nb1844).symm)
                  have w1853 : OwAll G1814 H1847 L1819 (vs1817) ((setL (acc1816) ((itD (acc1665) (0))) ((((itD (acc1816) ((itD (acc1665) (0))))).1, ((itD (acc1816) ((itD (acc1665) (0))))).2.1, (((itD (acc1816) ((itD (acc1665) (0))))).2.2) ++ [1])) : (List (Int × Int × (List Int)))).map oU3) := upd_tree up1838 x1848 (List.mem_cons_of_mem _ List.mem_cons_self) (Ow.u3 h1852 h1850 nb1844)
                  have hw := cW_bnd hw
                  have h1855 := (x1848 _ _ h1823 ((new_ne2 nb1820 (S1700.ow _ (.tail _ (.head _))).2.1) _ (hs1837 _ (List.mem_cons_of_mem _ List.mem_cons_self))).symm)
                  have w1856 : OwAll G1814 H1847 L1545 (vs1544) ((setL (actual_1543) ((itD (acc1665) (0))) ((((itD (actual_1543) ((itD (acc1665) (0))))).1, ((itD (actual_1543) ((itD (acc1665) (0))))).2.1, (((itD (actual_1543) ((itD (acc1665) (0))))).2.2) ++ [1])) : (List (Int × Int × (List Int)))).map oU3) := (OwAll.mono (Same.refl _) (keeps_mut x1848 ((fun b hb (z : b = b1841) => (fun b hb => ((nl_symm (new_nl nb1820 (fun b_ hb_ => (S1700.ow b_ (((fun b hb => (.tail _ (.tail _ (.tail _ (.tail _ (.tail _ (.tail _ (List.mem_append_left _ hb)))))))) : ∀ b ∈ L1545, b ∈ (D1596 :: (a1436 :: (p1328 :: (p1408 :: (p1420 :: (p1529 :: (L1545 ++ [])))))))) b_ hb_)).2.1))) b hb)) b hb (z ▸ (hs1837 _ (List.mem_cons_of_mem _ List.mem_cons_self)))) : ∀ b ∈ L1545, b ≠ b1841)) w1829)
                  have h1857 := (x1848 _ _ h1813 (nd1821 _ (hs1837 _ (List.mem_cons_of_mem _ List.mem_cons_self))).symm)
                  refine ⟨_, rfl, _, rfl, _, _, (rp_mk_list h1855 (OwAll.rpA w1856 encO_U3 S1851.sG)), (rp_mk_list h1857 (OwAll.rpA w1853 encO_U3 S1851.sG)), _, rfl, ?_⟩
                  refine iteN (fun c1858 => ?_) (fun c1858 => ?_)
                  · have hw := cW_neg c1858 hw
                    have hw := cW_ok hw
                    have hw := hK1588 (.rt _) hw
                    have hw := hK1542 (.rt _) hw
                    have hw := cW_ok hw
                    exact eq_bl (k _) (hK0 _ hw).symm
                  · have hw := cW_pos c1858 hw
                    have h1867 := (x1848 _ _ (eo1822 _ _ h1701) (((fun b hb (z : b = b1841) => (fun b hb => ((nl_symm (new_nl nb1820 (fun b_ hb_ => (S1700.ow b_ (((fun b hb => (.tail _ (.tail _ (.tail _ (.tail _ (.tail _ (.tail _ (List.mem_append_left _ hb)))))))) : ∀ b ∈ L1545, b ∈ (D1596 :: (a1436 :: (p1328 :: (p1408 :: (p1420 :: (p1529 :: (L1545 ++ [])))))))) b_ hb_)).2.1))) b hb)) b hb (z ▸ (hs1837 _ (List.mem_cons_of_mem _ List.mem_cons_self)))) : ∀ b ∈ L1545, b ≠ b1841) _ (hs1686 _ List.mem_cons_self)))
                    obtain ⟨v1859, L1860, a1861, w1862, hs1863, up1864, gr1865⟩ := OwAll.partM (k := (itD (acc1665) (0))) w1856 (u_setg g1681)
                    obtain rfl := u_same a1861 a1684
                    obtain ⟨b1868, rfl, h1869, h1866, nb1870⟩ := Ow.atU3 w1862
                    obtain rfl := u3_same h1867 h1869
                    obtain ⟨g1871, hw⟩ := cW_grd hw
                    refine ⟨_, rfl, (.inl ⟨rfl, _, SqL.of h1866⟩), _, _, _, rfl, rfl, h1866, (pop_map g1871), ?_⟩
                    generalize g1872 : upd H1847 b1690 _ = H1873
                    obtain ⟨x1874, h1875⟩ := gen_mut g1872
                    have h1876 : H1873 b1690 = some (.lst (((((itD (setL (actual_1543) ((itD (acc1665) (0))) ((((itD (actual_1543) ((itD (acc1665) (0))))).1, ((itD (actual_1543) ((itD (acc1665) (0))))).2.1, (((itD (actual_1543) ((itD (acc1665) (0))))).2.2) ++ [1]))) ((itD (acc1665) (0))))).2.2).dropLast : (List Int)).map V.int)) := drop_map h1875
                    have S1877 := S1851.mut1 x1874 ((((fun b hb => (.tail _ (List.mem_append_right _ (.tail _ (.tail _ (.tail _ (.tail _ (.tail _ (.tail _ (List.mem_append_left _ hb)))))))))) : ∀ b ∈ L1545, b ∈ (D1708 :: (L1819 ++ (a1436 :: (p1328 :: (p1408 :: (p1420 :: (D1596 :: (p1529 :: (L1545 ++ [])))))))))) : ∀ b ∈ L1545, b ∈ (D1708 :: (L1819 ++ (a1436 :: (p1328 :: (p1408 :: (p1420 :: (D1596 :: (p1529 :: (L1545 ++ [])))))))))) _ (hs1863 _ (List.mem_cons_of_mem _ List.mem_cons_self))) h1876
                    have h1878 := (x1874 _ _ h1869 (nb1693).symm)
                    have w1879 : OwAll G1814 H1873 L1545 (vs1544) ((setL (setL (actual_1543) ((itD (acc1665) (0))) ((((itD (actual_1543) ((itD (acc1665) (0))))).1, ((itD (actual_1543) ((itD (acc1665) (0))))).2.1, (((itD (actual_1543) ((itD (acc1665) (0))))).2.2) ++ [1]))) ((itD (acc1665) (0))) ((((itD (setL (actual_1543) ((itD (acc1665) (0))) ((((itD (actual_1543) ((itD (acc1665) (0))))).1, ((itD (actual_1543) ((itD (acc1665) (0))))).2.1, (((itD (actual_1543) ((itD (acc1665) (0))))).2.2) ++ [1]))) ((itD (acc1665) (0))))).1, ((itD (setL (actual_1543) ((itD (acc1665) (0))) ((((itD (actual_1543) ((itD (acc1665) (0))))).1, ((itD (actual_1543) ((itD (acc1665) (0))))).2.1, (((itD (actual_1543) ((itD (acc1665) (0))))).2.2) ++ [1]))) ((itD (acc1665) (0))))).2.1, (((itD (setL (actual_1543) ((itD (acc1665) (0))) ((((itD (actual_1543) ((itD (acc1665) (0))))).1, ((itD (actual_1543) ((itD (acc1665) (0))))).2.1, (((itD (actual_1543) ((itD (acc1665) (0))))).2.2) ++ [1]))) ((itD (acc1665) (0))))).2.2).dropLast)) : (List (Int × Int × (List Int)))).map oU3) := upd_tree up1864 x1874 (List.mem_cons_of_mem _ List.mem_cons_self) (Ow.u3 h1878 h1876 nb1693)
                    have hw := cW_bnd hw
                    have hw := cW_ok hw
                    have hw := hK1588 _ hw
                    have h1881 := (x1874 _ _ (x1848 _ _ h1824 ((new_ne2 nb1820 (S1700.ow _ (.tail _ (.tail _ (.head _)))).2.1) _ (hs1837 _ (List.mem_cons_of_mem _ List.mem_cons_self))).symm) (ne1577 _ (hs1863 _ (List.mem_cons_of_mem _ List.mem_cons_self))).symm)
                    have h1882 := (x1874 _ _ (x1848 _ _ h1825 ((new_ne2 nb1820 (S1700.ow _ (.tail _ (.tail _ (.tail _ (.head _))))).2.1) _ (hs1837 _ (List.mem_cons_of_mem _ List.mem_cons_self))).symm) (ne1578 _ (hs1863 _ (List.mem_cons_of_mem _ List.mem_cons_self))).symm)
                    have h1883 := (x1874 _ _ (x1848 _ _ h1826 ((new_ne2 nb1820 (S1700.ow _ (.tail _ (.tail _ (.tail _ (.tail _ (.head _)))))).2.1) _ (hs1837 _ (List.mem_cons_of_mem _ List.mem_cons_self))).symm) (ne1579 _ (hs1863 _ (List.mem_cons_of_mem _ List.mem_cons_self))).symm)
                    have h1884 := (x1874 _ _ h1855 (ne1580 _ (hs1863 _ (List.mem_cons_of_mem _ List.mem_cons_self))).symm)
                    have h1885 := (x1874 _ _ (x1848 _ _ h1828 ((new_ne2 nb1820 (S1700.ow _ (.tail _ (.tail _ (.tail _ (.tail _ (.tail _ (.head _))))))).2.1) _ (hs1837 _ (List.mem_cons_of_mem _ List.mem_cons_self))).symm) (ne1581 _ (hs1863 _ (List.mem_cons_of_mem _ List.mem_cons_self))).symm)
                    exact ⟨(setL (setL (actual_1543) ((itD (acc1665) (0))) ((((itD (actual_1543) ((itD (acc1665) (0))))).1, ((itD (actual_1543) ((itD (acc1665) (0))))).2.1, (((itD (actual_1543) ((itD (acc1665) (0))))).2.2) ++ [1]))) ((itD (acc1665) (0))) ((((itD (setL (actual_1543) ((itD (acc1665) (0))) ((((itD (actual_1543) ((itD (acc1665) (0))))).1, ((itD (actual_1543) ((itD (acc1665) (0))))).2.1, (((itD (actual_1543) ((itD (acc1665) (0))))).2.2) ++ [1]))) ((itD (acc1665) (0))))).1, ((itD (setL (actual_1543) ((itD (acc1665) (0))) ((((itD (actual_1543) ((itD (acc1665) (0))))).1, ((itD (actual_1543) ((itD (acc1665) (0))))).2.1, (((itD (actual_1543) ((itD (acc1665) (0))))).2.2) ++ [1]))) ((itD (acc1665) (0))))).2.1, (((itD (setL (actual_1543) ((itD (acc1665) (0))) ((((itD (actual_1543) ((itD (acc1665) (0))))).1, ((itD (actual_1543) ((itD (acc1665) (0))))).2.1, (((itD (actual_1543) ((itD (acc1665) (0))))).2.2) ++ [1]))) ((itD (acc1665) (0))))).2.2).dropLast))), (vs1544), L1545, _, _, _, _, _, rfl, (Same.trans (Same.trans eG1584 eG1664) eG1815), (S1877.sub (all_cons (.tail _ (List.mem_append_right _ (.tail _ (.head _)))) (all_cons (.tail _ (List.mem_append_right _ (.tail _ (.tail _ (.head _))))) (all_cons (.tail _ (List.mem_append_right _ (.tail _ (.tail _ (.tail _ (.head _)))))) (all_cons (.tail _ (List.mem_append_right _ (.head _))) (all_cons (.tail _ (List.mem_append_right _ (.tail _ (.tail _ (.tail _ (.tail _ (.tail _ (.head _)))))))) (all_app ((fun b hb => (.tail _ (List.mem_append_right _ (.tail _ (.tail _ (.tail _ (.tail _ (.tail _ (.tail _ (List.mem_append_left _ hb)))))))))) : ∀ b ∈ L1545, b ∈ (D1708 :: (L1819 ++ (a1436 :: (p1328 :: (p1408 :: (p1420 :: (D1596 :: (p1529 :: (L1545 ++ [])))))))))) all_nil))))))), h1881, h1882, h1883, h1884, h1885, ne1577, ne1578, ne1579, ne1580, ne1581, w1879, hw⟩
                · have hw := cW_neg c1679 hw
                  have hw := cW_ok hw
                  have hw := hK1588 _ hw
                  exact ⟨(actual_1543), (vs1544), L1545, _, _, _, _, _, rfl, (Same.trans eG1584 eG1664), (S1661.sub (all_cons (.tail _ (.tail _ (.head _))) (all_cons (.tail _ (.tail _ (.tail _ (.head _)))) (all_cons (.tail _ (.tail _ (.tail _ (.tail _ (.head _))))) (all_cons (.tail _ (.head _)) (all_cons (.tail _ (.tail _ (.tail _ (.tail _ (.tail _ (.head _)))))) (all_app ((fun b hb => (.tail _ (.tail _ (.tail _ (.tail _ (.tail _ (.tail _ (List.mem_append_left _ hb)))))))) : ∀ b ∈ L1545, b ∈ (D1596 :: (a1436 :: (p1328 :: (p1408 :: (p1420 :: (p1529 :: (L1545 ++ [])))))))) all_nil))))))), h1673, h1674, h1675, h1672, h1676, ne1577, ne1578, ne1579, ne1580, ne1581, w1677, hw⟩
              · intro σ H1886 hw
                obtain ⟨actual_1543, vs1544, L1545, u1546, u1547, u1548, u1549, G1899, hw⟩ := hw
                obtain ⟨rfl, eG1900, S1887, h1888, h1889, h1890, h1891, h1892, hw⟩ := hw
                obtain ⟨ne1893, ne1894, ne1895, ne1896, ne1897, w1898, hw⟩ := hw
                have hw := cW_aftgo (hK1542 _ (cW_forR0 (by rw [List.length_map]) hw))
                have hw : cW (F_law_r4 (octets_1327) (v1417) (actual_1543)) _ EE := hw
                unfold F_law_r4 at hw
                refine ⟨_, rfl, rfl, rfl, G1899, _, _, rfl, S1887.sG, (hide_nil h1888), cW_callN hw (fun v1902 hw H1903 a1905 vs1906 L1907 G1908 n1909 nb1910 nd1911 e1904 eG1912 sG1913 hn1914 ga1915 gL1916 h1917 w1918 => ?_) trivial⟩
                have fr1919 := S1887.free n1909
                have S1920 : Sep _ _ _ _ H1903 (a1905 :: (L1907 ++ (p1328 :: (p1408 :: (p1420 :: (a1436 :: (p1529 :: (L1545 ++ [])))))))) := Sep.steptree S1887 e1904 eG1912 sG1913 hn1914 (a1905 :: L1907) (all_cons ⟨n1909, ga1915, some_ne h1917⟩ (fun b hb => ⟨nb1910 b hb, gL1916 b hb, OwAll.there w1918 b hb⟩))
                have h1921 := (e1904 _ _ h1890)
                refine ⟨_, rfl, _, _, (rp_mk_list h1917 (OwAll.rpA w1918 encO_U3 S1920.sG)), (rp_mk_list h1921 (RpAll.mono S1920.sG (RpAll.mono eG1912 (RpAll.mono eG1900 (RpAll.mono eG1528 (RpAll.mono eG1443 d1429)))))), ?_⟩
                have hw := cW_ok hw
                exact eq_bl (k _) (hK0 _ hw).symm
end
def spL (K : PySem.W.Frag) : Sp := fun vs H Q _ => ∃ (a_script : Addr) (script : List Int), vs = [.ref a_script] ∧ SqL K H a_script (script.map V.int) ∧ script.length ≤ 63 ∧ ∀ H', Q (.bl true) H'
theorem all_mk {l : PySem.W.OpenLaw} {w : World} {K : PySem.W.Frag} {h : Heap} {mg : Str → Option Value} {fa : Addr} (X : K.In h) (G : h.Ns mainGlobals mg) (hfa : mg "law" = some (.ref fa))
    {f0 f1 f2 f3 f4 f5 f6 f7 f8 f9 f10 f11 : Addr} {od0 an0 od1 an1 od2 an2 od3 an3 od4 an4 od5 an5 od6 an6 od7 an7 od8 an8 od9 an9 od10 an10 od11 an11 : Option Addr} {sl0 sl1 sl2 sl3 sl4 sl5 sl6 sl7 sl8 sl9 sl10 sl11 : Array (Option Value)} {oc0 kV0 dc0 pm0 cd0 ct0 oc1 kV1 dc1 pm1 cd1 ct1 oc2 kV2 dc2 pm2 cd2 ct2 oc3 kV3 dc3 pm3 cd3 ct3 oc4 kV4 dc4 pm4 cd4 ct4 oc5 kV5 dc5 pm5 cd5 ct5 oc6 kV6 dc6 pm6 cd6 ct6 oc7 kV7 dc7 pm7 cd7 ct7 oc8 kV8 dc8 pm8 cd8 ct8 oc9 kV9 dc9 pm9 cd9 ct9 oc10 kV10 dc10 pm10 cd10 ct10 oc11 kV11 dc11 pm11 cd11 ct11 : Value} {tk3 tk4 tk5 tk6 : Tok}
    (a0 : PySem.W.nsIn K mainGlobals "_law_starts" = some (some (.ref f0))) (l0 : K.lookup f0 = some ⟨oc0, od0, .func (PySem.W.fnOf "_law_starts" "_law_starts" (defArgs s__law_starts) (defBody s__law_starts) (defScope s__law_starts) .none kV0 dc0 pm0 an0 cd0 ct0), sl0⟩) (c0 : PySem.W.codeIn K cd0 "_law_starts" = true) (k0 : PySem.W.keepIn K (.ref f0) = true) (a1 : PySem.W.nsIn K mainGlobals "_law_unescape" = some (some (.ref f1))) (l1 : K.lookup f1 = some ⟨oc1, od1, .func (PySem.W.fnOf "_law_unescape" "_law_unescape" (defArgs s__law_unescape) (defBody s__law_unescape) (defScope s__law_unescape) .none kV1 dc1 pm1 an1 cd1 ct1), sl1⟩) (c1 : PySem.W.codeIn K cd1 "_law_unescape" = true) (k1 : PySem.W.keepIn K (.ref f1) = true) (a2 : PySem.W.nsIn K mainGlobals "_law_raw" = some (some (.ref f2))) (l2 : K.lookup f2 = some ⟨oc2, od2, .func (PySem.W.fnOf "_law_raw" "_law_raw" (defArgs s__law_raw) (defBody s__law_raw) (defScope s__law_raw) .none kV2 dc2 pm2 an2 cd2 ct2), sl2⟩) (c2 : PySem.W.codeIn K cd2 "_law_raw" = true) (k2 : PySem.W.keepIn K (.ref f2) = true) (a3 : PySem.W.nsIn K mainGlobals "_law_read" = some (some (.ref f3))) (l3 : K.lookup f3 = some ⟨oc3, od3, .func (PySem.W.fnOf "_law_read" "_law_read" (defArgs s__law_read) (defBody s__law_read) (defScope s__law_read) .none kV3 dc3 pm3 an3 cd3 ct3), sl3⟩) (c3 : PySem.W.codeIn K cd3 "_law_read" = true) (k3 : PySem.W.keepIn K (.ref f3) = true) (a4 : PySem.W.nsIn K mainGlobals "_law_cell" = some (some (.ref f4))) (l4 : K.lookup f4 = some ⟨oc4, od4, .func (PySem.W.fnOf "_law_cell" "_law_cell" (defArgs s__law_cell) (defBody s__law_cell) (defScope s__law_cell) .none kV4 dc4 pm4 an4 cd4 ct4), sl4⟩) (c4 : PySem.W.codeIn K cd4 "_law_cell" = true) (k4 : PySem.W.keepIn K (.ref f4) = true) (a5 : PySem.W.nsIn K mainGlobals "_starts" = some (some (.ref f5))) (l5 : K.lookup f5 = some ⟨oc5, od5, .func (PySem.W.fnOf "_starts" "_starts" (defArgs s__starts) (defBody s__starts) (defScope s__starts) .none kV5 dc5 pm5 an5 cd5 ct5), sl5⟩) (c5 : PySem.W.codeIn K cd5 "_starts" = true) (k5 : PySem.W.keepIn K (.ref f5) = true) (a6 : PySem.W.nsIn K mainGlobals "unescape" = some (some (.ref f6))) (l6 : K.lookup f6 = some ⟨oc6, od6, .func (PySem.W.fnOf "unescape" "unescape" (defArgs s_unescape) (defBody s_unescape) (defScope s_unescape) .none kV6 dc6 pm6 an6 cd6 ct6), sl6⟩) (c6 : PySem.W.codeIn K cd6 "unescape" = true) (k6 : PySem.W.keepIn K (.ref f6) = true) (a7 : PySem.W.nsIn K mainGlobals "_read_raw" = some (some (.ref f7))) (l7 : K.lookup f7 = some ⟨oc7, od7, .func (PySem.W.fnOf "_read_raw" "_read_raw" (defArgs s__read_raw) (defBody s__read_raw) (defScope s__read_raw) .none kV7 dc7 pm7 an7 cd7 ct7), sl7⟩) (c7 : PySem.W.codeIn K cd7 "_read_raw" = true) (k7 : PySem.W.keepIn K (.ref f7) = true) (a8 : PySem.W.nsIn K mainGlobals "read_units" = some (some (.ref f8))) (l8 : K.lookup f8 = some ⟨oc8, od8, .func (PySem.W.fnOf "read_units" "read_units" (defArgs s_read_units) (defBody s_read_units) (defScope s_read_units) .none kV8 dc8 pm8 an8 cd8 ct8), sl8⟩) (c8 : PySem.W.codeIn K cd8 "read_units" = true) (k8 : PySem.W.keepIn K (.ref f8) = true) (a9 : PySem.W.nsIn K mainGlobals "_law_draws" = some (some (.ref f9))) (l9 : K.lookup f9 = some ⟨oc9, od9, .func (PySem.W.fnOf "_law_draws" "_law_draws" (defArgs s__law_draws) (defBody s__law_draws) (defScope s__law_draws) .none kV9 dc9 pm9 an9 cd9 ct9), sl9⟩) (c9 : PySem.W.codeIn K cd9 "_law_draws" = true) (k9 : PySem.W.keepIn K (.ref f9) = true) (a10 : PySem.W.nsIn K mainGlobals "_law_some" = some (some (.ref f10))) (l10 : K.lookup f10 = some ⟨oc10, od10, .func (PySem.W.fnOf "_law_some" "_law_some" (defArgs s__law_some) (defBody s__law_some) (defScope s__law_some) .none kV10 dc10 pm10 an10 cd10 ct10), sl10⟩) (c10 : PySem.W.codeIn K cd10 "_law_some" = true) (k10 : PySem.W.keepIn K (.ref f10) = true) (a11 : PySem.W.nsIn K mainGlobals "law" = some (some (.ref f11))) (l11 : K.lookup f11 = some ⟨oc11, od11, .func (PySem.W.fnOf "law" "law" (defArgs s_law) (defBody s_law) (defScope s_law) .none kV11 dc11 pm11 an11 cd11 ct11), sl11⟩) (c11 : PySem.W.codeIn K cd11 "law" = true) (k11 : PySem.W.keepIn K (.ref f11) = true)
    (z0 : PySem.W.nsIn K mainGlobals "range" = some none) (z1 : PySem.W.nsIn K mainGlobals "len" = some none) (z2 : PySem.W.nsIn K mainGlobals "int" = some none) (z3 : PySem.W.nsIn K mainGlobals "ESCAPE" = some (some (.int 3 tk3))) (z4 : PySem.W.nsIn K mainGlobals "GREATEST_KIND" = some (some (.int 31 tk4))) (z5 : PySem.W.nsIn K mainGlobals "STOP" = some (some (.int 128 tk5))) (z6 : PySem.W.nsIn K mainGlobals "MOST_OCTETS" = some (some (.int 65536 tk6))) (z7 : PySem.W.nsIn K mainGlobals "zip" = some none) (z8 : PySem.W.nsIn K mainGlobals "abs" = some none) (z9 : PySem.W.nsIn K mainGlobals "list" = some none) (z10 : PySem.W.nsIn K mainGlobals "isinstance" = some none) (z11 : PySem.W.nsIn K mainGlobals "tuple" = some none) :
    ∃ fd : FuncData, (∀ (s : Shared) (v : Value), BindsTo s fd ⟨[v], []⟩ [("script", v)]) ∧ ∀ base : Heap, K.In base → base.Ns mainGlobals mg → FnG l.prog w K mg base CX0 7 fa fd ["script"] (spL K) := by
  have e := hfa.symm.trans (PySem.W.mg_of X G a11)
  cases e
  have T : Txt w K mg ⟨fa⟩ := ⟨PySem.W.mg_none_of X G z0, PySem.W.mg_none_of X G z1, PySem.W.mg_none_of X G z2, ⟨_, PySem.W.mg_of X G z3, ⟨_, rfl⟩⟩, ⟨_, PySem.W.mg_of X G z4, ⟨_, rfl⟩⟩, ⟨_, PySem.W.mg_of X G z5, ⟨_, rfl⟩⟩, ⟨_, PySem.W.mg_of X G z6, ⟨_, rfl⟩⟩, PySem.W.mg_none_of X G z7, PySem.W.mg_none_of X G z8, PySem.W.mg_none_of X G z9, PySem.W.mg_none_of X G z10, PySem.W.mg_none_of X G z11⟩
  have F0 : FunD K "_law_starts" "_law_starts" (defArgs s__law_starts) (defBody s__law_starts) (defScope s__law_starts) [] [] f0 _ := ⟨⟨_, _, _, _, _, _, _, _, _, _, rfl, l0, c0, .inl ⟨rfl, rfl⟩, .inl rfl⟩, k0⟩
  have D_0 : DefX K mg "_law_starts" s__law_starts ["octets"] pats__law_starts := ⟨_, _, _, _, F0, PySem.W.mg_of X G a0, (all_consQ (Bnd.all fun us ws vs zs l1 l2 r rz => by
      obtain ⟨u0, rfl⟩ := len1 (r.length.symm.trans l1)
      obtain rfl := len0 (rz.length.symm.trans l2)
      cases r with | cons r0 r =>
        cases r
        cases rz
        exact ⟨[u0], rfl, (.cons r0 .nil)⟩) all_nilQ)⟩
  have F1 : FunD K "_law_unescape" "_law_unescape" (defArgs s__law_unescape) (defBody s__law_unescape) (defScope s__law_unescape) [] [] f1 _ := ⟨⟨_, _, _, _, _, _, _, _, _, _, rfl, l1, c1, .inl ⟨rfl, rfl⟩, .inl rfl⟩, k1⟩
  have D_1 : DefX K mg "_law_unescape" s__law_unescape ["octets"] pats__law_unescape := ⟨_, _, _, _, F1, PySem.W.mg_of X G a1, (all_consQ (Bnd.all fun us ws vs zs l1 l2 r rz => by
      obtain ⟨u0, rfl⟩ := len1 (r.length.symm.trans l1)
      obtain rfl := len0 (rz.length.symm.trans l2)
      cases r with | cons r0 r =>
        cases r
        cases rz
        exact ⟨[u0], rfl, (.cons r0 .nil)⟩) all_nilQ)⟩
  have F2 : FunD K "_law_raw" "_law_raw" (defArgs s__law_raw) (defBody s__law_raw) (defScope s__law_raw) [] [] f2 _ := ⟨⟨_, _, _, _, _, _, _, _, _, _, rfl, l2, c2, .inl ⟨rfl, rfl⟩, .inl rfl⟩, k2⟩
  have D_2 : DefX K mg "_law_raw" s__law_raw ["raw"] pats__law_raw := ⟨_, _, _, _, F2, PySem.W.mg_of X G a2, (all_consQ (Bnd.all fun us ws vs zs l1 l2 r rz => by
      obtain ⟨u0, rfl⟩ := len1 (r.length.symm.trans l1)
      obtain rfl := len0 (rz.length.symm.trans l2)
      cases r with | cons r0 r =>
        cases r
        cases rz
        exact ⟨[u0], rfl, (.cons r0 .nil)⟩) all_nilQ)⟩
  have F3 : FunD K "_law_read" "_law_read" (defArgs s__law_read) (defBody s__law_read) (defScope s__law_read) [] [] f3 _ := ⟨⟨_, _, _, _, _, _, _, _, _, _, rfl, l3, c3, .inl ⟨rfl, rfl⟩, .inl rfl⟩, k3⟩
  have D_3 : DefX K mg "_law_read" s__law_read ["octets"] pats__law_read := ⟨_, _, _, _, F3, PySem.W.mg_of X G a3, (all_consQ (Bnd.all fun us ws vs zs l1 l2 r rz => by
      obtain ⟨u0, rfl⟩ := len1 (r.length.symm.trans l1)
      obtain rfl := len0 (rz.length.symm.trans l2)
      cases r with | cons r0 r =>
        cases r
        cases rz
        exact ⟨[u0], rfl, (.cons r0 .nil)⟩) all_nilQ)⟩
  have F4 : FunD K "_law_cell" "_law_cell" (defArgs s__law_cell) (defBody s__law_cell) (defScope s__law_cell) [] [] f4 _ := ⟨⟨_, _, _, _, _, _, _, _, _, _, rfl, l4, c4, .inl ⟨rfl, rfl⟩, .inl rfl⟩, k4⟩
  have D_4 : DefX K mg "_law_cell" s__law_cell ["script", "k"] pats__law_cell := ⟨_, _, _, _, F4, PySem.W.mg_of X G a4, (all_consQ (Bnd.all fun us ws vs zs l1 l2 r rz => by
      obtain ⟨u0, u1, rfl⟩ := len2 (r.length.symm.trans l1)
      obtain rfl := len0 (rz.length.symm.trans l2)
      cases r with | cons r0 r =>
        cases r with | cons r1 r =>
          cases r
          cases rz
          exact ⟨[u0, u1], rfl, (.cons r0 (.cons r1 .nil))⟩) all_nilQ)⟩
  have F5 : FunD K "_starts" "_starts" (defArgs s__starts) (defBody s__starts) (defScope s__starts) [] [] f5 _ := ⟨⟨_, _, _, _, _, _, _, _, _, _, rfl, l5, c5, .inl ⟨rfl, rfl⟩, .inl rfl⟩, k5⟩
  have D_5 : DefX K mg "_starts" s__starts ["octets"] pats__starts := ⟨_, _, _, _, F5, PySem.W.mg_of X G a5, (all_consQ (Bnd.all fun us ws vs zs l1 l2 r rz => by
      obtain ⟨u0, rfl⟩ := len1 (r.length.symm.trans l1)
      obtain rfl := len0 (rz.length.symm.trans l2)
      cases r with | cons r0 r =>
        cases r
        cases rz
        exact ⟨[u0], rfl, (.cons r0 .nil)⟩) all_nilQ)⟩
  have F6 : FunD K "unescape" "unescape" (defArgs s_unescape) (defBody s_unescape) (defScope s_unescape) [] [] f6 _ := ⟨⟨_, _, _, _, _, _, _, _, _, _, rfl, l6, c6, .inl ⟨rfl, rfl⟩, .inl rfl⟩, k6⟩
  have D_6 : DefX K mg "unescape" s_unescape ["octets"] pats_unescape := ⟨_, _, _, _, F6, PySem.W.mg_of X G a6, (all_consQ (Bnd.all fun us ws vs zs l1 l2 r rz => by
      obtain ⟨u0, rfl⟩ := len1 (r.length.symm.trans l1)
      obtain rfl := len0 (rz.length.symm.trans l2)
      cases r with | cons r0 r =>
        cases r
        cases rz
        exact ⟨[u0], rfl, (.cons r0 .nil)⟩) all_nilQ)⟩
  have F7 : FunD K "_read_raw" "_read_raw" (defArgs s__read_raw) (defBody s__read_raw) (defScope s__read_raw) [] [] f7 _ := ⟨⟨_, _, _, _, _, _, _, _, _, _, rfl, l7, c7, .inl ⟨rfl, rfl⟩, .inl rfl⟩, k7⟩
  have D_7 : DefX K mg "_read_raw" s__read_raw ["raw"] pats__read_raw := ⟨_, _, _, _, F7, PySem.W.mg_of X G a7, (all_consQ (Bnd.all fun us ws vs zs l1 l2 r rz => by
      obtain ⟨u0, rfl⟩ := len1 (r.length.symm.trans l1)
      obtain rfl := len0 (rz.length.symm.trans l2)
      cases r with | cons r0 r =>
        cases r
        cases rz
        exact ⟨[u0], rfl, (.cons r0 .nil)⟩) all_nilQ)⟩
  have F8 : FunD K "read_units" "read_units" (defArgs s_read_units) (defBody s_read_units) (defScope s_read_units) [] [] f8 _ := ⟨⟨_, _, _, _, _, _, _, _, _, _, rfl, l8, c8, .inl ⟨rfl, rfl⟩, .inl rfl⟩, k8⟩
  have D_8 : DefX K mg "read_units" s_read_units ["octets"] pats_read_units := ⟨_, _, _, _, F8, PySem.W.mg_of X G a8, (all_consQ (Bnd.all fun us ws vs zs l1 l2 r rz => by
      obtain ⟨u0, rfl⟩ := len1 (r.length.symm.trans l1)
      obtain rfl := len0 (rz.length.symm.trans l2)
      cases r with | cons r0 r =>
        cases r
        cases rz
        exact ⟨[u0], rfl, (.cons r0 .nil)⟩) all_nilQ)⟩
  have F9 : FunD K "_law_draws" "_law_draws" (defArgs s__law_draws) (defBody s__law_draws) (defScope s__law_draws) [] [] f9 _ := ⟨⟨_, _, _, _, _, _, _, _, _, _, rfl, l9, c9, .inl ⟨rfl, rfl⟩, .inl rfl⟩, k9⟩
  have D_9 : DefX K mg "_law_draws" s__law_draws ["cell", "limits"] pats__law_draws := ⟨_, _, _, _, F9, PySem.W.mg_of X G a9, (all_consQ (Bnd.all fun us ws vs zs l1 l2 r rz => by
      obtain ⟨u0, u1, rfl⟩ := len2 (r.length.symm.trans l1)
      obtain rfl := len0 (rz.length.symm.trans l2)
      cases r with | cons r0 r =>
        cases r with | cons r1 r =>
          cases r
          cases rz
          exact ⟨[u0, u1], rfl, (.cons r0 (.cons r1 .nil))⟩) all_nilQ)⟩
  have F10 : FunD K "_law_some" "_law_some" (defArgs s__law_some) (defBody s__law_some) (defScope s__law_some) [] [] f10 _ := ⟨⟨_, _, _, _, _, _, _, _, _, _, rfl, l10, c10, .inl ⟨rfl, rfl⟩, .inl rfl⟩, k10⟩
  have D_10 : DefX K mg "_law_some" s__law_some ["cell", "size"] pats__law_some := ⟨_, _, _, _, F10, PySem.W.mg_of X G a10, (all_consQ (Bnd.all fun us ws vs zs l1 l2 r rz => by
      obtain ⟨u0, u1, rfl⟩ := len2 (r.length.symm.trans l1)
      obtain rfl := len0 (rz.length.symm.trans l2)
      cases r with | cons r0 r =>
        cases r with | cons r1 r =>
          cases r
          cases rz
          exact ⟨[u0, u1], rfl, (.cons r0 (.cons r1 .nil))⟩) all_nilQ)⟩
  have F11 : FunD K "law" "law" (defArgs s_law) (defBody s_law) (defScope s_law) [] [] _ _ := ⟨⟨_, _, _, _, _, _, _, _, _, _, rfl, l11, c11, .inl ⟨rfl, rfl⟩, .inl rfl⟩, k11⟩
  have R__law_starts : ∀ base : Heap, CalX l.prog w K mg base 1 "_law_starts" (sp__law_starts K ⟨fa⟩) pats__law_starts := fun base => ok__law_starts D_0 T 
  have R__law_unescape : ∀ base : Heap, CalX l.prog w K mg base 1 "_law_unescape" (sp__law_unescape K ⟨fa⟩) pats__law_unescape := fun base => ok__law_unescape D_1 T 
  have R__law_raw : ∀ base : Heap, CalX l.prog w K mg base 2 "_law_raw" (sp__law_raw K ⟨fa⟩) pats__law_raw := fun base => ok__law_raw D_2 T (R__law_unescape base)
  have R__law_read : ∀ base : Heap, CalX l.prog w K mg base 3 "_law_read" (sp__law_read K ⟨fa⟩) pats__law_read := fun base => ok__law_read D_3 T (R__law_starts base) (R__law_raw base)
  have R__law_cell : ∀ base : Heap, CalX l.prog w K mg base 1 "_law_cell" (sp__law_cell K ⟨fa⟩) pats__law_cell := fun base => ok__law_cell D_4 T 
  have R__starts : ∀ base : Heap, CalX l.prog w K mg base 1 "_starts" (sp__starts K ⟨fa⟩) pats__starts := fun base => ok__starts D_5 T 
  have R_unescape : ∀ base : Heap, CalX l.prog w K mg base 1 "unescape" (sp_unescape K ⟨fa⟩) pats_unescape := fun base => ok_unescape D_6 T 
  have R__read_raw : ∀ base : Heap, CalX l.prog w K mg base 2 "_read_raw" (sp__read_raw K ⟨fa⟩) pats__read_raw := fun base => ok__read_raw D_7 T (R_unescape base)
  have R_read_units : ∀ base : Heap, Vy.CalG l.prog w K mg base 3 "read_units" (sg_read_units K ⟨fa⟩) pats_read_units := fun base => ok_read_units D_8 T (R__starts base) (R__read_raw base)
  have R__law_draws : ∀ base : Heap, CalX l.prog w K mg base 1 "_law_draws" (sp__law_draws K ⟨fa⟩) pats__law_draws := fun base => ok__law_draws D_9 T 
  have R__law_some : ∀ base : Heap, CalX l.prog w K mg base 2 "_law_some" (sp__law_some K ⟨fa⟩) pats__law_some := fun base => ok__law_some D_10 T (R__law_draws base)

  refine ⟨PySem.W.fnOf "law" "law" (defArgs s_law) (defBody s_law) (defScope s_law) .none kV11 dc11 pm11 an11 cd11 ct11, fun s v => .of_eq rfl, fun base _ _ => (ok_law (AD := ⟨fa⟩) F11 T (R__law_some base) (R__law_cell base) (R__law_read base) (R_read_units base)).imp ?_⟩
  rintro vs H Q E ⟨a, xs, rfl, hs, hl, q⟩
  exact ⟨a, xs, rfl, hs, by rw [law_true xs hl]; exact cW_mk rfl, q⟩
end Vx
open PySem PySem.W PyProof.Rows
set_option maxRecDepth 100000 in
set_option maxHeartbeats 0 in
theorem PySem.Challenge.cw_thaumatrope_k11_any_octets_read_as_units_holds : PySem.Challenge.rw_thaumatrope_k11_any_octets_read_as_units.Holds := by
  w_on; o_law; k_head; (case hw => w_witness2)
  k_fill
  refine Vx.walkG (l := PySem.Challenge.rw_thaumatrope_k11_any_octets_read_as_units) (n := 63) (k := 7) (x := "script") rfl (by decide) rfl ⟨rfl, by decide, by decide⟩ (fun w h Y => PySem.W.kIn_of Y) ?F
  case F =>
    intro w mg fa h KX G hmg
    refine' Vx.all_mk KX G hmg ?a0 ?l0 ?c0 ?k0 ?a1 ?l1 ?c1 ?k1 ?a2 ?l2 ?c2 ?k2 ?a3 ?l3 ?c3 ?k3 ?a4 ?l4 ?c4 ?k4 ?a5 ?l5 ?c5 ?k5 ?a6 ?l6 ?c6 ?k6 ?a7 ?l7 ?c7 ?k7 ?a8 ?l8 ?c8 ?k8 ?a9 ?l9 ?c9 ?k9 ?a10 ?l10 ?c10 ?k10 ?a11 ?l11 ?c11 ?k11 ?z0 ?z1 ?z2 ?z3 ?z4 ?z5 ?z6 ?z7 ?z8 ?z9 ?z10 ?z11
    (case a0 => k_is)
    (case l0 => k_is)
    (case c0 => k_is)
    (case k0 => k_is)
    (case a1 => k_is)
    (case l1 => k_is)
    (case c1 => k_is)
    (case k1 => k_is)
    (case a2 => k_is)
    (case l2 => k_is)
    (case c2 => k_is)
    (case k2 => k_is)
    (case a3 => k_is)
    (case l3 => k_is)
    (case c3 => k_is)
    (case k3 => k_is)
    (case a4 => k_is)
    (case l4 => k_is)
    (case c4 => k_is)
    (case k4 => k_is)
    (case a5 => k_is)
    (case l5 => k_is)
    (case c5 => k_is)
    (case k5 => k_is)
    (case a6 => k_is)
    (case l6 => k_is)
    (case c6 => k_is)
    (case k6 => k_is)
    (case a7 => k_is)
    (case l7 => k_is)
    (case c7 => k_is)
    (case k7 => k_is)
    (case a8 => k_is)
    (case l8 => k_is)
    (case c8 => k_is)
    (case k8 => k_is)
    (case a9 => k_is)
    (case l9 => k_is)
    (case c9 => k_is)
    (case k9 => k_is)
    (case a10 => k_is)
    (case l10 => k_is)
    (case c10 => k_is)
    (case k10 => k_is)
    (case a11 => k_is)
    (case l11 => k_is)
    (case c11 => k_is)
    (case k11 => k_is)
    (case z0 => k_is)
    (case z1 => k_is)
    (case z2 => k_is)
    (case z3 => k_is)
    (case z4 => k_is)
    (case z5 => k_is)
    (case z6 => k_is)
    (case z7 => k_is)
    (case z8 => k_is)
    (case z9 => k_is)
    (case z10 => k_is)
    (case z11 => k_is)
