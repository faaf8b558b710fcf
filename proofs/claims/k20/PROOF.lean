import PyProof.Rows.All
import Wide.All
import OpenK.AllK
import Wide.FinOn
import HandS.ForMost
import HandS.Codes
import HandS.Steps
import HandS.IsInst
import HandS.Property
import HandS.Wide
import HandS.WideBits
import HandS.Exc
import HandS.Defaults
import HandS.ExcOwn
import HandS.TryOnly
import HandS.WordsExc
import HandS.ExcIs
import HandS.MakeKwOnly
import HandS.RaiseMore
import HandS.Style
import HandS.Zip
import HandS.Iter
import HandS.Walk
import HandS.More
import HandS.SetFor
import HandS.Strs
import PySem.Challenge.RW_thaumatrope_k20_settings_written_and_rea
set_option Elab.async false
set_option linter.all false
set_option maxRecDepth 100000
set_option maxHeartbeats 8000000
namespace Vx
open PySem PySem.Spec PyProof.Rows L2

/-! ### heaps -/
def SameX (m : Addr) (H H' : Hp) : Prop := ∀ b o, H b = some o → b ≠ m → H' b = some o
theorem gen_new {H H' : Hp} {p : Addr} {o : HO} (n : H p = none) (h : upd H p o = H') : Same H H' ∧ H' p = some o := by
  subst h
  exact ⟨fun b u e => by rw [upd_ne (ne_of_none e n)]; exact e, upd_same⟩
theorem gen_mut {H H' : Hp} {m : Addr} {o : HO} (h : upd H m o = H') : SameX m H H' ∧ H' m = some o := by
  subst h
  exact ⟨fun b u e n => by rw [upd_ne n]; exact e, upd_same⟩
theorem same_mut {H0 H H' : Hp} {m : Addr} (B : Same H0 H) (x : SameX m H H') (f : H0 m = none) : Same H0 H' :=
  fun b o e => x b o (B b o e) (ne_of_none e f)
theorem map_get {xs : List Int} {i : Nat} {x : V} (h : (xs.map V.int)[i]? = some x) : ∃ o, xs[i]? = some o ∧ x = .int o := by
  rw [List.getElem?_map] at h
  cases e : xs[i]? with
  | none => rw [e] at h; cases h
  | some z => rw [e] at h; exact ⟨z, rfl, (Option.some.inj h).symm⟩
theorem get_len {α : Type} {xs : List α} {i : Nat} {x : α} (h : xs[i]? = some x) : i < xs.length := (List.getElem?_eq_some_iff.mp h).1
theorem eq_int {Q : VK} {H : Hp} {a b : Int} (h : Q (.int a) H) (e : a = b) : Q (.int b) H := e ▸ h
theorem eq_bl {Q : VK} {H : Hp} {a b : Bool} (h : Q (.bl a) H) (e : a = b) : Q (.bl b) H := e ▸ h
theorem small {n : Nat} (h : n ≤ 1000000) : n < sizeLine := Nat.lt_of_le_of_lt h (by decide)
theorem smallE {n : Nat} (h : n ≤ 1000000) : n ≤ sizeLine := Nat.le_of_lt (small h)
theorem snoc_int {xs : List Int} {y : Int} {H : Hp} {p : Addr} (h : H p = some (.lst (xs.map V.int ++ [V.int y]))) : H p = some (.lst ((xs ++ [y]).map V.int)) := by
  rw [List.map_append]; exact h
theorem cat_int {xs ys : List Int} {H : Hp} {p : Addr} (h : H p = some (.lst (xs.map V.int ++ ys.map V.int))) : H p = some (.lst ((xs ++ ys).map V.int)) := by
  rw [List.map_append]; exact h
theorem cast_lst {xs ys : List Int} {H : Hp} {p : Addr} (h : H p = some (.lst (xs.map V.int))) (e : xs = ys) : H p = some (.lst (ys.map V.int)) := e ▸ h

/-! ### tests -/
theorem dT {p : Prop} [Decidable p] (h : decide p = true) : p := of_decide_eq_true h
theorem dF {p : Prop} [Decidable p] (h : ¬ decide p = true) : ¬ p := fun x => h (decide_eq_true x)
theorem iteD {p A B : Prop} [Decidable p] (h1 : p → A) (h2 : ¬ p → B) : if decide p = true then A else B := by
  by_cases h : p
  · rw [if_pos (decide_eq_true h)]; exact h1 h
  · rw [if_neg (fun x => h (of_decide_eq_true x))]; exact h2 h
theorem iteN {p A B : Prop} [Decidable p] (h1 : ¬ p → A) (h2 : p → B) : if (!decide p) = true then A else B := by
  by_cases h : p
  · rw [decide_eq_true h]; exact iteF (h2 h)
  · rw [decide_eq_false h]; exact iteT (h1 h)
theorem iteB {b : Bool} {A B : Prop} (h1 : b = true → A) (h2 : b = false → B) : if b = true then A else B := by
  cases b with
  | true => exact iteT (h1 rfl)
  | false => exact iteF (h2 rfl)
theorem iteBN {b : Bool} {A B : Prop} (h1 : b = false → A) (h2 : b = true → B) : if (!b) = true then A else B := by
  cases b with
  | true => exact iteF (h2 rfl)
  | false => exact iteT (h1 rfl)
theorem iteDT {p A B : Prop} [Decidable p] (h : p) (k : A) : if decide p = true then A else B := by
  rw [if_pos (decide_eq_true h)]; exact k
theorem iteDF {p A B : Prop} [Decidable p] (h : ¬ p) (k : B) : if decide p = true then A else B := by
  rw [if_neg (fun x => h (of_decide_eq_true x))]; exact k
theorem iteNT {p A B : Prop} [Decidable p] (h : ¬ p) (k : A) : if (!decide p) = true then A else B := iteN (fun _ => k) (fun x => (h x).elim)
theorem iteNF {p A B : Prop} [Decidable p] (h : p) (k : B) : if (!decide p) = true then A else B := iteN (fun x => (x h).elim) (fun _ => k)

/-! ### equality of lists of ints -/
theorem eqvAll_ints : ∀ xs ys : List Int, PyData.eqvAll (xs.map PyData.int) (ys.map PyData.int) = decide (xs = ys)
  | [], [] => by simp [PyData.eqvAll]
  | [], y :: ys => by simp [PyData.eqvAll]
  | x :: xs, [] => by simp [PyData.eqvAll]
  | x :: xs, y :: ys => by
    have ih := eqvAll_ints xs ys
    simp only [List.map_cons, PyData.eqvAll, PyData.eqv, ih]
    by_cases h : x = y <;> by_cases h2 : xs = ys <;> simp [h, h2]
end Vx

namespace Vx
open PySem PySem.Spec PyProof.Rows L2
section
variable {X : Cx}
def rEqLi (K : PySem.W.Frag) : R2 := fun x y H Q => ∃ (a b : Addr) (xs ys : List Int), x = .ref a ∧ y = .ref b ∧ SqL K H a (xs.map V.int) ∧ SqL K H b (ys.map V.int) ∧ Q (.bl (decide (xs = ys))) H
def rNeLi (K : PySem.W.Frag) : R2 := fun x y H Q => ∃ (a b : Addr) (xs ys : List Int), x = .ref a ∧ y = .ref b ∧ SqL K H a (xs.map V.int) ∧ SqL K H b (ys.map V.int) ∧ Q (.bl (!decide (xs = ys))) H
theorem dpAll_ints {K : PySem.W.Frag} {H : Hp} : ∀ xs : List Int, DpAll K H (xs.map V.int) (xs.map PyData.int)
  | [] => .nil
  | x :: xs => .cons (.int x) (dpAll_ints xs)
theorem dp_ints {K : PySem.W.Frag} {H : Hp} {a : Addr} {xs : List Int} (h : SqL K H a (xs.map V.int)) : Dp K H (.ref a) (.list (xs.map PyData.int)) := .lst h (dpAll_ints xs)
theorem canLay_ints : ∀ xs : List Int, PyData.canLayAll0 (xs.map PyData.int) = true
  | [] => by simp [PyData.canLayAll0]
  | x :: xs => by simp [PyData.canLayAll0, PyData.canLay0, canLay_ints xs]
theorem depth_ints : ∀ xs : List Int, PyData.depthAll (xs.map PyData.int) = 0
  | [] => by simp [PyData.depthAll]
  | x :: xs => by simp [PyData.depthAll, PyData.depth, depth_ints xs]
theorem shaped_ints (xs : List Int) : SeqAt.shaped (.list (xs.map PyData.int)) = true := by
  unfold SeqAt.shaped
  simp [PyData.canLay0, canLay_ints, PyData.depth, depth_ints]
theorem eqv_ints (xs ys : List Int) : PyData.eqv (.list (xs.map PyData.int)) (.list (ys.map PyData.int)) = decide (xs = ys) := by
  simp only [PyData.eqv]
  exact eqvAll_ints xs ys
theorem op_eqLi (hu : X.A.units + 64 < cLine) : OpR X (compareOp .Eq) (rEqLi X.K) := by
  intro pins s σ H x y v u Q I rx ry h
  obtain ⟨a, b, xs, ys, rfl, rfl, h1, h2, q⟩ := h
  exact op_eqD hu pins s σ H _ _ v u Q I rx ry ⟨_, _, dp_ints h1, dp_ints h2, shaped_ints xs, shaped_ints ys, by rw [eqv_ints]; exact q⟩
theorem op_neLi (hu : X.A.units + 64 < cLine) : OpR X (compareOp .NotEq) (rNeLi X.K) := by
  intro pins s σ H x y v u Q I rx ry h
  obtain ⟨a, b, xs, ys, rfl, rfl, h1, h2, q⟩ := h
  exact op_neD hu pins s σ H _ _ v u Q I rx ry ⟨_, _, dp_ints h1, dp_ints h2, shaped_ints xs, shaped_ints ys, by rw [eqv_ints]; exact q⟩

/-! ### items, slices, repetition, comprehensions of ints -/
def itI (xs : List Int) (i : Int) : Int := (atI xs i).getD 0
theorem atI_int {xs : List Int} {i : Int} (h : -(xs.length : Int) ≤ i ∧ i < xs.length) : atI (xs.map V.int) i = some (.int (itI xs i)) := by
  unfold itI atI
  rw [List.length_map]
  have hk : ∃ j, ixN xs.length i = some j ∧ j < xs.length := by
    unfold ixN
    by_cases h0 : 0 ≤ i
    · refine ⟨i.toNat, ?_, by omega⟩
      rw [if_pos h0, if_pos h.2]
    · refine ⟨(i + xs.length).toNat, ?_, by omega⟩
      rw [if_neg h0, if_pos h.1]
  obtain ⟨j, e, hj⟩ := hk
  rw [e]
  show (xs.map V.int)[j]? = some (V.int ((xs[j]?).getD 0))
  rw [List.getElem?_map, List.getElem?_eq_getElem hj] <;> rfl
def cutI (xs : List Int) (lo hi : Option Int) : List Int := (xs.drop (HT.sIx xs.length 0 lo)).take (HT.sIx xs.length xs.length hi - HT.sIx xs.length 0 lo)
theorem cut_int {xs : List Int} {lo hi : Option Int} {H : Hp} {p : Addr} (h : H p = some (.lst (cutV (xs.map V.int) lo hi))) : H p = some (.lst ((cutI xs lo hi).map V.int)) := by
  rw [h]
  unfold cutV cutI
  rw [List.length_map, List.map_take, List.map_drop]
def rep (xs : List Int) (k : Int) : List Int := (List.replicate k.toNat xs).flatten
theorem rep_int {xs : List Int} {k : Int} {H : Hp} {p : Addr} (h : H p = some (.lst (List.replicate k.toNat (xs.map V.int)).flatten)) : H p = some (.lst ((rep xs k).map V.int)) := by
  rw [h]
  unfold rep
  rw [List.map_flatten, List.map_replicate]
theorem divW_lit {i j : Int} (h : 0 < j) (h2 : j.natAbs.log2 < 9000) : CDivW i j := ⟨h, h2⟩
theorem divW_small {i j : Int} (h : 0 < j) (h2 : j < 2 ^ 128) : CDivW i j := wide_div h (show j.natAbs < 2 ^ 128 by omega) (by decide) (by decide)
theorem comp_list {xs : List Int} {i : Nat} {x y : Int} {f : Int → Int} {H : Hp} {D : Addr} (hi : xs[i]? = some x) (h : H D = some (.lst (((xs.take i).map f).map V.int ++ [V.int y]))) (e : f x = y) : H D = some (.lst (((xs.take (i + 1)).map f).map V.int)) := by
  rw [h, ← e, List.take_succ, hi, List.map_append, List.map_append] <;> rfl
theorem comp_done {xs : List Int} {f : Int → Int} {H : Hp} {D : Addr} (h : H D = some (.lst (((xs.take (xs.map V.int).length).map f).map V.int))) : H D = some (.lst ((xs.map f).map V.int)) := by
  rw [List.length_map, List.take_length] at h
  exact h
theorem comp_range {i : Nat} {y : Int} {f : Nat → Int} {H : Hp} {D : Addr} (h : H D = some (.lst (((List.range i).map f).map V.int ++ [V.int y]))) (e : f i = y) : H D = some (.lst (((List.range (i + 1)).map f).map V.int)) := by
  rw [h, ← e, List.range_succ, List.map_append, List.map_append] <;> rfl
theorem iteBT {b : Bool} {A B : Prop} (h : b = true) (k : A) : if b = true then A else B := by rw [if_pos h]; exact k
theorem iteBF {b : Bool} {A B : Prop} (h : b = false) (k : B) : if b = true then A else B := by rw [if_neg (by rw [h]; decide)]; exact k
theorem take_succ_get {α : Type} {xs : List α} {i : Nat} {x : α} (hi : xs[i]? = some x) : xs.take (i + 1) = xs.take i ++ [x] := by rw [List.take_succ, hi] <;> rfl
end

/-! ### defs of the module, as callers see them -/
section
variable {P : Program} {w : World} {K : PySem.W.Frag} {mg : Str → Option Value} {base : Heap}
structure DefIn (K : PySem.W.Frag) (mg : Str → Option Value) (x : Str) (st : Stmt) (ps : List Str) : Prop where
  ex : ∃ (f : Addr) (fd : FuncData), Fun K x x st f fd ∧ mg x = some (.ref f) ∧ Binds K fd ps []
structure Cal (P : Program) (w : World) (K : PySem.W.Frag) (mg : Str → Option Value) (base : Heap) (k : Nat) (x : Str) (sp : Sp) : Prop where
  ex : ∃ (f : Addr) (fd : FuncData) (ps : List Str), FnOk P w K mg base CX0 k f fd ps sp ∧ mg x = some (.ref f) ∧ PySem.W.keepIn K (.ref f) = true ∧ Binds K fd ps []
theorem DefIn.ok {x : Str} {st : Stmt} {N ps : List Str} {k : Nat} {sp : Sp} (D : DefIn K mg x st ps) (S : FnScope N ps (defScope st)) (len : ∀ vs H Q E, sp vs H Q E → vs.length = ps.length)
    (hbody : ∀ (f : Addr) (cdv : Value) (A : Around) (outer : List Env) (s : Shared) (H : Hp) (vs : List V) (Q : VK) (E : XK), Room k (A.deeper (envOfC x (defScope st) s.heap.objs.size f cdv)) → sp vs H Q E →
      ∃ t, PSs (cxOf CX0 P w K mg base N x (defScope st) f cdv A outer s H E).nox (defBody st) t ∧ t { nx := fun _ H' => Q .non H', rt := Q } (start N vs) H) : Cal P w K mg base (k + 1) x sp := by
  obtain ⟨f, fd, F, hm, b⟩ := D.ex
  exact ⟨f, fd, ps, F.ok S len (fun cdv A outer s H vs Q E hr h => hbody f cdv A outer s H vs Q E hr h), hm, F.kp, b⟩
end
section
variable {X : Cx} {k j : Nat} {x : Str} {sp : Sp} {p pos : Pos} {e : Expr} {es : List Expr} {t : TA}
theorem vx_call (c : Cal X.prog X.w X.K X.mg X.base k x sp) (hr : Room j X.A) (hk : k ≤ j) (hg : Gl X x) (ha : PA X (e :: es) t)
    (hdb : (x == ("__debug__" : Str)) = false := by decide) (he : starEach (e :: es) X.env = (false, eval e X.env) :: starEach es X.env := by rfl) (hpl : (backTo pos (starEach es X.env)).any (·.1) = false := by rfl) :
    PE X (.Call (.Name x p) (e :: es) [] pos) (tCall sp [] E0 t) := by
  obtain ⟨f, fd, ps, F, hm, kp, b⟩ := c.ex
  exact pe_call F (hr.mono hk) hg hm kp b .nil pass0 ha hdb he hpl
end
end Vx

namespace Vx
open PySem PySem.Spec PyProof.Rows L2
section
variable {σ : L2.St} {H : Hp} {ta tb : TE} {x y z : V} {t : TT}
theorem vv_and {a b : Bool} (h1 : Val ta σ H (.bl a)) (h2 : Val tb σ H (.bl b)) : Val (tAndV ta tb) σ H (.bl (a && b)) := fun Q q => h1 _ ⟨a, rfl, by
  cases a with
  | true => exact iteT (h2 Q q)
  | false => exact iteF q⟩
theorem vv_or {a b : Bool} (h1 : Val ta σ H (.bl a)) (h2 : Val tb σ H (.bl b)) : Val (tOrV ta tb) σ H (.bl (a || b)) := fun Q q => h1 _ ⟨a, rfl, by
  cases a with
  | true => exact iteT q
  | false => exact iteF (h2 Q q)⟩
theorem vv_not {a : Bool} (h1 : Val ta σ H (.bl a)) : Val (tNotV ta) σ H (.bl (!a)) := fun Q q => h1 _ ⟨a, rfl, q⟩
theorem vv_un {r : V → Hp → VK → Prop} (ha : Val ta σ H x) (hr : ∀ Q : VK, Q z H → r x H Q) : Val (tUn r ta) σ H z := fun Q q => ha _ (hr Q q)
theorem vv_cmp {p : Int → Int → Bool} (ha : Val ta σ H x) (hb : Val tb σ H y) (hr : ∀ Q : VK, Q z H → ∃ i j, x = .int i ∧ y = .int j ∧ Q (.bl (p i j)) H) : Val (tCmp p ta tb) σ H z := fun Q q => ha _ (hb _ (hr Q q))
theorem vv_call1 {r : List V → Hp → VK → Prop} (ha : Val ta σ H x) (hr : ∀ Q : VK, Q z H → r [x] H Q) : Val (tCB r (tCons ta tNil)) σ H z := fun Q q => ha _ (hr Q q)
theorem vt_cmp {b : Bool} (h : Val ta σ H (.bl b)) : Ans (tB ta) σ H b := fun Q q => h _ ⟨b, rfl, q⟩
theorem vt_val {b : Bool} (h : Val ta σ H (.bl b)) : Ans (tB ta) σ H b := fun Q q => h _ ⟨b, rfl, q⟩
theorem vt_int {i : Int} {K : PySem.W.Frag} (h : Val ta σ H (.int i)) : Ans (fun σ H Q => ta σ H fun x H' => ∃ k, TruV K x H' k ∧ Q k H') σ H (i != 0) := fun Q q => h _ ⟨_, rfl, q⟩
theorem vv_if {p : Prop} [Decidable p] {a b : Int} (ht : Ans t σ H (decide p)) (hx : Val ta σ H (.int a)) (hy : Val tb σ H (.int b)) : Val (tIf t ta tb) σ H (.int (if p then a else b)) := fun Q q => ht _ (by
  by_cases h : p
  · rw [if_pos h] at q; exact iteDT h (hx Q q)
  · rw [if_neg h] at q; exact iteDF h (hy Q q))
theorem vv_ifb {c : Bool} {a b : Int} (ht : Ans t σ H c) (hx : Val ta σ H (.int a)) (hy : Val tb σ H (.int b)) : Val (tIf t ta tb) σ H (.int (if c = true then a else b)) := fun Q q => ht _ (by
  cases c with
  | true => exact iteT (hx Q q)
  | false => exact iteF (hy Q q))
end
end Vx

namespace Vx
open PySem PySem.Spec PyProof.Rows L2
def rLenLi (K : PySem.W.Frag) : List V → Hp → VK → Prop := fun xs H Q => ∃ (p : Addr) (ns : List Int), xs = [.ref p] ∧ SqL K H p (ns.map V.int) ∧ Q (.int (ns.length : Int)) H
theorem call_lenLi {X : Cx} : CallR X (.builtin "len") (rLenLi X.K) := by
  intro pins s σ H xs us Q I r h
  obtain ⟨p, ns, rfl, hs, q⟩ := h
  exact call_len_seq pins s σ H _ us Q I r ⟨p, _, rfl, Or.inl hs, by rw [List.length_map]; exact q⟩
end Vx

namespace Vx
open PySem PySem.Spec PyProof.Rows L2
section
variable {X : Cx} {K : PySem.W.Frag}
theorem ix_listK (hK : X.K = K := by rfl) : IxR X (rIxL K) := hK ▸ ix_list
theorem sl_listK (hK : X.K = K := by rfl) : SlR X (rSlL K) := hK ▸ sl_list
theorem call_lenLiK (hK : X.K = K := by rfl) : CallR X (.builtin "len") (rLenLi K) := hK ▸ call_lenLi
theorem op_eqLiK (hu : X.A.units + 64 < cLine) (hK : X.K = K := by rfl) : OpR X (compareOp .Eq) (rEqLi K) := hK ▸ op_eqLi hu
theorem op_neLiK (hu : X.A.units + 64 < cLine) (hK : X.K = K := by rfl) : OpR X (compareOp .NotEq) (rNeLi K) := hK ▸ op_neLi hu
theorem pi_listK {tg l : Expr} {tl : TE} (hl : PE X l tl) (hK : X.K = K := by rfl) : PI X tg l (iList K tl) := hK ▸ pi_list hl
theorem cr_sumK (hc : X.calm = true) (hK : X.K = K := by rfl) : CallR X (.builtin "sum") (rSum K) := hK ▸ cr_sum hc
theorem cr_maxK (hc : X.calm = true) (hK : X.K = K := by rfl) : CallR X (.builtin "max") (rMax K) := hK ▸ cr_max hc
theorem cr_minK (hc : X.calm = true) (hK : X.K = K := by rfl) : CallR X (.builtin "min") (rMin K) := hK ▸ cr_min hc
end
end Vx

namespace Vx
open PySem PySem.Spec PyProof.Rows L2
theorem tyes_go {σ : L2.St} {H : Hp} {f g : Hp → Prop} (h : f H) : tYes σ H (fun b H3 => if b = true then f H3 else g H3) := by
  show if true = true then f H else g H
  exact iteT h
end Vx

/-! # second part: data of any depth, the stable heap G, the owned addresses O -/
namespace Vx
open PySem PySem.Spec PyProof.Rows L2
mutual
inductive Rp (H : Hp) : V → PyData → Prop
  | non : Rp H .non .none
  | bl (b : Bool) : Rp H (.bl b) (.bool b)
  | int (i : Int) : Rp H (.int i) (.int i)
  | str (x : Str) : Rp H (.str x) (.str x)
  | lst {a : Addr} {xs : List V} {ds : List PyData} : H a = some (.lst xs) → RpAll H xs ds → Rp H (.ref a) (.list ds)
  | tup {a : Addr} {xs : List V} {ds : List PyData} : H a = some (.tup xs) → RpAll H xs ds → Rp H (.ref a) (.tuple ds)
inductive RpAll (H : Hp) : List V → List PyData → Prop
  | nil : RpAll H [] []
  | cons {v : V} {vs : List V} {d : PyData} {ds : List PyData} : Rp H v d → RpAll H vs ds → RpAll H (v :: vs) (d :: ds)
end
mutual
theorem Rp.mono {H H' : Hp} (e : Same H H') : ∀ {v : V} {d : PyData}, Rp H v d → Rp H' v d
  | _, _, .non => .non
  | _, _, .bl b => .bl b
  | _, _, .int i => .int i
  | _, _, .str x => .str x
  | _, _, .lst h r => .lst (e _ _ h) (RpAll.mono e r)
  | _, _, .tup h r => .tup (e _ _ h) (RpAll.mono e r)
theorem RpAll.mono {H H' : Hp} (e : Same H H') : ∀ {vs : List V} {ds : List PyData}, RpAll H vs ds → RpAll H' vs ds
  | _, _, .nil => .nil
  | _, _, .cons a b => .cons (Rp.mono e a) (RpAll.mono e b)
end
mutual
theorem Rp.dp {K : PySem.W.Frag} {H : Hp} : ∀ {v : V} {d : PyData}, Rp H v d → Dp K H v d
  | _, _, .non => .non
  | _, _, .bl b => .bl b
  | _, _, .int i => .int i
  | _, _, .str x => .str x
  | _, _, .lst h r => .lst (SqL.of h) (RpAll.dp r)
  | _, _, .tup h r => .tup (SqT.of h) (RpAll.dp r)
theorem RpAll.dp {K : PySem.W.Frag} {H : Hp} : ∀ {vs : List V} {ds : List PyData}, RpAll H vs ds → DpAll K H vs ds
  | _, _, .nil => .nil
  | _, _, .cons a b => .cons (Rp.dp a) (RpAll.dp b)
end
theorem RpAll.append {H : Hp} : ∀ {xs ys : List V} {ds es : List PyData}, RpAll H xs ds → RpAll H ys es → RpAll H (xs ++ ys) (ds ++ es)
  | _, _, _, _, .nil, s => s
  | _, _, _, _, .cons r t, s => .cons r (RpAll.append t s)
theorem RpAll.ints {H : Hp} : ∀ xs : List Int, RpAll H (xs.map V.int) (xs.map PyData.int)
  | [] => .nil
  | x :: xs => .cons (.int x) (RpAll.ints xs)
theorem RpAll.bls {H : Hp} : ∀ xs : List Bool, RpAll H (xs.map V.bl) (xs.map PyData.bool)
  | [] => .nil
  | x :: xs => .cons (.bl x) (RpAll.bls xs)
theorem RpAll.one {H : Hp} {v : V} {d : PyData} (h : Rp H v d) : RpAll H [v] [d] := .cons h .nil
theorem RpAll.len {H : Hp} : ∀ {vs : List V} {ds : List PyData}, RpAll H vs ds → vs.length = ds.length
  | _, _, .nil => rfl
  | _, _, .cons _ t => by rw [List.length_cons, List.length_cons, RpAll.len t]
theorem RpAll.at {H : Hp} : ∀ {vs : List V} {ds : List PyData} {i : Nat} {v : V}, RpAll H vs ds → vs[i]? = some v → ∃ d, ds[i]? = some d ∧ Rp H v d
  | _, _, _, _, .nil, h => by simp at h
  | _, _, 0, _, .cons r _, h => by
    simp at h
    subst h
    exact ⟨_, rfl, r⟩
  | _, _, i + 1, _, .cons _ t, h => by
    obtain ⟨d, h1, h2⟩ := RpAll.at (i := i) t (by simpa using h)
    exact ⟨d, by simpa using h1, h2⟩
theorem RpAll.at' {H : Hp} : ∀ {vs : List V} {ds : List PyData} {i : Nat} {d : PyData}, RpAll H vs ds → ds[i]? = some d → ∃ v, vs[i]? = some v ∧ Rp H v d
  | _, _, _, _, .nil, h => by simp at h
  | _, _, 0, _, .cons r _, h => by
    simp at h
    subst h
    exact ⟨_, rfl, r⟩
  | _, _, i + 1, _, .cons _ t, h => by
    obtain ⟨v, h1, h2⟩ := RpAll.at' (i := i) t (by simpa using h)
    exact ⟨v, by simpa using h1, h2⟩
theorem RpAll.take {H : Hp} : ∀ (n : Nat) {vs : List V} {ds : List PyData}, RpAll H vs ds → RpAll H (vs.take n) (ds.take n)
  | 0, _, _, _ => by simpa using RpAll.nil
  | n + 1, _, _, .nil => by simpa using RpAll.nil
  | n + 1, _, _, .cons r t => .cons r (RpAll.take n t)
theorem RpAll.drop {H : Hp} : ∀ (n : Nat) {vs : List V} {ds : List PyData}, RpAll H vs ds → RpAll H (vs.drop n) (ds.drop n)
  | 0, _, _, r => r
  | n + 1, _, _, .nil => by simpa using RpAll.nil
  | n + 1, _, _, .cons r t => RpAll.drop n t
theorem RpAll.set {H : Hp} {v : V} {d : PyData} (h : Rp H v d) : ∀ (n : Nat) {vs : List V} {ds : List PyData}, RpAll H vs ds → RpAll H (vs.set n v) (ds.set n d)
  | _, _, _, .nil => .nil
  | 0, _, _, .cons _ t => .cons h t
  | n + 1, _, _, .cons r t => .cons r (RpAll.set h n t)
theorem RpAll.rep {H : Hp} {vs : List V} {ds : List PyData} (h : RpAll H vs ds) : ∀ n : Nat, RpAll H (List.replicate n vs).flatten (List.replicate n ds).flatten
  | 0 => by simpa using RpAll.nil
  | n + 1 => by
    rw [List.replicate_succ, List.flatten_cons, List.replicate_succ, List.flatten_cons]
    exact RpAll.append h (RpAll.rep h n)
theorem RpAll.get {α : Type} {f : α → PyData} {H : Hp} {vs : List V} {xs : List α} {i : Nat} {v : V} (r : RpAll H vs (xs.map f)) (h : vs[i]? = some v) : ∃ x, xs[i]? = some x ∧ Rp H v (f x) := by
  obtain ⟨d, h1, h2⟩ := RpAll.at r h
  rw [List.getElem?_map] at h1
  cases e : xs[i]? with
  | none => rw [e] at h1; cases h1
  | some x =>
    rw [e] at h1
    have : f x = d := Option.some.inj h1
    exact ⟨x, rfl, this ▸ h2⟩
/-- the item at an index, data -/
theorem RpAll.ix {α : Type} {f : α → PyData} {H : Hp} {vs : List V} {xs : List α} {k : Int} (r : RpAll H vs (xs.map f)) (h : -(xs.length : Int) ≤ k ∧ k < xs.length) : ∃ v x, atI vs k = some v ∧ atI xs k = some x ∧ Rp H v (f x) := by
  have hl : vs.length = xs.length := by rw [r.len, List.length_map]
  have hk : ∃ j, ixN xs.length k = some j ∧ j < xs.length := by
    unfold ixN
    by_cases h0 : 0 ≤ k
    · refine ⟨k.toNat, ?_, by omega⟩
      rw [if_pos h0, if_pos h.2]
    · refine ⟨(k + xs.length).toNat, ?_, by omega⟩
      rw [if_neg h0, if_pos h.1]
  obtain ⟨j, e, hj⟩ := hk
  have hx := List.getElem?_eq_getElem hj
  obtain ⟨v, h1, h2⟩ := RpAll.at' (i := j) (d := f xs[j]) r (by rw [List.getElem?_map, hx] <;> rfl)
  refine ⟨v, xs[j], ?_, ?_, h2⟩
  · unfold atI
    rw [hl, e]
    exact h1
  · unfold atI
    rw [e]
    exact hx

/-! ### types -/
def encL {α : Type} (f : α → PyData) (xs : List α) : PyData := .list (xs.map f)
def encT2 {α β : Type} (f : α → PyData) (g : β → PyData) (p : α × β) : PyData := .tuple [f p.1, g p.2]
def encT3 {α β γ : Type} (f : α → PyData) (g : β → PyData) (h : γ → PyData) (p : α × β × γ) : PyData := .tuple [f p.1, g p.2.1, h p.2.2]
def encT4 {α β γ δ : Type} (f : α → PyData) (g : β → PyData) (h : γ → PyData) (i : δ → PyData) (p : α × β × γ × δ) : PyData := .tuple [f p.1, g p.2.1, h p.2.2.1, i p.2.2.2]
structure EncOk {α : Type} [DecidableEq α] (n : Nat) (f : α → PyData) : Prop where
  lay : ∀ x, PyData.canLay0 (f x) = true
  dep : ∀ x, PyData.depth (f x) ≤ n
  eqv : ∀ x y, PyData.eqv (f x) (f y) = decide (x = y)
theorem encOk_int : EncOk 0 PyData.int := ⟨fun _ => by simp [PyData.canLay0], fun _ => by simp [PyData.depth], fun x y => by simp [PyData.eqv]; by_cases h : x = y <;> simp [h]⟩
theorem encOk_bool : EncOk 0 PyData.bool := ⟨fun _ => by simp [PyData.canLay0], fun _ => by simp [PyData.depth], fun x y => by cases x <;> cases y <;> simp [PyData.eqv]⟩
section
variable {α β γ δ : Type} [DecidableEq α] [DecidableEq β] [DecidableEq γ] [DecidableEq δ] {n m l o : Nat} {f : α → PyData} {g : β → PyData} {h : γ → PyData} {i : δ → PyData}
theorem lay_map (ok : EncOk n f) : ∀ xs : List α, PyData.canLayAll0 (xs.map f) = true
  | [] => by simp [PyData.canLayAll0]
  | x :: xs => by simp [PyData.canLayAll0, ok.lay x, lay_map ok xs]
theorem dep_map (ok : EncOk n f) : ∀ xs : List α, PyData.depthAll (xs.map f) ≤ n
  | [] => by simp [PyData.depthAll]
  | x :: xs => by
    have h1 := ok.dep x
    have h2 := dep_map ok xs
    simp only [List.map_cons, PyData.depthAll]
    omega
theorem eqv_map (ok : EncOk n f) : ∀ xs ys : List α, PyData.eqvAll (xs.map f) (ys.map f) = decide (xs = ys)
  | [], [] => by simp [PyData.eqvAll]
  | [], y :: ys => by simp [PyData.eqvAll]
  | x :: xs, [] => by simp [PyData.eqvAll]
  | x :: xs, y :: ys => by
    have ih := eqv_map ok xs ys
    simp only [List.map_cons, PyData.eqvAll, ok.eqv, ih]
    by_cases h : x = y <;> by_cases h2 : xs = ys <;> simp [h, h2]
theorem encOk_L (ok : EncOk n f) : EncOk (n + 1) (encL f) := ⟨fun xs => by simp [encL, PyData.canLay0, lay_map ok], fun xs => by
  have := dep_map ok xs
  simp only [encL, PyData.depth]
  omega, fun xs ys => by simp only [encL, PyData.eqv]; exact eqv_map ok xs ys⟩
theorem encOk_T2 (ok : EncOk n f) (ok2 : EncOk m g) : EncOk (max n m + 1) (encT2 f g) := ⟨fun x => by simp [encT2, PyData.canLay0, PyData.canLayAll0, ok.lay, ok2.lay], fun x => by
  have h1 := ok.dep x.1
  have h2 := ok2.dep x.2
  simp only [encT2, PyData.depth, PyData.depthAll]
  omega, fun x y => by
  obtain ⟨a, b⟩ := x
  obtain ⟨c, d⟩ := y
  simp only [encT2, PyData.eqv, PyData.eqvAll, ok.eqv, ok2.eqv, Prod.mk.injEq]
  by_cases h1 : a = c <;> by_cases h2 : b = d <;> simp [h1, h2]⟩
theorem encOk_T3 (ok : EncOk n f) (ok2 : EncOk m g) (ok3 : EncOk l h) : EncOk (max n (max m l) + 1) (encT3 f g h) := ⟨fun x => by simp [encT3, PyData.canLay0, PyData.canLayAll0, ok.lay, ok2.lay, ok3.lay], fun x => by
  have h1 := ok.dep x.1
  have h2 := ok2.dep x.2.1
  have h3 := ok3.dep x.2.2
  simp only [encT3, PyData.depth, PyData.depthAll]
  omega, fun x y => by
  obtain ⟨a, b, e⟩ := x
  obtain ⟨c, d, e'⟩ := y
  simp only [encT3, PyData.eqv, PyData.eqvAll, ok.eqv, ok2.eqv, ok3.eqv, Prod.mk.injEq]
  by_cases h1 : a = c <;> by_cases h2 : b = d <;> by_cases h3 : e = e' <;> simp [h1, h2, h3]⟩
theorem encOk_T4 (ok : EncOk n f) (ok2 : EncOk m g) (ok3 : EncOk l h) (ok4 : EncOk o i) : EncOk (max n (max m (max l o)) + 1) (encT4 f g h i) := ⟨fun x => by simp [encT4, PyData.canLay0, PyData.canLayAll0, ok.lay, ok2.lay, ok3.lay, ok4.lay], fun x => by
  have h1 := ok.dep x.1
  have h2 := ok2.dep x.2.1
  have h3 := ok3.dep x.2.2.1
  have h4 := ok4.dep x.2.2.2
  simp only [encT4, PyData.depth, PyData.depthAll]
  omega, fun x y => by
  obtain ⟨a, b, e, u⟩ := x
  obtain ⟨c, d, e', u'⟩ := y
  simp only [encT4, PyData.eqv, PyData.eqvAll, ok.eqv, ok2.eqv, ok3.eqv, ok4.eqv, Prod.mk.injEq]
  by_cases h1 : a = c <;> by_cases h2 : b = d <;> by_cases h3 : e = e' <;> by_cases h4 : u = u' <;> simp [h1, h2, h3, h4]⟩
end
section
variable {X : Cx} {α : Type} [DecidableEq α] {n : Nat} {f : α → PyData}
def rEqT (f : α → PyData) : R2 := fun x y H Q => ∃ (a b : α), Rp H x (f a) ∧ Rp H y (f b) ∧ Q (.bl (decide (a = b))) H
def rNeT (f : α → PyData) : R2 := fun x y H Q => ∃ (a b : α), Rp H x (f a) ∧ Rp H y (f b) ∧ Q (.bl (!decide (a = b))) H
theorem shaped_of (ok : EncOk n f) (hn : n ≤ 64) (a : α) : SeqAt.shaped (f a) = true := by
  unfold SeqAt.shaped
  have h := ok.dep a
  rw [ok.lay]
  simp
  omega
theorem op_eqT (ok : EncOk n f) (hu : X.A.units + 64 < cLine) (hn : n ≤ 64 := by decide) : OpR X (compareOp .Eq) (rEqT f) := by
  intro pins s σ H x y v u Q I rx ry h
  obtain ⟨a, b, h1, h2, q⟩ := h
  exact op_eqD hu pins s σ H _ _ v u Q I rx ry ⟨_, _, h1.dp, h2.dp, shaped_of ok hn a, shaped_of ok hn b, by rw [ok.eqv]; exact q⟩
theorem op_neT (ok : EncOk n f) (hu : X.A.units + 64 < cLine) (hn : n ≤ 64 := by decide) : OpR X (compareOp .NotEq) (rNeT f) := by
  intro pins s σ H x y v u Q I rx ry h
  obtain ⟨a, b, h1, h2, q⟩ := h
  exact op_neD hu pins s σ H _ _ v u Q I rx ry ⟨_, _, h1.dp, h2.dp, shaped_of ok hn a, shaped_of ok hn b, by rw [ok.eqv]; exact q⟩
end
section
variable {H : Hp} {v : V} {α β γ δ : Type} {f : α → PyData} {g : β → PyData} {h : γ → PyData} {i : δ → PyData}
theorem rp_int {x : Int} (r : Rp H v (.int x)) : v = .int x := by cases r; rfl
theorem rp_bool {x : Bool} (r : Rp H v (.bool x)) : v = .bl x := by cases r; rfl
theorem rp_str {x : Str} (r : Rp H v (.str x)) : v = .str x := by cases r; rfl
theorem rp_list {xs : List α} (r : Rp H v (encL f xs)) : ∃ a vs, v = .ref a ∧ H a = some (.lst vs) ∧ RpAll H vs (xs.map f) := by
  unfold encL at r
  cases r with
  | lst h1 h2 => exact ⟨_, _, rfl, h1, h2⟩
theorem rpAll_ints : ∀ {vs : List V} {xs : List Int}, RpAll H vs (xs.map PyData.int) → vs = xs.map V.int
  | _, [], .nil => rfl
  | _, x :: xs, .cons r t => by rw [rp_int r, rpAll_ints t] <;> rfl
theorem rp_ints {xs : List Int} (r : Rp H v (encL PyData.int xs)) : ∃ a, v = .ref a ∧ H a = some (.lst (xs.map V.int)) := by
  obtain ⟨a, vs, e, h1, h2⟩ := rp_list r
  rw [rpAll_ints h2] at h1
  exact ⟨a, e, h1⟩
theorem rp_tup2 {x : α × β} (r : Rp H v (encT2 f g x)) : ∃ a v1 v2, v = .ref a ∧ H a = some (.tup [v1, v2]) ∧ Rp H v1 (f x.1) ∧ Rp H v2 (g x.2) := by
  unfold encT2 at r
  cases r with
  | tup h1 h2 =>
    cases h2 with
    | cons a b =>
      cases b with
      | cons b c =>
        cases c
        exact ⟨_, _, _, rfl, h1, a, b⟩
theorem rp_tup3 {x : α × β × γ} (r : Rp H v (encT3 f g h x)) : ∃ a v1 v2 v3, v = .ref a ∧ H a = some (.tup [v1, v2, v3]) ∧ Rp H v1 (f x.1) ∧ Rp H v2 (g x.2.1) ∧ Rp H v3 (h x.2.2) := by
  unfold encT3 at r
  cases r with
  | tup h1 h2 =>
    cases h2 with
    | cons a b =>
      cases b with
      | cons b c =>
        cases c with
        | cons c d =>
          cases d
          exact ⟨_, _, _, _, rfl, h1, a, b, c⟩
theorem rp_mk_list {a : Addr} {vs : List V} {xs : List α} (h1 : H a = some (.lst vs)) (h2 : RpAll H vs (xs.map f)) : Rp H (.ref a) (encL f xs) := .lst h1 h2
theorem rp_mk_ints {a : Addr} {xs : List Int} (h1 : H a = some (.lst (xs.map V.int))) : Rp H (.ref a) (encL PyData.int xs) := .lst h1 (RpAll.ints xs)
theorem rp_mk2 {a : Addr} {v1 v2 : V} {x : α} {y : β} (h1 : H a = some (.tup [v1, v2])) (r1 : Rp H v1 (f x)) (r2 : Rp H v2 (g y)) : Rp H (.ref a) (encT2 f g (x, y)) := .tup h1 (.cons r1 (.cons r2 .nil))
theorem rp_mk3 {a : Addr} {v1 v2 v3 : V} {x : α} {y : β} {z : γ} (h1 : H a = some (.tup [v1, v2, v3])) (r1 : Rp H v1 (f x)) (r2 : Rp H v2 (g y)) (r3 : Rp H v3 (h z)) : Rp H (.ref a) (encT3 f g h (x, y, z)) := .tup h1 (.cons r1 (.cons r2 (.cons r3 .nil)))
end

/-! ### the two heaps -/
def SameXs (L : List Addr) (H H' : Hp) : Prop := ∀ b o, H b = some o → b ∉ L → H' b = some o
theorem SameXs.of {H H' : Hp} {m : Addr} (x : SameX m H H') : SameXs [m] H H' := fun b o e n => x b o e (fun z => n (by rw [z]; exact List.mem_cons_self))
theorem ni1 {b m : Addr} (h : b ≠ m) : b ∉ [m] := by simpa using h
theorem ni2 {b m n : Addr} (h : b ≠ m) (h2 : b ≠ n) : b ∉ [m, n] := by simp [h, h2]
theorem ni3 {b m n o : Addr} (h : b ≠ m) (h2 : b ≠ n) (h3 : b ≠ o) : b ∉ [m, n, o] := by simp [h, h2, h3]
theorem ni4 {b m n o p : Addr} (h : b ≠ m) (h2 : b ≠ n) (h3 : b ≠ o) (h4 : b ≠ p) : b ∉ [m, n, o, p] := by simp [h, h2, h3, h4]
def hideL (L : List Addr) (H : Hp) : Hp := fun b => if b ∈ L then none else H b
theorem hideL_same (L : List Addr) (H : Hp) : Same (hideL L H) H := fun b o e => by
  unfold hideL at e
  split at e
  · cases e
  · exact e
theorem hideL_in {L : List Addr} {H : Hp} {b : Addr} (h : b ∈ L) : hideL L H b = none := if_pos h
theorem hideL_out {L : List Addr} {H : Hp} {b : Addr} (h : b ∉ L) : hideL L H b = H b := if_neg h
/-- M: owned from outside; H0, G0: at the entry; G: what stays as it is; O: what may change -/
structure Sep (M : List Addr) (H0 G0 G H : Hp) (O : List Addr) : Prop where
  base : SameXs M H0 H
  pm : ∀ a ∈ M, H a ≠ none
  sG : Same G H
  g0 : Same G0 G
  gn : ∀ b, H0 b ≠ none → G0 b = none → G b = none
  ow : ∀ a ∈ O, G a = none ∧ H a ≠ none ∧ (a ∈ M ∨ H0 a = none)
theorem all_nil {P : Addr → Prop} : ∀ x ∈ ([] : List Addr), P x := fun x h => by cases h
theorem all_cons {P : Addr → Prop} {a : Addr} {l : List Addr} (h : P a) (t : ∀ x ∈ l, P x) : ∀ x ∈ a :: l, P x := fun x hx => by
  cases hx with
  | head => exact h
  | tail _ hx => exact t x hx
theorem some_ne {H : Hp} {a : Addr} {o : HO} (h : H a = some o) : H a ≠ none := by
  rw [h]
  exact fun z => nomatch z
theorem same_ne {H H' : Hp} {a : Addr} (e : Same H H') (h : H a ≠ none) : H' a ≠ none := by
  cases q : H a with
  | none => exact absurd q h
  | some o => exact some_ne (e a o q)
section
variable {M : List Addr} {H0 G0 G H H' : Hp} {O : List Addr} {p m : Addr} {o : HO}
theorem Sep.start (M : List Addr) (H : Hp) (hM : ∀ a ∈ M, H a ≠ none) : Sep M H (hideL M H) (hideL M H) H M :=
  ⟨fun _ _ e _ => e, hM, hideL_same M H, Same.refl _, fun _ _ e => e, fun a ha => ⟨hideL_in ha, hM a ha, .inl ha⟩⟩
theorem Sep.startG {G H : Hp} (e : Same G H) : Sep [] H G G H [] := ⟨fun _ _ e _ => e, all_nil, e, Same.refl _, fun _ _ e => e, fun a ha => by cases ha⟩
theorem Sep.start0 (H : Hp) : Sep [] H H H H [] := Sep.startG (Same.refl H)
theorem Sep.b0 (S : Sep [] H0 G0 G H O) : Same H0 H := fun b o e => S.base b o e List.not_mem_nil
theorem Sep.free (S : Sep M H0 G0 G H O) {q : Addr} (n : H q = none) : H0 q = none := by
  cases e : H0 q with
  | none => rfl
  | some o =>
    by_cases h : q ∈ M
    · exact absurd n (S.pm q h)
    · rw [S.base q o e h] at n
      cases n
theorem Sep.same (S : Sep M H0 G0 G H O) (e : Same H H') : Sep M H0 G0 G H' O :=
  ⟨fun b o h n => e b o (S.base b o h n), fun a ha => same_ne e (S.pm a ha), S.sG.trans e, S.g0, S.gn, fun a ha => ⟨(S.ow a ha).1, same_ne e (S.ow a ha).2.1, (S.ow a ha).2.2⟩⟩
theorem Sep.gfree (S : Sep M H0 G0 G H O) {q : Addr} (n : H q = none) : G q = none := by
  cases e : G q with
  | none => rfl
  | some o => rw [S.sG q o e] at n; cases n
theorem Sep.new (S : Sep M H0 G0 G H O) (n : H p = none) (e : Same H H') (h : H' p = some o) (hm : H0 p = none) : Sep M H0 G0 G H' (p :: O) := by
  have S1 := S.same e
  refine ⟨S1.base, S1.pm, S1.sG, S1.g0, S1.gn, fun a ha => ?_⟩
  cases ha with
  | head => exact ⟨S.gfree n, some_ne h, .inr hm⟩
  | tail _ ha => exact S1.ow a ha
theorem Sep.grow (S : Sep M H0 G0 G H O) (n : H p = none) (e : Same H H') (h : H' p = some o) (hm : H0 p = none) : ∃ G', Same G G' ∧ G' p = some o ∧ Sep M H0 G0 G' H' O := by
  have S1 := S.same e
  have ng := S.gfree n
  refine ⟨upd G p o, fun b u q => by rw [upd_ne (ne_of_none q ng)]; exact q, upd_same, S1.base, S1.pm, fun b u q => ?_, fun b u q => ?_, fun b hb gb => ?_, fun a ha => ?_⟩
  · by_cases z : b = p
    · subst z
      rw [upd_same] at q
      exact q ▸ h
    · rw [upd_ne z] at q
      exact S1.sG b u q
  · have := S.g0 b u q
    rw [upd_ne (ne_of_none this ng)]
    exact this
  · by_cases z : b = p
    · subst z
      exact absurd hm hb
    · rw [upd_ne z]
      exact S.gn b hb gb
  · have hne : a ≠ p := fun z => (S.ow a ha).2.1 (by rw [z]; exact n)
    rw [upd_ne hne]
    exact S1.ow a ha
theorem Sep.mut (S : Sep M H0 G0 G H O) {L : List Addr} (x : SameXs L H H') (hL : ∀ a ∈ L, a ∈ O) (hs : ∀ a ∈ L, H' a ≠ none) : Sep M H0 G0 G H' O := by
  have keep : ∀ a, H a ≠ none → H' a ≠ none := fun a h => by
    by_cases hb : a ∈ L
    · exact hs a hb
    · cases q : H a with
      | none => exact absurd q h
      | some o => exact some_ne (x a o q hb)
  refine ⟨fun b o e n => ?_, fun a ha => keep a (S.pm a ha), fun b o e => ?_, S.g0, S.gn, fun a ha => ⟨(S.ow a ha).1, keep a (S.ow a ha).2.1, (S.ow a ha).2.2⟩⟩
  · refine x b o (S.base b o e n) fun hb => ?_
    rcases (S.ow b (hL b hb)).2.2 with z | z
    · exact n z
    · rw [e] at z; cases z
  · refine x b o (S.sG b o e) fun hb => ?_
    have := (S.ow b (hL b hb)).1
    rw [e] at this
    cases this
theorem Sep.mut1 (S : Sep M H0 G0 G H O) (x : SameX m H H') (hm : m ∈ O) (h : H' m = some o) : Sep M H0 G0 G H' O :=
  S.mut (SameXs.of x) (all_cons hm all_nil) (all_cons (some_ne h) all_nil)
theorem Sep.sub (S : Sep M H0 G0 G H O) {O' : List Addr} (h : ∀ a ∈ O', a ∈ O) : Sep M H0 G0 G H O' := ⟨S.base, S.pm, S.sG, S.g0, S.gn, fun a ha => S.ow a (h a ha)⟩
/-- what was owned and is to stay as it is from now on -/
theorem Sep.freeze (S : Sep M H0 G0 G H O) {O' : List Addr} (hp : p ∈ O) (h : H p = some o) (hm : H0 p = none) (hO : ∀ a ∈ O', a ∈ O ∧ a ≠ p) : ∃ G', Same G G' ∧ G' p = some o ∧ Sep M H0 G0 G' H O' := by
  have ng := (S.ow p hp).1
  refine ⟨upd G p o, fun b u q => by rw [upd_ne (ne_of_none q ng)]; exact q, upd_same, S.base, S.pm, fun b u q => ?_, fun b u q => ?_, fun b hb gb => ?_, fun a ha => ?_⟩
  · by_cases z : b = p
    · subst z
      rw [upd_same] at q
      exact q ▸ h
    · rw [upd_ne z] at q
      exact S.sG b u q
  · have := S.g0 b u q
    rw [upd_ne (ne_of_none this ng)]
    exact this
  · by_cases z : b = p
    · subst z
      exact absurd hm hb
    · rw [upd_ne z]
      exact S.gn b hb gb
  · rw [upd_ne (hO a ha).2]
    exact S.ow a (hO a ha).1
/-- a callee that hands on data in a stable heap of its own -/
theorem Sep.step (S : Sep M H0 G0 G H O) {G' : Hp} (e : Same H H') (eG : Same G G') (sG : Same G' H') (hn : ∀ b, H b ≠ none → G b = none → G' b = none) : Sep M H0 G0 G' H' O := by
  have S1 := S.same e
  refine ⟨S1.base, S1.pm, sG, S.g0.trans eG, fun b hb gb => ?_, fun a ha => ⟨hn a (S.ow a ha).2.1 (S.ow a ha).1, (S1.ow a ha).2⟩⟩
  refine hn b (fun z => ?_) (S.gn b hb gb)
  exact hb (S.free z)
theorem Sep.hid (S : Sep M H0 G0 G H O) {L : List Addr} (h : ∀ a ∈ L, a ∈ O) : Same G (hideL L H) := fun b o e => by
  rw [hideL_out fun z => by
    have := (S.ow b (h b z)).1
    rw [e] at this
    cases this]
  exact S.sG b o e
end
end Vx

namespace Vx
open PySem PySem.Spec PyProof.Rows L2
/-! ### lists of plain things (f : V.int, V.bl, V.str) -/
section
variable {α : Type} {f : α → V} {H : Hp} {p : Addr}
theorem cat_map {xs ys : List α} (h : H p = some (.lst (xs.map f ++ ys.map f))) : H p = some (.lst ((xs ++ ys).map f)) := by
  rw [List.map_append]; exact h
theorem snoc_map {xs : List α} {y : α} (h : H p = some (.lst (xs.map f ++ [f y]))) : H p = some (.lst ((xs ++ [y]).map f)) := by
  rw [List.map_append]; exact h
def repL (xs : List α) (k : Int) : List α := (List.replicate k.toNat xs).flatten
theorem rep_map {xs : List α} {k : Int} (h : H p = some (.lst (List.replicate k.toNat (xs.map f)).flatten)) : H p = some (.lst ((repL xs k).map f)) := by
  rw [h]
  unfold repL
  rw [List.map_flatten, List.map_replicate]
def cutL (xs : List α) (lo hi : Option Int) : List α := (xs.drop (HT.sIx xs.length 0 lo)).take (HT.sIx xs.length xs.length hi - HT.sIx xs.length 0 lo)
theorem cut_map {xs : List α} {lo hi : Option Int} (h : H p = some (.lst (cutV (xs.map f) lo hi))) : H p = some (.lst ((cutL xs lo hi).map f)) := by
  rw [h]
  unfold cutV cutL
  rw [List.length_map, List.map_take, List.map_drop]
theorem cast_map {xs ys : List α} (h : H p = some (.lst (xs.map f))) (e : xs = ys) : H p = some (.lst (ys.map f)) := e ▸ h
theorem drop_map {xs : List α} (h : H p = some (.lst (xs.map f).dropLast)) : H p = some (.lst (xs.dropLast.map f)) := by
  rw [h, List.map_dropLast]
theorem ixN_some {n : Nat} {k : Int} (h : -(n : Int) ≤ k ∧ k < n) : ∃ j, ixN n k = some j ∧ j < n := by
  unfold ixN
  by_cases h0 : 0 ≤ k
  · exact ⟨k.toNat, by rw [if_pos h0, if_pos h.2], by omega⟩
  · exact ⟨(k + n).toNat, by rw [if_neg h0, if_pos h.1], by omega⟩
def itD [Inhabited α] (xs : List α) (k : Int) : α := (atI xs k).getD default
theorem atI_map [Inhabited α] {xs : List α} {k : Int} (h : -(xs.length : Int) ≤ k ∧ k < xs.length) : atI (xs.map f) k = some (f (itD xs k)) := by
  obtain ⟨j, e, hj⟩ := ixN_some h
  unfold itD atI
  rw [List.length_map, e]
  show (xs.map f)[j]? = some (f ((xs[j]?).getD default))
  rw [List.getElem?_map, List.getElem?_eq_getElem hj] <;> rfl
def setL (xs : List α) (k : Int) (y : α) : List α := xs.set ((ixN xs.length k).getD 0) y
theorem ixN_map {xs : List α} {k : Int} (h : -(xs.length : Int) ≤ k ∧ k < xs.length) : ixN (xs.map f).length k = some ((ixN xs.length k).getD 0) := by
  obtain ⟨j, e, hj⟩ := ixN_some h
  rw [List.length_map, e] <;> rfl
theorem set_map {xs : List α} {k : Int} {y : α} (h : H p = some (.lst ((xs.map f).set ((ixN xs.length k).getD 0) (f y)))) : H p = some (.lst ((setL xs k y).map f)) := by
  rw [h]
  unfold setL
  rw [List.map_set]
def lastD [Inhabited α] (xs : List α) : α := xs.getLastD default
theorem pop_map [Inhabited α] {xs : List α} (h : xs ≠ []) : (xs.map f)[(xs.map f).length - 1]? = some (f (lastD xs)) := by
  rw [← List.getLast?_eq_getElem?, List.getLast?_map]
  unfold lastD
  cases e : xs.getLast? with
  | none => exact absurd (List.getLast?_eq_none_iff.mp e) h
  | some y =>
    rw [List.getLastD_eq_getLast?, e] <;> rfl
end
/-! ### lists of data -/
section
variable {α β : Type} {f : α → PyData} {g : β → PyData} {G : Hp} {vs ws : List V} {xs ys : List α}
theorem app_map (a : RpAll G vs (xs.map f)) (b : RpAll G ws (ys.map f)) : RpAll G (vs ++ ws) ((xs ++ ys).map f) := by
  rw [List.map_append]; exact a.append b
theorem one_map {v : V} {y : α} (a : RpAll G vs (xs.map f)) (b : Rp G v (f y)) : RpAll G (vs ++ [v]) ((xs ++ [y]).map f) := by
  rw [List.map_append]; exact a.append (.one b)
theorem rep_all (k : Int) (a : RpAll G vs (xs.map f)) : RpAll G (List.replicate k.toNat vs).flatten ((repL xs k).map f) := by
  unfold repL
  rw [List.map_flatten, List.map_replicate]
  exact a.rep _
theorem cut_all (lo hi : Option Int) (a : RpAll G vs (xs.map f)) : RpAll G (cutV vs lo hi) ((cutL xs lo hi).map f) := by
  unfold cutV cutL
  rw [a.len, List.length_map, List.map_take, List.map_drop]
  exact (a.drop _).take _
theorem rp_cast {v : V} {d e : PyData} (r : Rp G v d) (h : d = e) : Rp G v e := h ▸ r
theorem comp_listD {i : Nat} {x : α} {y : β} {v : V} {h : α → β} (hi : xs[i]? = some x) (a : RpAll G vs (((xs.take i).map h).map g)) (r : Rp G v (g y)) (e : h x = y) : RpAll G (vs ++ [v]) (((xs.take (i + 1)).map h).map g) := by
  rw [take_succ_get hi, List.map_append, List.map_append]
  exact a.append (.one (e ▸ r))
theorem comp_rangeD {i : Nat} {y : β} {v : V} {h : Nat → β} (a : RpAll G vs (((List.range i).map h).map g)) (r : Rp G v (g y)) (e : h i = y) : RpAll G (vs ++ [v]) (((List.range (i + 1)).map h).map g) := by
  rw [List.range_succ, List.map_append, List.map_append]
  exact a.append (.one (e ▸ r))
theorem comp_doneD {n : Nat} {h : List α → List β} (hl : n = xs.length) (a : RpAll G vs ((h (xs.take n)).map g)) : RpAll G vs ((h xs).map g) := by
  rw [hl, List.take_length] at a
  exact a
theorem comp_listFD {i : Nat} {x : α} {y : β} {v : V} {h : α → β} {q : α → Bool} (hi : xs[i]? = some x) (hq : q x = true) (a : RpAll G vs ((((xs.take i).filter q).map h).map g)) (r : Rp G v (g y)) (e : h x = y) : RpAll G (vs ++ [v]) ((((xs.take (i + 1)).filter q).map h).map g) := by
  rw [take_succ_get hi, List.filter_append, List.filter_cons, if_pos hq, List.map_append, List.map_append]
  exact a.append (.one (e ▸ r))
theorem skip_listD {i : Nat} {x : α} {h : α → β} {q : α → Bool} (hi : xs[i]? = some x) (hq : q x = false) (a : RpAll G vs ((((xs.take i).filter q).map h).map g)) : RpAll G vs ((((xs.take (i + 1)).filter q).map h).map g) := by
  rw [take_succ_get hi, List.filter_append, List.filter_cons, if_neg (by rw [hq]; decide), List.filter_nil, List.append_nil]
  exact a
end
section
variable {α β : Type} {f : β → V} {H : Hp} {D : Addr} {xs : List α}
theorem compM_list {i : Nat} {x : α} {y : β} {h : α → β} (hi : xs[i]? = some x) (a : H D = some (.lst (((xs.take i).map h).map f ++ [f y]))) (e : h x = y) : H D = some (.lst (((xs.take (i + 1)).map h).map f)) := by
  rw [a, ← e, take_succ_get hi, List.map_append, List.map_append] <;> rfl
theorem compM_range {i : Nat} {y : β} {h : Nat → β} (a : H D = some (.lst (((List.range i).map h).map f ++ [f y]))) (e : h i = y) : H D = some (.lst (((List.range (i + 1)).map h).map f)) := by
  rw [a, ← e, List.range_succ, List.map_append, List.map_append] <;> rfl
theorem compM_done {n : Nat} {h : List α → List β} (hl : n = xs.length) (a : H D = some (.lst ((h (xs.take n)).map f))) : H D = some (.lst ((h xs).map f)) := by
  rw [hl, List.take_length] at a
  exact a
theorem compM_listF {i : Nat} {x : α} {y : β} {h : α → β} {q : α → Bool} (hi : xs[i]? = some x) (hq : q x = true) (a : H D = some (.lst ((((xs.take i).filter q).map h).map f ++ [f y]))) (e : h x = y) : H D = some (.lst ((((xs.take (i + 1)).filter q).map h).map f)) := by
  rw [a, ← e, take_succ_get hi, List.filter_append, List.filter_cons, if_pos hq, List.map_append, List.map_append] <;> rfl
theorem skipM_list {i : Nat} {x : α} {h : α → β} {q : α → Bool} (hi : xs[i]? = some x) (hq : q x = false) (a : H D = some (.lst ((((xs.take i).filter q).map h).map f))) : H D = some (.lst ((((xs.take (i + 1)).filter q).map h).map f)) := by
  rw [a, take_succ_get hi, List.filter_append, List.filter_cons, if_neg (by rw [hq]; decide), List.filter_nil, List.append_nil]
theorem compM_rangeF {i : Nat} {y : β} {h : Nat → β} {q : Nat → Bool} (hq : q i = true) (a : H D = some (.lst ((((List.range i).filter q).map h).map f ++ [f y]))) (e : h i = y) : H D = some (.lst ((((List.range (i + 1)).filter q).map h).map f)) := by
  rw [a, ← e, List.range_succ, List.filter_append, List.filter_cons, if_pos hq, List.map_append, List.map_append] <;> rfl
theorem skipM_range {i : Nat} {h : Nat → β} {q : Nat → Bool} (hq : q i = false) (a : H D = some (.lst ((((List.range i).filter q).map h).map f))) : H D = some (.lst ((((List.range (i + 1)).filter q).map h).map f)) := by
  rw [a, List.range_succ, List.filter_append, List.filter_cons, if_neg (by rw [hq]; decide), List.filter_nil, List.append_nil]
end
/-! ### more rules -/
section
variable {X : Cx} {K : PySem.W.Frag}
theorem ix_tupK (hK : X.K = K := by rfl) : IxR X (rIxT K) := hK ▸ ix_tup
def rLenLK (K : PySem.W.Frag) : List V → Hp → VK → Prop := fun xs H Q => ∃ (p : Addr) (vs : List V) (n : Nat), xs = [.ref p] ∧ SqL K H p vs ∧ vs.length = n ∧ Q (.int (n : Int)) H
theorem call_lenLK (hK : X.K = K := by rfl) : CallR X (.builtin "len") (rLenLK K) := by
  subst hK
  intro pins s σ H xs us Q I r h
  obtain ⟨p, vs, n, rfl, hs, hn, q⟩ := h
  exact call_len_seq pins s σ H _ us Q I r ⟨p, _, rfl, Or.inl hs, by rw [hn]; exact q⟩
def rListLK (K : PySem.W.Frag) : List V → Hp → VK → Prop := fun xs H Q => ∃ (p : Addr) (vs : List V), xs = [.ref p] ∧ SqL K H p vs ∧ ∀ l, H l = none → Q (.ref l) (upd H l (.lst vs))
theorem call_listLK (hK : X.K = K := by rfl) : CallR X (.type "list") (rListLK K) := by
  subst hK
  intro pins s σ H xs us Q I r h
  obtain ⟨p, vs, rfl, hs, q⟩ := h
  exact call_list_of pins s σ H _ us Q I r ⟨p, _, rfl, Or.inl hs, q⟩
theorem cr_anyK (hc : X.calm = true) (hK : X.K = K := by rfl) : CallR X (.builtin "any") (rAny K) := hK ▸ cr_any hc
theorem cr_allK (hc : X.calm = true) (hK : X.K = K := by rfl) : CallR X (.builtin "all") (rAll K) := hK ▸ cr_all hc
theorem pi_tupK {tg l : Expr} {tl : TE} (hl : PE X l tl) (hK : X.K = K := by rfl) : PI X tg l (iTup K tl) := hK ▸ pi_tup hl
theorem pip {op : Operator} {r : R2} (h : OpR X (inplaceOp op) r) : PIp X op r := fun pins s σ H x y v u Q I rx ry q => h pins s σ H x y v u Q I rx ry q
/-- an item at a place from 0 on, by itself (ahead of o[i] op= e) -/
def rIxP (K : PySem.W.Frag) : R2 := fun x y H Q => ∃ (p : Addr) (xs : List V) (k : Int) (v : V), x = .ref p ∧ y = .int k ∧ SqL K H p xs ∧ 0 ≤ k ∧ k < 2 ^ 62 ∧ atI xs k = some v ∧ Q v H
theorem pget_list (hK : X.K = K := by rfl) : PGet X (rIxP K) := by
  subst hK
  intro pins s σ H o i ov iv Q I ro ri h
  obtain ⟨p, xs, k, v, rfl, rfl, hq, h0, h62, ha, q⟩ := h
  cases ro
  obtain ⟨t, rfl⟩ := ri
  obtain ⟨its, r, pl, hz⟩ := I.list hq
  obtain ⟨j, h1, h2, h3, h4, h5⟩ := atI_get ha
  obtain ⟨w, ew, rw'⟩ := r.get h2
  have hj : k.toNat = j := by
    rw [seqIndex_of h0 h5] at h1
    exact Option.some.inj h1
  exact getItem_listL pl.isList h0 (by omega) (by rw [hj]; simpa using ew) ⟨v, H, I, rw', q⟩
theorem tru_map {α : Type} [DecidableEq α] {f : α → V} {xs : List α} : (!decide (xs = [])) = !(xs.map f).isEmpty := by
  cases xs <;> simp
end
end Vx

namespace Vx
open PySem PySem.Spec PyProof.Rows L2
/-! ### objects -/
section
variable {M : List Addr} {H0 G0 G H H' : Hp} {O : List Addr} {p m : Addr} {o : HO}
theorem gen_obj {x dx : Addr} {o1 o2 : HO} (nx : H x = none) (nd : H dx = none) (ne : dx ≠ x) (h : upd (upd H dx o1) x o2 = H') : Same H H' ∧ H' x = some o2 := by
  subst h
  exact ⟨fun b u e => by rw [upd_ne (ne_of_none e nx), upd_ne (ne_of_none e nd)]; exact e, upd_same⟩
theorem sameX_of {m : Addr} (x : SameXs [m] H H') : SameX m H H' := fun b o e n => x b o e (by simpa using n)
theorem g_ne {a b : Addr} (h : G a = some o) (S : Sep M H0 G0 G H O) (hb : b ∈ O) : a ≠ b := fun z => by
  have := (S.ow b hb).1
  rw [← z, h] at this
  cases this
/-- an object whose making has laid some lists -/
theorem Sep.mutnew (S : Sep M H0 G0 G H O) {L : List Addr} (x : SameXs L H H') (hL : ∀ a ∈ L, a ∈ O) (hs : ∀ a ∈ L, H' a ≠ none) (hn : H p = none) (hp : H' p ≠ none) (h0 : H0 p = none) : Sep M H0 G0 G H' (p :: O) := by
  have S1 := S.mut x hL hs
  refine ⟨S1.base, S1.pm, S1.sG, S1.g0, S1.gn, all_cons ⟨S.gfree hn, hp, .inr h0⟩ S1.ow⟩
theorem Sep.init (S : Sep M H0 G0 G H O) (x : SameX m H H') (hm : m ∈ O) (h : H' m = some o) (L : List Addr) (hL : ∀ a ∈ L, H a = none ∧ H' a ≠ none ∧ H0 a = none) : Sep M H0 G0 G H' (L ++ O) := by
  have S1 := S.mut1 x hm h
  refine ⟨S1.base, S1.pm, S1.sG, S1.g0, S1.gn, fun a ha => ?_⟩
  rcases List.mem_append.mp ha with z | z
  · obtain ⟨h1, h2, h3⟩ := hL a z
    exact ⟨S.gfree h1, h2, .inr h3⟩
  · exact S1.ow a z
end
section
variable {P : Program} {w : World} {K : PySem.W.Frag} {mg : Str → Option Value} {base : Heap}
structure MethIn (K : PySem.W.Frag) (C : Addr) (q m : Str) (st : Stmt) (ps : List Str) : Prop where
  ex : ∃ (f : Addr) (fd : FuncData), Fun K m q st f fd ∧ Meth K C m f ∧ Binds K fd ps []
structure PropIn (K : PySem.W.Frag) (C : Addr) (q m : Str) (st : Stmt) (ps : List Str) : Prop where
  ex : ∃ (r f : Addr) (fd : FuncData), Fun K m q st f fd ∧ PropOf K C m r f ∧ Binds K fd ps []
structure InitIn (K : PySem.W.Frag) (mg : Str → Option Value) (C : Addr) (cn q : Str) (st : Stmt) (ps : List Str) : Prop where
  ex : ∃ (f : Addr) (fd : FuncData), Fun K "__init__" q st f fd ∧ Mk K C f ∧ mg cn = some (.ref C) ∧ Binds K fd ps []
structure MetC (P : Program) (w : World) (K : PySem.W.Frag) (mg : Str → Option Value) (base : Heap) (k : Nat) (C : Addr) (m : Str) (sp : Sp) : Prop where
  ex : ∃ (f : Addr) (fd : FuncData) (ps : List Str), Cls K C ∧ Meth K C m f ∧ FnOk P w K mg base CX0 k f fd ps sp ∧ Binds K fd ps []
structure PropC (P : Program) (w : World) (K : PySem.W.Frag) (mg : Str → Option Value) (base : Heap) (k : Nat) (C : Addr) (m : Str) (sp : Sp) : Prop where
  ex : ∃ (q f : Addr) (fd : FuncData) (ps : List Str), Cls K C ∧ PropOf K C m q f ∧ FnOk P w K mg base CX0 k f fd ps sp ∧ Binds K fd ps []
structure MakC (P : Program) (w : World) (K : PySem.W.Frag) (mg : Str → Option Value) (base : Heap) (k : Nat) (cn : Str) (C : Addr) (sp : Sp) : Prop where
  ex : ∃ (f : Addr) (fd : FuncData) (ps : List Str), Mk K C f ∧ FnOk P w K mg base CX0 k f fd ps sp ∧ mg cn = some (.ref C) ∧ Binds K fd ps []
abbrev Body (P : Program) (w : World) (K : PySem.W.Frag) (mg : Str → Option Value) (base : Heap) (x : Str) (st : Stmt) (N : List Str) (k : Nat) (sp : Sp) : Prop :=
  ∀ (f : Addr) (cdv : Value) (A : Around) (outer : List Env) (s : Shared) (H : Hp) (vs : List V) (Q : VK) (E : XK), Room k (A.deeper (envOfC x (defScope st) s.heap.objs.size f cdv)) → sp vs H Q E →
    ∃ t, PSs (cxOf CX0 P w K mg base N x (defScope st) f cdv A outer s H E).nox (defBody st) t ∧ t { nx := fun _ H' => Q .non H', rt := Q } (start N vs) H
theorem MethIn.ok {C : Addr} {q m : Str} {st : Stmt} {N ps : List Str} {k : Nat} {sp : Sp} (D : MethIn K C q m st ps) (c : Cls K C) (S : FnScope N ps (defScope st)) (len : ∀ vs H Q E, sp vs H Q E → vs.length = ps.length)
    (hbody : Body P w K mg base q st N k sp) : MetC P w K mg base (k + 1) C m sp := by
  obtain ⟨f, fd, F, me, b⟩ := D.ex
  exact ⟨f, fd, ps, c, me, F.ok S len (fun cdv A outer s H vs Q E hr h => hbody f cdv A outer s H vs Q E hr h), b⟩
theorem PropIn.ok {C : Addr} {q m : Str} {st : Stmt} {N ps : List Str} {k : Nat} {sp : Sp} (D : PropIn K C q m st ps) (c : Cls K C) (S : FnScope N ps (defScope st)) (len : ∀ vs H Q E, sp vs H Q E → vs.length = ps.length)
    (hbody : Body P w K mg base q st N k sp) : PropC P w K mg base (k + 1) C m sp := by
  obtain ⟨r, f, fd, F, me, b⟩ := D.ex
  exact ⟨r, f, fd, ps, c, me, F.ok S len (fun cdv A outer s H vs Q E hr h => hbody f cdv A outer s H vs Q E hr h), b⟩
theorem InitIn.ok {C : Addr} {cn q : Str} {st : Stmt} {N ps : List Str} {k : Nat} {sp : Sp} (D : InitIn K mg C cn q st ps) (S : FnScope N ps (defScope st)) (len : ∀ vs H Q E, sp vs H Q E → vs.length = ps.length)
    (hbody : Body P w K mg base q st N k sp) : MakC P w K mg base (k + 1) cn C sp := by
  obtain ⟨f, fd, F, me, hm, b⟩ := D.ex
  exact ⟨f, fd, ps, me, F.ok S len (fun cdv A outer s H vs Q E hr h => hbody f cdv A outer s H vs Q E hr h), hm, b⟩
end
section
variable {X : Cx} {k j : Nat} {C : Addr} {x m : Str} {sp : Sp} {p pos apos : Pos} {e o : Expr} {es : List Expr} {ta : TE} {t : TA}
theorem vx_call0 (c : Cal X.prog X.w X.K X.mg X.base k x sp) (hr : Room j X.A) (hk : k ≤ j) (hg : Gl X x) (hdb : (x == ("__debug__" : Str)) = false := by decide) : PE X (.Call (.Name x p) [] [] pos) (tCall sp [] E0 tNil) := by
  obtain ⟨f, fd, ps, F, hm, kp, b⟩ := c.ex
  exact pe_call0 F (hr.mono hk) hg hm kp b .nil pass0 hdb
theorem vx_make (c : MakC X.prog X.w X.K X.mg X.base k x C sp) (hr : Room j X.A) (hk : k + 1 ≤ j) (hg : Gl X x) (ha : PA X (e :: es) t)
    (hdb : (x == ("__debug__" : Str)) = false := by decide) (he : starEach (e :: es) X.env = (false, eval e X.env) :: starEach es X.env := by rfl) (hpl : (backTo pos (starEach es X.env)).any (·.1) = false := by rfl) :
    PE X (.Call (.Name x p) (e :: es) [] pos) (tMake C sp [] E0 t) := by
  obtain ⟨f, fd, ps, M, F, hm, b⟩ := c.ex
  exact pe_make M F (hr.mono hk) hg hm b .nil pass0 ha hdb he hpl
theorem vx_make0 (c : MakC X.prog X.w X.K X.mg X.base k x C sp) (hr : Room j X.A) (hk : k + 1 ≤ j) (hg : Gl X x) (hdb : (x == ("__debug__" : Str)) = false := by decide) :
    PE X (.Call (.Name x p) [] [] pos) (tMake C sp [] E0 tNil) := by
  obtain ⟨f, fd, ps, M, F, hm, b⟩ := c.ex
  exact pe_make0 M F (hr.mono hk) hg hm b .nil pass0 hdb
theorem vx_meth {pl : Sem Bool} (c : MetC X.prog X.w X.K X.mg X.base k C m sp) (hr : Room j X.A) (hk : k ≤ j) (he : PE X o ta) (ha : PA X (e :: es) t)
    (hst : starEach (e :: es) X.env = (false, eval e X.env) :: starEach es X.env := by rfl) (hpl : (backTo pos (starEach es X.env)).any (·.1) = false := by rfl)
    (ht : eval (.Call (.Attribute o m apos) (e :: es) [] pos) X.env = (do
      let ov ← eval o X.env
      standAt apos.atName
      let (f, first) ← holding [ov] (getMethod ov m pl)
      callWith pos f first (backTo pos (starEach (e :: es) X.env)) (backToKw pos (keywordEach [] X.env))) := by rfl) :
    PE X (.Call (.Attribute o m apos) (e :: es) [] pos) (tMeth C m sp [] E0 ta t) := by
  obtain ⟨f, fd, ps, hc, hm, F, b⟩ := c.ex
  exact pe_meth he hc hm F (hr.mono hk) b .nil pass0 ha hst hpl ht
theorem vx_meth0 {pl : Sem Bool} (c : MetC X.prog X.w X.K X.mg X.base k C m sp) (hr : Room j X.A) (hk : k ≤ j) (he : PE X o ta)
    (ht : eval (.Call (.Attribute o m apos) [] [] pos) X.env = (do
      let ov ← eval o X.env
      standAt apos.atName
      let (f, first) ← holding [ov] (getMethod ov m pl)
      callWith pos f first (backTo pos (starEach [] X.env)) (backToKw pos (keywordEach [] X.env))) := by rfl) :
    PE X (.Call (.Attribute o m apos) [] [] pos) (tMeth C m sp [] E0 ta tNil) := by
  obtain ⟨f, fd, ps, hc, hm, F, b⟩ := c.ex
  exact pe_meth0 he hc hm F (hr.mono hk) b .nil pass0 ht
theorem vx_prop (c : PropC X.prog X.w X.K X.mg X.base k C m sp) (hr : Room j X.A) (hk : k + 1 ≤ j) (he : PE X o ta) (hab : attributeBase o m X.env (eval o X.env) = eval o X.env) : PE X (.Attribute o m pos) (tProp C sp [] E0 ta) := by
  obtain ⟨q, f, fd, ps, hc, hp, F, b⟩ := c.ex
  exact pe_prop he hc hp F (hr.mono hk) b .nil pass0 hab
end
theorem iteBNT {b : Bool} {A B : Prop} (h : b = false) (k : A) : if (!b) = true then A else B := by rw [h]; exact iteT k
theorem iteNN {b : Bool} {A B : Prop} (h : if b = true then A else B) : if (!!b) = true then A else B := by rw [Bool.not_not]; exact h
theorem iteBNF {b : Bool} {A B : Prop} (h : b = true) (k : B) : if (!b) = true then A else B := by rw [h]; exact iteF k
theorem shl_side {i j : Int} (h0 : 0 ≤ j) (h1 : j ≤ 4096) (h2 : -(2 ^ 4096) < i) (h3 : i < 2 ^ 4096) : CShl i j := by
  obtain ⟨k, rfl⟩ := Int.eq_ofNat_of_zero_le h0
  exact shl_ok (n := 4096) (by omega) (by omega)
end Vx

namespace Vx
open PySem PySem.Spec PyProof.Rows L2
section
variable {X : Cx} {K : PySem.W.Frag}
theorem fldK {e : Expr} {f : Str} {pos : Pos} {ta : TE} (he : PE X e ta) (hb : attributeBase e f X.env (eval e X.env) = eval e X.env := by rfl) (hK : X.K = K := by rfl) : PE X (.Attribute e f pos) (tFld K ta f) := hK ▸ pe_fld he hb
theorem pg_tupK {es : List Expr} {k : Nat} {t : TGs} {n : Nat} {pos : Pos} (h : PGs X es t) (hc : X.calm = true := by rfl)
    (hn : (assignEach es X.env).length = n := by rfl) (hst : (assignEach es X.env).findIdx? (·.1) = none := by rfl) (hK : X.K = K := by rfl) : PG X (.Tuple es k pos) (gTup K n t) := hK ▸ pg_tup hc h hn hst
end
end Vx

namespace Vx
open PySem PySem.Spec PyProof.Rows L2
section
variable {α β : Type} {f : α → PyData} {g : β → PyData} {fv : α → V} {gv : β → V} {G : Hp} {vs ws : List V} {xs : List α} {ys : List β}
theorem big1 {n : Nat} (h : n ≤ 1000000) : n ≤ sizeLine := smallE h
theorem cat_len (a : RpAll G vs (xs.map f)) (b : RpAll G ws (ys.map g)) (h : xs.length + ys.length ≤ 1000000) : vs.length + ws.length ≤ sizeLine := by
  rw [a.len, b.len, List.length_map, List.length_map]; exact smallE h
theorem cat_lenM (h : xs.length + ys.length ≤ 1000000) : (xs.map fv).length + (ys.map gv).length ≤ sizeLine := by
  rw [List.length_map, List.length_map]; exact smallE h
theorem rep_len {k : Nat} (a : RpAll G vs (xs.map f)) (h : xs.length * k ≤ 1000000) : vs.length * k ≤ sizeLine := by
  rw [a.len, List.length_map]; exact smallE h
theorem rep_lenM {k : Nat} (h : xs.length * k ≤ 1000000) : (xs.map fv).length * k ≤ sizeLine := by
  rw [List.length_map]; exact smallE h
theorem app_len (a : RpAll G vs (xs.map f)) (h : xs.length ≤ 1000000) : vs.length < sizeLine := by
  rw [a.len, List.length_map]; exact small h
theorem app_lenM (h : xs.length ≤ 1000000) : (xs.map fv).length < sizeLine := by
  rw [List.length_map]; exact small h
theorem cutL_len {α : Type} (xs : List α) (lo hi : Option Int) : (cutL xs lo hi).length ≤ xs.length := by
  unfold cutL
  rw [List.length_take, List.length_drop]
  omega
theorem repL_len {α : Type} (xs : List α) (k : Int) : (repL xs k).length = k.toNat * xs.length := by
  unfold repL
  simp
end
end Vx
/-! # promises of defs that know that nothing is being shown (so that repr may be called) -/
namespace Vx
open PySem PySem.Spec PyProof.Rows L2
structure RoomG (k : Nat) (A : Around) : Prop extends Room k A where
  gd : A.guards = some []
theorem RoomG.low {j k : Nat} {A : Around} (r : RoomG k A) (h : j ≤ k) : RoomG j A := ⟨r.toRoom.mono h, r.gd⟩
theorem RoomG.one {k : Nat} {A : Around} (r : RoomG (k + 1) A) : RoomG k A.in1 := ⟨r.toRoom.in1, r.gd⟩
theorem make_gd {A : Around} (C : Addr) (us : List Value) (kw : List (Str × Value)) (h : A.guards = some []) : (A.under (.builtin "type.__call__" ⟨.ref C :: us, kw⟩)).guards = some [] := by
  obtain ⟨hd, d, fr, gs, u⟩ := A
  subst h
  simp [Around.under, Code.guards, Code.isGuard, guardIds, pushGuards]
theorem RoomG.made {k : Nat} {A : Around} (r : RoomG (k + 1) A) (C : Addr) (us : List Value) (kw : List (Str × Value)) : RoomG k (A.under (.builtin "type.__call__" ⟨.ref C :: us, kw⟩)) := ⟨r.toRoom.make C us kw, make_gd C us kw r.gd⟩
structure FnG (P : Program) (w : World) (K : PySem.W.Frag) (mg : Str → Option Value) (base : Heap) (cx : CXT) (k : Nat) (f : Addr) (fd : FuncData) (ps : List Str) (sp : Sp) : Prop where
  len : ∀ vs H Q E, sp vs H Q E → vs.length = ps.length
  run : ∀ (A : Around) (outer : List Env) (s : Shared) (H : Hp) (args : Args) (us : List Value) (vs : List V) (Q : VK) (E : XK), RoomG k A → Env0 P w K mg base A outer s H → BindsTo s fd args (ps.zip us) → Vals vs us → sp vs H Q E → codeAny (model P w) A (.call (.ref f) args) (CR cx outer P w H s Q E) s
section
variable {P : Program} {w : World} {K : PySem.W.Frag} {mg : Str → Option Value} {base : Heap} {cx : CXT} {j k : Nat} {f : Addr} {fd : FuncData} {ps : List Str} {sp sp' : Sp}
theorem FnG.imp (F : FnG P w K mg base cx k f fd ps sp) (h : ∀ vs H Q E, sp' vs H Q E → sp vs H Q E) : FnG P w K mg base cx k f fd ps sp' := ⟨fun vs H Q E q => F.len vs H Q E (h vs H Q E q), fun A o s H a us vs Q E r e b v q => F.run A o s H a us vs Q E r e b v (h vs H Q E q)⟩
/-- the body's promise is the def's -/
theorem FnG.body {x qual : Str} {params : Arguments} {body : List Stmt} {scope : Scope} {dvs : List V} {kws : List (Str × V)} {N : List Str} (F : FunD K x qual params body scope dvs kws f fd) (S : FnScope N ps scope) (len : ∀ vs H Q E, sp vs H Q E → vs.length = ps.length)
    (hb : ∀ (cdv : Value) (A : Around) (outer : List Env) (s : Shared) (H : Hp) (vs : List V) (Q : VK) (E : XK), RoomG k (A.deeper (envOfC qual scope s.heap.objs.size f cdv)) → sp vs H Q E →
      ∃ t, PSs (cxOf cx P w K mg base N qual scope f cdv A outer s H E) body t ∧ t { nx := fun _ H' => Q .non H', rt := Q } (start N vs) H) : FnG P w K mg base cx (k + 1) f fd ps sp := by
  obtain ⟨oc, od, dV, kV, doc, pm, an, cdv, ct, osl, rfl, lk, code, _, _⟩ := F.ex
  constructor
  · exact len
  · intro A outer s H args us vs Q E room env binds vals prom
    have nvs := len vs H Q E prom
    have kin : K.In s.heap := env.mod.kin.keeps fun b o q => (env.bs b o q).1
    have nolim : s.heap.NoLimit := env.mod.nolimit.keeps fun b o q => (env.bs b o q).1
    have kinds : ∀ q ∈ ps.zip us, scope.names.lookup q.1 = some .local ∨ (scope.names.lookup q.1 = some .cell ∧ ((cellsFrom (s.heap.objs.size + 1) scope.names []).lookup q.1).isSome = true) := by
      rintro ⟨n, v⟩ hq
      cases S.par n (List.of_mem_zip hq).1 with
      | inl z => exact .inl z
      | inr z => exact .inr ⟨z, PySem.W.cellsFrom_some _ _ _ (.inl z)⟩
    refine codeAny_call_function room.toRoom.depth (kin _ _ lk) rfl S.co S.gen rfl (PySem.W.codeRec_of kin code) (binds _ _ _ _ ?_)
    refine wpAny_newFunctionEnv_cells S.kind kinds ?_
    rintro _ rfl s1 made
    refine ⟨nolim.keeps made.toInCall.keep, codeAny_func ?_⟩
    obtain ⟨t, pss, start_⟩ := hb cdv A outer s H vs Q E ⟨room.toRoom.deeper _, room.gd⟩ prom
    have inv := inv_start (CX := cx) (E := E) S room.hd env nvs vals made
    have close : ∀ {τ : L2.St} {H2 : Hp} {v : V} {u : Value} {s2 : Shared}, Inv (cxOf cx P w K mg base N qual scope f cdv A outer s H E) [] τ H2 s2 → RelV v u → Q v H2 → CE outer P w H s Q u s2 := fun inv2 rel q => ⟨_, _, inv2.os, inv2.bare, inv2.base, inv2.hok, rel, q⟩
    refine wpAny_mono (pss.run [] s1 (start N vs) H _ inv start_) ?_ fun _ _ z => z
    intro flow s2 out
    cases flow with
    | next =>
      obtain ⟨τ, H2, inv2, q⟩ := out
      exact close (v := .non) (u := .none) inv2 rfl q
    | ret u =>
      obtain ⟨v, τ, H2, inv2, rel, q⟩ := out
      exact close inv2 rel q
    | brk =>
      obtain ⟨_, _, _, q⟩ := out
      exact q.elim
    | cont =>
      obtain ⟨_, _, _, q⟩ := out
      exact q.elim
/-- the same of a body that nothing leaves -/
theorem FnG.bodyN {x qual : Str} {params : Arguments} {body : List Stmt} {scope : Scope} {dvs : List V} {kws : List (Str × V)} {N : List Str} (F : FunD K x qual params body scope dvs kws f fd) (S : FnScope N ps scope) (len : ∀ vs H Q E, sp vs H Q E → vs.length = ps.length)
    (hb : ∀ (cdv : Value) (A : Around) (outer : List Env) (s : Shared) (H : Hp) (vs : List V) (Q : VK) (E : XK), RoomG k (A.deeper (envOfC qual scope s.heap.objs.size f cdv)) → sp vs H Q E →
      ∃ t, PSs (cxOf CX0 P w K mg base N qual scope f cdv A outer s H E).nox body t ∧ t { nx := fun _ H' => Q .non H', rt := Q } (start N vs) H) : FnG P w K mg base CX0 (k + 1) f fd ps sp :=
  FnG.body F S len fun cdv A outer s H vs Q E r p => by
    obtain ⟨t, h, q⟩ := hb cdv A outer s H vs Q E r p
    exact ⟨t, h.nox, q⟩
end
/-- where a law's call begins: an abstract heap that tells the script at most -/
theorem law_start {P : Program} {w : World} {K : PySem.W.Frag} {mg mb : Str → Option Value} {a : Addr} {s : Shared} {vs : List Value} {ns : List Int} (kin : K.In s.heap) (top : s.heap.Ns mainGlobals mg) (blt : s.heap.Ns builtinsNs mb) (boot : ∀ y : Str, y ≠ "__name__" → mb y = bootBuiltins y)
    (lim : s.heap.NoLimit) (gens : s.gens = #[]) (script : s.heap.get? a = some { cls := .type "list", data := .seq vs.toArray }) (whole : IntsAre vs ns) (short : ns.length ≤ sizeLine) :
    ∃ (H : Hp) (base : Heap), SqL K H a (ns.map V.int) ∧ K.In base ∧ base.Ns mainGlobals mg ∧ Env0 P w K mg base callerA [] s H ∧
      ∀ (Z : V → Prop) (u : Value) (s2 : Shared), CE [] P w H s (fun v _ => Z v) u s2 → (∃ v, RelV v u ∧ Z v) ∧ OldK s.heap s2.heap ∧ s2.os = s.os ∧ AllBare s2.gens := by
  have rel := vals_ints whole
  have lenV := whole.length
  -- any H that tells no more than the script, and that only where the written part does not hold it, will do
  have fits : ∀ H : Hp, (∀ b, H b = none ∨ ∃ o xs, H b = some (.frz o (.lst xs))) → SqL K H a (ns.map V.int) → HOk P w H s.heap → (∀ b, b ≠ a → H b = none) → (∀ o, K.lookup a = some o → H a = none) →
      ∃ (H : Hp) (base : Heap), SqL K H a (ns.map V.int) ∧ K.In base ∧ base.Ns mainGlobals mg ∧ Env0 P w K mg base callerA [] s H ∧
        ∀ (Z : V → Prop) (u : Value) (s2 : Shared), CE [] P w H s (fun v _ => Z v) u s2 → (∃ v, RelV v u ∧ Z v) ∧ OldK s.heap s2.heap ∧ s2.os = s.os ∧ AllBare s2.gens := by
    intro H only seq ok else_ apart
    have dictFree : ∀ (b : Addr) (o : Obj) (es : Array DictEntry) (n : Nat), s.heap.get? b = some o → o.data = .dict es n → H b = none := by
      intro b o es n e d
      by_cases z : b = a
      · subst z
        rw [script] at e
        injection e with e
        subst e
        cases d
      · exact else_ b z
    have nsOf : ∀ {b : Addr} {m : Str → Option Value}, s.heap.Ns b m → (hidT s.heap H).Ns b m := by
      rintro b m ⟨o, es, n, e, d, r⟩
      exact ⟨o, es, n, hidT_get e (dictFree b o es n e d), d, r⟩
    have kinB : K.In (hidT s.heap H) := by
      intro b o e
      refine hidT_get (kin b o e) ?_
      by_cases z : b = a
      · subst z
        exact apart o e
      · exact else_ b z
    obtain ⟨mc, lim1, lim2⟩ := lim
    refine ⟨H, hidT s.heap H, seq, kinB, nsOf top, ⟨rfl, ⟨kinB, nsOf top, ⟨mb, nsOf blt, boot⟩, mc, nsOf lim1, lim2⟩, fun b o e => of_hidT e, Nat.le_of_eq (hidT_size _ _), trivial, fun b hb => (nomatch (show b ∈ ([] : List Addr) from hb)), ok, .of_eq gens⟩, ?_⟩
    rintro Z u s2 ⟨v, H2, os, bare, un, ok2, r, z⟩
    refine ⟨⟨v, r, z⟩, OldK.of_keep fun b o e => ?_, os, bare⟩
    rcases only b with n | ⟨o1, xs, n⟩
    · exact un.keep b o e n (fun y => nomatch (show b ∈ ([] : List Addr) from y)) (fun y => nomatch y)
    · obtain ⟨e1, _⟩ := ok b _ n
      obtain ⟨e2, _⟩ := ok2 b _ (un.frzs b o1 _ n)
      rw [e] at e1
      injection e1 with e1
      subst e1
      exact e2
  cases kl : K.lookup a with
  | some o =>
    have e := kin a o kl
    rw [script] at e
    injection e with e
    subst e
    exact fits (fun _ => none) (fun _ => .inl rfl) (.inr ⟨_, vs.toArray, _, kl, rfl, rfl, rfl, by rw [List.size_toArray, lenV]; exact short, by simpa using rel⟩) (fun _ _ z => nomatch z) (fun _ _ => rfl) fun _ _ => rfl
  | none =>
    refine fits (fun b => if b = a then some (.frz { cls := .type "list", data := .seq vs.toArray } (.lst (ns.map V.int))) else none) ?_ (.inl (.inr ⟨_, if_pos rfl⟩)) ?_ (fun b n => if_neg n) fun o z => ?_
    · intro b
      by_cases z : b = a
      · exact .inr ⟨_, _, if_pos z⟩
      · exact .inl (if_neg z)
    · intro b u q
      by_cases z : b = a
      · subst z
        have q := (if_pos rfl).symm.trans q
        injection q with q
        subst q
        exact ⟨script, by rw [List.length_map]; exact short, vs, _, rel, script⟩
      · have q := (if_neg z).symm.trans q
        cases q
    · rw [kl] at z
      cases z
/-- the goal that the head leaves, from the law's promise; the script's numbers have at most 2 ^ 20 bits -/
theorem walkG {l : PySem.W.OpenLaw} {n k : Nat} {q : Program} {loose : List Str} {XP : (Str → Option Value) → Heap → Prop} {YP : World → Heap → Prop} {d : DefRec} {K : Params → PySem.W.Frag} {x : Str} (hn : l.most = some n) (hn2 : n ≤ sizeLine) (hdf : d.params.defaults = []) (room : Room k callerA)
    (hY : ∀ (w : World) (h : Heap), YP w h → (K w.params).In h)
    (F : ∀ (w : World) (mg : Str → Option Value) (fa : Addr) (h : Heap), (K w.params).In h → h.Ns mainGlobals mg → mg d.name = some (.ref fa) →
      ∃ fd : FuncData, (∀ (s : Shared) (u : Value), BindsTo s fd ⟨[u], []⟩ [(x, u)]) ∧ ∀ base : Heap, (K w.params).In base → base.Ns mainGlobals mg → FnG l.prog w (K w.params) mg base CX0 k fa fd [x] (fun vs H Q _ => ∃ (a : Addr) (ns : List Int), vs = [.ref a] ∧ SqL (K w.params) H a (ns.map V.int) ∧ ns.length ≤ n ∧ ∀ H', Q (.bl true) H')) :
    PySem.W.WalkO q loose XP YP l.row.toRowW d [] (fun f vs => PySem.call f vs) := by
  refine Att.attach_call hn hdf ?_
  intro w s₀ s₁ mg mb fa o pm cd doc a vs ns G Y _ _ _ hmg script whole short gens
  have kin := hY w _ Y
  obtain ⟨fd, bind, prom⟩ := F w mg fa _ kin G.T.g hmg
  obtain ⟨H, base, seq, kinB, nsB, env, fin⟩ := law_start (P := l.prog) (w := w) kin G.T.g G.T.b G.T.builtins G.T.nolimit gens script whole (Nat.le_trans short hn2)
  refine codeAny_mono ((prom base kinB nsB).run callerA [] s₁ H ⟨[.ref a], []⟩ [.ref a] [.ref a] (fun v _ => v = .bl true) (fun _ _ _ => False) ⟨room, rfl⟩ env (bind s₁ (.ref a)) (.cons rfl .nil) ⟨a, ns, rfl, seq, short, fun _ => rfl⟩) ?_
  intro r s2 out
  cases r with
  | error e => exact out.elim
  | ok flow =>
    cases flow with
    | ret u =>
      obtain ⟨⟨v, rv, z⟩, h1, h2, h3⟩ := fin (fun v => v = .bl true) u s2 out
      subst z
      obtain rfl : u = Value.bool true := rv
      exact ⟨rfl, h1, h2, h3⟩
    | next => exact out.elim
    | brk => exact out.elim
    | cont => exact out.elim
end Vx
/-! # third part: what a def computes, as a plain function with refusals -/
namespace Vx
open PySem PySem.Spec PyProof.Rows L2
inductive Rx (α : Type) where
  | ok (a : α)
  | er (e : Nat)
  | bad
def Rx.bind {α β : Type} (m : Rx α) (f : α → Rx β) : Rx β :=
  match m with
  | .ok a => f a
  | .er e => .er e
  | .bad => .bad
/-- what is wanted of an outcome -/
@[irreducible] def cW {α : Type} (m : Rx α) (K : α → Prop) (E : Nat → Prop) : Prop :=
  match m with
  | .ok a => K a
  | .er e => E e
  | .bad => False
def grd {α : Type} (p : Prop) [Decidable p] (m : Rx α) : Rx α := if p then m else .bad
/-- within a comprehension nothing may be raised -/
def noEr {α : Type} (m : Rx α) : Rx α :=
  match m with
  | .ok a => .ok a
  | _ => .bad
/-- what the clause does not name may not come -/
def tryR {α β : Type} (m : Rx α) (cs : List Nat) (f : α → Rx β) (h : Nat → Rx β) : Rx β :=
  match m with
  | .ok a => f a
  | .er e => if e ∈ cs then h e else .bad
  | .bad => .bad
def bnd {α β : Type} (a : α) (f : α → Rx β) : Rx β := f a
inductive Lp (σ ρ : Type) where
  | go (s : σ)
  | bk (s : σ)
  | rt (r : ρ)
def Lp.aft {σ ρ τ : Type} (l : Lp σ ρ) (kr : ρ → Rx τ) (k : σ → Rx τ) : Rx τ :=
  match l with
  | .go s => k s
  | .bk s => k s
  | .rt r => kr r
def forS {σ α : Type} : List α → σ → (σ → α → Rx σ) → Rx σ
  | [], s, _ => .ok s
  | x :: r, s, f => (f s x).bind fun s' => forS r s' f
def forR {σ α ρ : Type} : List α → σ → (σ → α → Rx (Lp σ ρ)) → Rx (Lp σ ρ)
  | [], s, _ => .ok (.go s)
  | x :: r, s, f => (f s x).bind fun l =>
    match l with
    | .go s' => forR r s' f
    | .bk s' => .ok (.go s')
    | .rt v => .ok (.rt v)
def whileR {σ ρ : Type} : Nat → σ → (σ → Rx (Lp σ ρ)) → Rx (Lp σ ρ)
  | 0, _, _ => .bad
  | n + 1, s, f => (f s).bind fun l =>
    match l with
    | .go s' => whileR n s' f
    | .bk s' => .ok (.go s')
    | .rt v => .ok (.rt v)
def mapA {α β : Type} : List α → List β → (α → Rx β) → Rx (List β)
  | [], acc, _ => .ok acc
  | x :: r, acc, f => grd (acc.length ≤ 1000000) ((f x).bind fun y => mapA r (acc ++ [y]) f)
def mapF {α β : Type} : List α → List β → (α → Rx (Option β)) → Rx (List β)
  | [], acc, _ => .ok acc
  | x :: r, acc, f => grd (acc.length ≤ 1000000) ((f x).bind fun y =>
    match y with
    | some z => mapF r (acc ++ [z]) f
    | none => mapF r acc f)
section
variable {α β γ σ ρ τ : Type} {K : α → Prop} {E : Nat → Prop}
theorem cW_ok {a : α} (h : cW (.ok a) K E) : K a := by
  unfold cW at h
  exact h
theorem cW_er {e : Nat} (h : cW (.er e : Rx α) K E) : E e := by
  unfold cW at h
  exact h
theorem cW_bad {C : Prop} (h : cW (.bad : Rx α) K E) : C := by
  unfold cW at h
  exact h.elim
theorem cW_mk {a : α} (h : K a) : cW (.ok a) K E := by
  unfold cW
  exact h
theorem cW_mkE {e : Nat} (h : E e) : cW (.er e : Rx α) K E := by
  unfold cW
  exact h
theorem cW_gen {m : Rx α} (h : cW m K E) : ∃ (K' : α → Prop) (E' : Nat → Prop), (∀ v, K' v → K v) ∧ (∀ e, E' e → E e) ∧ cW m K' E' := ⟨K, E, fun _ x => x, fun _ x => x, h⟩
theorem cW_grd {p : Prop} {dp : Decidable p} {m : Rx α} (h : cW (grd p m) K E) : p ∧ cW m K E := by
  unfold grd at h
  split at h
  · exact ⟨‹p›, h⟩
  · exact cW_bad h
theorem cW_pos {p : Prop} {dp : Decidable p} {a b : Rx α} (c : p) (h : cW (if p then a else b) K E) : cW a K E := by rwa [if_pos c] at h
theorem cW_neg {p : Prop} {dp : Decidable p} {a b : Rx α} (c : ¬ p) (h : cW (if p then a else b) K E) : cW b K E := by rwa [if_neg c] at h
theorem cW_call {m : Rx β} {f : β → Rx α} {K2 : β → Prop} {E2 : Nat → Prop} (h : cW (m.bind f) K E) (ho : ∀ v, cW (f v) K E → K2 v) (he : ∀ e, E e → E2 e) : cW m K2 E2 := by
  cases m with
  | ok a => exact cW_mk (ho a h)
  | er e => exact cW_mkE (he e (cW_er (α := α) h))
  | bad => exact cW_bad (α := α) h
theorem cW_push {m : Rx β} {f : β → Rx α} (h : cW (m.bind f) K E) : ∃ K2 : β → Prop, (∀ v, K2 v → cW (f v) K E) ∧ cW m K2 E := ⟨fun v => cW (f v) K E, fun _ x => x, cW_call h (fun _ x => x) fun _ x => x⟩
theorem cW_name {m : Rx α} (h : cW m K E) : ∃ K' : α → Prop, (∀ v, K' v → K v) ∧ cW m K' E := ⟨K, fun _ x => x, h⟩
theorem cW_noEr {m : Rx α} (h : cW (noEr m) K E) : cW m K (fun _ => False) := by
  cases m with
  | ok a => exact cW_mk (cW_ok (α := α) h)
  | er e => exact cW_bad (α := α) h
  | bad => exact cW_bad (α := α) h
theorem cW_try {m : Rx β} {cs : List Nat} {f : β → Rx α} {g : Nat → Rx α} {K2 : β → Prop} {E2 : Nat → Prop} (h : cW (tryR m cs f g) K E) (ho : ∀ v, cW (f v) K E → K2 v) (hc : ∀ e, e ∈ cs → cW (g e) K E → E2 e) : cW m K2 E2 := by
  cases m with
  | ok a => exact cW_mk (ho a h)
  | er e =>
    have h2 : cW (if e ∈ cs then g e else .bad) K E := h
    by_cases q : e ∈ cs
    · exact cW_mkE (hc e q (cW_pos q h2))
    · exact cW_bad (cW_neg q h2)
  | bad => exact cW_bad (α := α) h
theorem cW_bnd {a : β} {f : β → Rx α} (h : cW (bnd a f) K E) : cW (f a) K E := h
theorem cW_negB {b : Bool} {x y : Rx α} (c : b = false) (h : cW (if b = true then x else y) K E) : cW y K E := cW_neg (by rw [c]; decide) h
theorem cW_forS {xs : List β} {i : Nat} {x : β} {s : α} {f : α → β → Rx α} (hx : xs[i]? = some x) (h : cW (forS (xs.drop i) s f) K E) : cW (f s x) (fun s' => cW (forS (xs.drop (i + 1)) s' f) K E) E := by
  rw [List.drop_eq_getElem?_toList_append, hx] at h
  exact cW_call h (fun _ z => z) fun _ z => z
theorem cW_forS0 {xs : List β} {n : Nat} {s : α} {f : α → β → Rx α} (hn : n = xs.length) (h : cW (forS (xs.drop n) s f) K E) : K s := by
  subst hn
  rw [List.drop_length] at h
  exact cW_ok h
theorem cW_forR {K : Lp σ ρ → Prop} {xs : List β} {i : Nat} {x : β} {s : σ} {f : σ → β → Rx (Lp σ ρ)} (hx : xs[i]? = some x) (h : cW (forR (xs.drop i) s f) K E) :
    cW (f s x) (fun l => match l with | .go s' => cW (forR (xs.drop (i + 1)) s' f) K E | .bk s' => K (.go s') | .rt v => K (.rt v)) E := by
  rw [List.drop_eq_getElem?_toList_append, hx] at h
  refine cW_call h (fun l z => ?_) fun _ z => z
  cases l with
  | go s' => exact z
  | bk s' => exact cW_ok (K := K) (a := .go s') z
  | rt v => exact cW_ok (K := K) (a := .rt v) z
theorem cW_forR0 {K : Lp σ ρ → Prop} {xs : List β} {n : Nat} {s : σ} {f : σ → β → Rx (Lp σ ρ)} (hn : n = xs.length) (h : cW (forR (xs.drop n) s f) K E) : K (.go s) := by
  subst hn
  rw [List.drop_length] at h
  exact cW_ok h
theorem cW_whileR {K : Lp σ ρ → Prop} {m : Nat} {s : σ} {f : σ → Rx (Lp σ ρ)} (h : cW (whileR m s f) K E) :
    ∃ n, m = n + 1 ∧ cW (f s) (fun l => match l with | .go s' => cW (whileR n s' f) K E | .bk s' => K (.go s') | .rt v => K (.rt v)) E := by
  cases m with
  | zero => exact cW_bad h
  | succ n =>
    refine ⟨n, rfl, cW_call h (fun l z => ?_) fun _ z => z⟩
    cases l with
    | go s' => exact z
    | bk s' => exact cW_ok (K := K) (a := .go s') z
    | rt v => exact cW_ok (K := K) (a := .rt v) z
theorem cW_mapA {K : List α → Prop} {xs : List β} {acc : List α} {i : Nat} {x : β} {f : β → Rx α} (hx : xs[i]? = some x) (h : cW (mapA (xs.drop i) acc f) K E) :
    acc.length ≤ 1000000 ∧ cW (f x) (fun y => cW (mapA (xs.drop (i + 1)) (acc ++ [y]) f) K E) E := by
  rw [List.drop_eq_getElem?_toList_append, hx] at h
  obtain ⟨z, h⟩ := cW_grd h
  exact ⟨z, cW_call h (fun _ z => z) fun _ z => z⟩
theorem cW_mapA0 {K : List α → Prop} {xs : List β} {acc : List α} {n : Nat} {f : β → Rx α} (hn : n = xs.length) (h : cW (mapA (xs.drop n) acc f) K E) : K acc := by
  subst hn
  rw [List.drop_length] at h
  exact cW_ok h
theorem cW_mapF {K : List α → Prop} {xs : List β} {acc : List α} {i : Nat} {x : β} {f : β → Rx (Option α)} (hx : xs[i]? = some x) (h : cW (mapF (xs.drop i) acc f) K E) :
    acc.length ≤ 1000000 ∧ cW (f x) (fun y => match y with | some z => cW (mapF (xs.drop (i + 1)) (acc ++ [z]) f) K E | none => cW (mapF (xs.drop (i + 1)) acc f) K E) E := by
  rw [List.drop_eq_getElem?_toList_append, hx] at h
  obtain ⟨z, h⟩ := cW_grd h
  refine ⟨z, cW_call h (fun y z => ?_) fun _ z => z⟩
  cases y with
  | none => exact z
  | some w => exact z
theorem cW_mapF0 {K : List α → Prop} {xs : List β} {acc : List α} {n : Nat} {f : β → Rx (Option α)} (hn : n = xs.length) (h : cW (mapF (xs.drop n) acc f) K E) : K acc := by
  subst hn
  rw [List.drop_length] at h
  exact cW_ok h
end
/-- the numbers of a range -/
def rng (lo : Int) (n : Nat) : List Int := (List.range n).map fun (j : Nat) => lo + (j : Int)
theorem rng_get {lo : Int} {n i : Nat} (h : i < n) : (rng lo n)[i]? = some (lo + (i : Int)) := by
  unfold rng
  rw [List.getElem?_map, List.getElem?_range h] <;> rfl
theorem rng_len (lo : Int) (n : Nat) : (rng lo n).length = n := by
  unfold rng
  rw [List.length_map, List.length_range]

def rngD (lo : Int) (n : Nat) : List Int := (List.range n).map fun (j : Nat) => lo + (j : Int) * (-1)
theorem rngD_get {lo : Int} {n i : Nat} (h : i < n) : (rngD lo n)[i]? = some (lo + (i : Int) * (-1)) := by
  unfold rngD
  rw [List.getElem?_map, List.getElem?_range h] <;> rfl
theorem rngD_len (lo : Int) (n : Nat) : (rngD lo n).length = n := by
  unfold rngD
  rw [List.length_map, List.length_range]

/-! ### calls that may raise -/
/-- what a call with n values and keywords ks gives the parameters -/
structure Bnd (K : PySem.W.Frag) (fd : FuncData) (ps : List Str) (n : Nat) (ks : List Str) (g : List V → List V → List V) : Prop where
  to : ∀ (s : Shared) (us ws : List Value) (vs zs : List V), K.In s.heap → vs.length = n → zs.length = ks.length → Vals vs us → Vals zs ws → ∃ vv : List Value, BindsTo s fd ⟨us, ks.zip ws⟩ (ps.zip vv) ∧ Vals (g vs zs) vv
theorem Bnd.of_kbn {K : PySem.W.Frag} {fd : FuncData} {ps ks : List Str} {n : Nat} {g : List Value → List Value → List Value} {gV : List V → List V → List V} (b : KBn K fd ps n ks g gV) : Bnd K fd ps n ks gV :=
  ⟨fun s us ws vs zs X l1 l2 r rz => ⟨g us ws, b.to s us ws X (r.length.symm.trans l1) (rz.length.symm.trans l2), b.rel r rz⟩⟩
theorem Bnd.all {K : PySem.W.Frag} {fd : FuncData} {ps ks : List Str} {n : Nat} {g : List V → List V → List V} (h : ∀ (us ws : List Value) (vs zs : List V), vs.length = n → zs.length = ks.length → Vals vs us → Vals zs ws →
    ∃ vv : List Value, bindArgs fd ⟨us, ks.zip ws⟩ = pure (ps.zip vv) ∧ Vals (g vs zs) vv) : Bnd K fd ps n ks g :=
  ⟨fun s us ws vs zs _ l1 l2 r rz => by
    obtain ⟨vv, e, q⟩ := h us ws vs zs l1 l2 r rz
    exact ⟨vv, BindsTo.of_eq e, q⟩⟩
abbrev Pat := Nat × List Str × (List V → List V → List V)
def Bnd1 (K : PySem.W.Frag) (fd : FuncData) (ps : List Str) (p : Pat) : Prop := Bnd K fd ps p.1 p.2.1 p.2.2
section
variable {P : Program} {w : World} {K : PySem.W.Frag} {mg : Str → Option Value} {base : Heap}
/-- a def of the top, with the ways it is called -/
structure DefX (K : PySem.W.Frag) (mg : Str → Option Value) (x : Str) (st : Stmt) (ps : List Str) (pats : List Pat) : Prop where
  ex : ∃ (f : Addr) (fd : FuncData) (dvs : List V) (kws : List (Str × V)), FunD K x x (defArgs st) (defBody st) (defScope st) dvs kws f fd ∧ mg x = some (.ref f) ∧ ∀ p ∈ pats, Bnd1 K fd ps p
structure CalX (P : Program) (w : World) (K : PySem.W.Frag) (mg : Str → Option Value) (base : Heap) (k : Nat) (x : Str) (sp : Sp) (pats : List Pat) : Prop where
  ex : ∃ (f : Addr) (fd : FuncData) (ps : List Str), FnG P w K mg base (L2.CX P w) k f fd ps sp ∧ mg x = some (.ref f) ∧ PySem.W.keepIn K (.ref f) = true ∧ ∀ p ∈ pats, Bnd1 K fd ps p
abbrev BodyX (P : Program) (w : World) (K : PySem.W.Frag) (mg : Str → Option Value) (base : Heap) (x : Str) (st : Stmt) (N : List Str) (k : Nat) (sp : Sp) : Prop :=
  ∀ (f : Addr) (cdv : Value) (A : Around) (outer : List Env) (s : Shared) (H : Hp) (vs : List V) (Q : VK) (E : XK), RoomG k (A.deeper (envOfC x (defScope st) s.heap.objs.size f cdv)) → sp vs H Q E →
    ∃ t, PSs (cxOf (L2.CX P w) P w K mg base N x (defScope st) f cdv A outer s H E) (defBody st) t ∧ t { nx := fun _ H' => Q .non H', rt := Q } (start N vs) H
theorem DefX.ok {x : Str} {st : Stmt} {N ps : List Str} {pats : List Pat} {k : Nat} {sp : Sp} (D : DefX K mg x st ps pats) (S : FnScope N ps (defScope st)) (len : ∀ vs H Q E, sp vs H Q E → vs.length = ps.length)
    (hbody : BodyX P w K mg base x st N k sp) : CalX P w K mg base (k + 1) x sp pats := by
  obtain ⟨f, fd, dvs, kws, F, hm, b⟩ := D.ex
  exact ⟨f, fd, ps, FnG.body F S len (fun cdv A outer s H vs Q E hr h => hbody f cdv A outer s H vs Q E hr h), hm, F.kp, b⟩
end
section
variable {X : Cx} {k j n : Nat} {f : Addr} {fd : FuncData} {ps ks : List Str} {g : List V → List V → List V} {sp : Sp} {x : Str} {pos p : Pos} {e : Expr} {es : List Expr} {kws : List Keyword} {t tk : TA} {W : WX}
theorem run_X {pins : List (Addr × Obj)} {σ : L2.St} {H : Hp} {s : Shared} {Q : VK} {us ws : List Value} {vs zs : List V} (F : FnG X.prog X.w X.K X.mg X.base (L2.CX X.prog X.w) k f fd ps sp) (hr : RoomG k X.A) (hb : Bnd X.K fd ps n ks g) (tkW : Takes X W)
    (I : Inv X pins σ H s) (r : Vals vs us) (rz : Vals zs ws) (l1 : vs.length = n) (l2 : zs.length = ks.length) (h : sp (g vs zs) H Q (WE W σ)) :
    wpAny (model X.prog X.w) X.A (call (.ref f) us (ks.zip ws)) (EP X pins σ Q) X.xe s := by
  obtain ⟨vv, b, r2⟩ := hb.to s us ws vs zs I.kIn l1 l2 r rz
  refine wpAny_call (codeAny_mono (F.run X.A X.stack s H ⟨us, ks.zip ws⟩ vv (g vs zs) Q (WE W σ) hr I.env0 b r2 h) fun rr s' hq => ?_)
  cases rr with
  | error er => exact passAt tkW σ pins H s er s' I hq
  | ok fl =>
    cases fl with
    | ret u => exact I.after hq
    | next => exact hq.elim
    | brk => exact hq.elim
    | cont => exact hq.elim
/-- f(e, .., k = v, ..) -/
def tCallX (n m : Nat) (sp : Sp) (g : List V → List V → List V) (W : WX) (t tk : TA) : TE := fun σ H Q => t σ H fun vs H1 => tk σ H1 fun zs H2 => vs.length = n ∧ zs.length = m ∧ sp (g vs zs) H2 Q (WE W σ)
theorem vx_callX {pats : List Pat} (c : CalX X.prog X.w X.K X.mg X.base k x sp pats) (pt : Pat) (hpt : pt ∈ pats) (hr : RoomG j X.A) (hk : k ≤ j) (tkW : Takes X W) (hg : Gl X x) (ha : PA X (e :: es) t) (hkw : PK X kws tk)
    (hall : (backToKw pos (keywordEach kws X.env)).all (·.1.isSome) = true := by rfl) (hks : (backToKw pos (keywordEach kws X.env)).filterMap (·.1) = pt.2.1 := by rfl)
    (hdb : (x == ("__debug__" : Str)) = false := by decide) (he : starEach (e :: es) X.env = (false, eval e X.env) :: starEach es X.env := by rfl)
    (hpl : ((backTo pos (starEach (e :: es) X.env)).any (·.1) || (backToKw pos (keywordEach kws X.env)).any (·.1.isNone)) = false := by rfl) :
    PE X (.Call (.Name x p) (e :: es) kws pos) (tCallX pt.1 pt.2.1.length sp pt.2.2 W t tk) := by
  obtain ⟨f, fd, ps, F, hm, kp, b⟩ := c.ex
  refine ⟨fun pins s σ H Q I h => ?_⟩
  refine wpAny_Call_Name_kw (ld_glob I hg hm ?_ hdb)
  refine PySem.W.callWith_KW (h₀ := X.base) I.ok.mod.kin kp hall (thn (ha.run pos pins s σ H _ I h) fun us s1 ⟨vs, H1, I1, r, q⟩ => ?_) hpl he
  refine thn (hkw.run pos pins s1 σ H1 _ I1 q) fun ws s2 ⟨zs, H2, I2, rz, l1, l2, q2⟩ => ⟨I2.kIn, ?_⟩
  rw [hks]
  exact run_X F (hr.low hk) (b pt hpt) tkW I2 r rz l1 l2 q2
theorem vx_callX0 {pats : List Pat} (c : CalX X.prog X.w X.K X.mg X.base k x sp pats) (pt : Pat) (hpt : pt ∈ pats) (hr : RoomG j X.A) (hk : k ≤ j) (tkW : Takes X W) (hg : Gl X x) (hks : pt.2.1 = [] := by rfl)
    (hdb : (x == ("__debug__" : Str)) = false := by decide) : PE X (.Call (.Name x p) [] [] pos) (tCallX pt.1 pt.2.1.length sp pt.2.2 W tNil tNil) := by
  obtain ⟨f, fd, ps, F, hm, kp, b⟩ := c.ex
  refine ⟨fun pins s σ H Q I h => ?_⟩
  refine wpAny_Call_Name_kw (ld_glob I hg hm ?_ hdb)
  obtain ⟨l1, l2, q2⟩ := h
  have hz := run_X (us := []) (ws := []) F (hr.low hk) (b pt hpt) tkW I .nil .nil l1 l2 q2
  rw [hks] at hz
  exact PySem.W.callWith_K0 I.kIn kp hz
end
/-! ### borrowed things -/
theorem Sep.bM {M : List Addr} {H0 G0 G H : Hp} {O : List (Addr)} (S : Sep M H0 G0 G H O) : Same (hideL M H0) H := fun b o e => by
  by_cases h : b ∈ M
  · rw [hideL_in h] at e
    cases e
  · rw [hideL_out h] at e
    exact S.base b o e h
theorem b_ne {M : List Addr} {H0 G0 G H : Hp} {O : List Addr} {a b : Addr} {o : HO} (h : (hideL M H0) a = some o) (S : Sep M H0 G0 G H O) (hb : b ∈ O) : a ≠ b := fun z => by
  subst z
  rcases (S.ow a hb).2.2 with q | q
  · rw [hideL_in q] at h
    cases h
  · by_cases hM : a ∈ M
    · rw [hideL_in hM] at h
      cases h
    · rw [hideL_out hM, q] at h
      cases h
theorem hide0 {H : Hp} : hideL [] H = H := by
  funext b
  unfold hideL
  rw [if_neg List.not_mem_nil]
theorem hide_nil {H : Hp} {a : Addr} {o : HO} (h : H a = some o) : (hideL [] H) a = some o := by
  rw [hide0]
  exact h
theorem Rp.hide_nil {H : Hp} {v : V} {d : PyData} (h : Rp H v d) : Rp (hideL [] H) v d := by
  rw [hide0]
  exact h
theorem Sep.startM {M : List Addr} {G H : Hp} (e : Same G H) (hM : ∀ a ∈ M, H a ≠ none) (hG : ∀ a ∈ M, G a = none) : Sep M H G G H M :=
  ⟨fun _ _ e _ => e, hM, e, Same.refl _, fun _ _ e => e, fun a ha => ⟨hG a ha, hM a ha, .inl ha⟩⟩
theorem Sep.gno {M : List Addr} {H0 G0 G H : Hp} {O L : List Addr} (S : Sep M H0 G0 G H O) (h : ∀ a ∈ L, a ∈ O) : ∀ a ∈ L, G a = none := fun a ha => (S.ow a (h a ha)).1
theorem RpAll.ixD {α : Type} [Inhabited α] {f : α → PyData} {H : Hp} {vs : List V} {xs : List α} {k : Int} (r : RpAll H vs (xs.map f)) (h : -(xs.length : Int) ≤ k ∧ k < xs.length) : ∃ v, atI vs k = some v ∧ Rp H v (f (itD xs k)) := by
  obtain ⟨v, x, h1, h2, h3⟩ := RpAll.ix r h
  refine ⟨v, h1, ?_⟩
  unfold itD
  rw [h2]
  exact h3
theorem tru_all {α : Type} [DecidableEq α] {f : α → PyData} {H : Hp} {vs : List V} {xs : List α} (r : RpAll H vs (xs.map f)) : (!decide (xs = [])) = !vs.isEmpty := by
  have h := r.len
  rw [List.length_map] at h
  cases xs <;> cases vs <;> simp_all
theorem ix_nn {α : Type} {xs : List α} {k : Int} (h0 : 0 ≤ k) (h1 : k < xs.length) : -(xs.length : Int) ≤ k ∧ k < xs.length := ⟨by omega, h1⟩
theorem all_nilQ {α : Type} {P : α → Prop} : ∀ x ∈ ([] : List α), P x := fun x h => by cases h
theorem all_consQ {α : Type} {P : α → Prop} {a : α} {l : List α} (h : P a) (t : ∀ x ∈ l, P x) : ∀ x ∈ a :: l, P x := fun x hx => by
  rcases List.mem_cons.mp hx with rfl | hx
  · exact h
  · exact t x hx
theorem mem_one {a b : Nat} (h : a ∈ [b]) : a = b := by simpa using h
theorem mem_cons2 {a b : Nat} {l : List Nat} (h : a ∈ b :: l) : a = b ∨ a ∈ l := List.mem_cons.mp h
theorem len0 {α : Type} {l : List α} (h : l.length = 0) : l = [] := List.length_eq_zero_iff.mp h
theorem len1 {α : Type} {l : List α} (h : l.length = 1) : ∃ a, l = [a] := List.length_eq_one_iff.mp h
theorem len_s {α : Type} {l : List α} {n : Nat} (h : l.length = n + 1) : ∃ a r, l = a :: r ∧ r.length = n := by
  cases l with
  | nil => cases h
  | cons a r => exact ⟨a, r, rfl, Nat.succ.inj h⟩
theorem len2 {α : Type} {l : List α} (h : l.length = 2) : ∃ a b, l = [a, b] := by
  obtain ⟨a, r, rfl, h2⟩ := len_s h
  obtain ⟨b, rfl⟩ := len1 h2
  exact ⟨a, b, rfl⟩
theorem len3 {α : Type} {l : List α} (h : l.length = 3) : ∃ a b c, l = [a, b, c] := by
  obtain ⟨a, r, rfl, h2⟩ := len_s h
  obtain ⟨b, c, rfl⟩ := len2 h2
  exact ⟨a, b, c, rfl⟩
theorem len4 {α : Type} {l : List α} (h : l.length = 4) : ∃ a b c d, l = [a, b, c, d] := by
  obtain ⟨a, r, rfl, h2⟩ := len_s h
  obtain ⟨b, c, d, rfl⟩ := len3 h2
  exact ⟨a, b, c, d, rfl⟩
theorem len5 {α : Type} {l : List α} (h : l.length = 5) : ∃ a b c d e, l = [a, b, c, d, e] := by
  obtain ⟨a, r, rfl, h2⟩ := len_s h
  obtain ⟨b, c, d, e, rfl⟩ := len4 h2
  exact ⟨a, b, c, d, e, rfl⟩
theorem len6 {α : Type} {l : List α} (h : l.length = 6) : ∃ a b c d e f, l = [a, b, c, d, e, f] := by
  obtain ⟨a, r, rfl, h2⟩ := len_s h
  obtain ⟨b, c, d, e, f, rfl⟩ := len5 h2
  exact ⟨a, b, c, d, e, f, rfl⟩
theorem len7 {α : Type} {l : List α} (h : l.length = 7) : ∃ a b c d e f g, l = [a, b, c, d, e, f, g] := by
  obtain ⟨a, r, rfl, h2⟩ := len_s h
  obtain ⟨b, c, d, e, f, g, rfl⟩ := len6 h2
  exact ⟨a, b, c, d, e, f, g, rfl⟩
def rLenTK (K : PySem.W.Frag) : List V → Hp → VK → Prop := fun xs H Q => ∃ (p : Addr) (vs : List V) (n : Nat), xs = [.ref p] ∧ SqT K H p vs ∧ vs.length = n ∧ Q (.int (n : Int)) H
theorem call_lenTK {X : Cx} {K : PySem.W.Frag} (hK : X.K = K := by rfl) : CallR X (.builtin "len") (rLenTK K) := by
  subst hK
  intro pins s σ H xs us Q I r h
  obtain ⟨p, vs, n, rfl, hs, hn, q⟩ := h
  exact call_len_seq pins s σ H _ us Q I r ⟨p, _, rfl, Or.inr hs, by rw [hn]; exact q⟩
theorem exm_mk {K : PySem.W.Frag} {S C : Addr} (h1 : PySem.W.subIn K (.ref C) (.type "BaseException") = some true) (h2 : PySem.W.isClsIn K C = true) (h3 : PySem.W.typeIn K (.ref C) = some (.type "type")) (h4 : PySem.W.subIn K (.ref S) (.ref C) = some true) :
    PySem.W.exmOne K (.ref S) (.ref C) = some true := by
  unfold PySem.W.isClsIn at h2
  unfold PySem.W.exmOne
  unfold PySem.W.kitCls
  simp only [h1, h2, h3, h4, beq_self_eq_true, Bool.and_self, if_true]
theorem kit_mk {K : PySem.W.Frag} {S C : Addr} (h2 : PySem.W.isClsIn K C = true) (h3 : PySem.W.typeIn K (.ref C) = some (.type "type")) (h4 : PySem.W.subIn K (.ref S) (.ref C) = some true) :
    PySem.W.kitOne K (.ref S) (.ref C) = some true := by
  unfold PySem.W.isClsIn at h2
  unfold PySem.W.kitOne
  split
  · rfl
  · unfold PySem.W.kitCls
    simp only [h2, h3, h4, beq_self_eq_true, Bool.and_self, if_true]
/-- isinstance(e, C) of the exception in hand -/
def rIsX (K : PySem.W.Frag) (a : Addr) (cls : Value) (d : Option Addr) : List V → Hp → VK → Prop := fun xs H Q => ∃ (D C : Addr) (b : Bool), cls = .ref D ∧ d = none ∧ ExcC K D ∧ xs = [.ref a, .ref C] ∧ PySem.W.kitOne K (.ref D) (.ref C) = some b ∧ Q (.bl b) H
theorem call_isX {X : Cx} {K : PySem.W.Frag} {a : Addr} {cls : Value} {d : Option Addr} {oe : Obj} {pn : List (Addr × Obj)} (hz : Zc cls d oe) (hf : ∃ vs, oe.data = .fields vs) (hK : X.K = K := by rfl) : CallR (X.suite a ((a, oe) :: pn)) (.builtin "isinstance") (rIsX K a cls d) := by
  subst hK
  intro pins s σ H xs us Q I r h
  obtain ⟨D, C, b, rfl, rfl, c, rfl, e, q⟩ := h
  exact call_isE c hz hf pins s σ H _ us Q I r ⟨_, _, b, rfl, fun u z => z, e, q⟩
/-! ### unpacking a list -/
section
variable {X : Cx} {K : PySem.W.Frag} {pos : Pos}
theorem pg_seqK {es : List Expr} {k : Nat} {t : TGs} {n : Nat} (h : PGs X es t) (hc : X.calm = true := by rfl) (hK : X.K = K := by rfl)
    (hn : (assignEach es X.env).length = n := by rfl) (hst : (assignEach es X.env).findIdx? (·.1) = none := by rfl) : PG X (.Tuple es k pos) (gLst K n t) := hK ▸ pg_lst hc h hn hst
end
theorem SqL.cast {K : PySem.W.Frag} {H : Hp} {a : Addr} {xs ys : List V} (h : SqL K H a xs) (e : xs = ys) : SqL K H a ys := e ▸ h
section
variable {α : Type} [Inhabited α] {f : α → V}
theorem unp2 {xs : List α} (h : xs.length = 2) : xs.map f = [f (itD xs 0), f (itD xs 1)] := by
  obtain ⟨a, b, rfl⟩ := len2 h
  rfl
theorem unp3 {xs : List α} (h : xs.length = 3) : xs.map f = [f (itD xs 0), f (itD xs 1), f (itD xs 2)] := by
  obtain ⟨a, b, c, rfl⟩ := len3 h
  rfl
theorem unp4 {xs : List α} (h : xs.length = 4) : xs.map f = [f (itD xs 0), f (itD xs 1), f (itD xs 2), f (itD xs 3)] := by
  obtain ⟨a, b, c, d, rfl⟩ := len4 h
  rfl
theorem unp6 {xs : List α} (h : xs.length = 6) : xs.map f = [f (itD xs 0), f (itD xs 1), f (itD xs 2), f (itD xs 3), f (itD xs 4), f (itD xs 5)] := by
  obtain ⟨a, b, c, d, e, g, rfl⟩ := len6 h
  rfl
theorem unp8 {xs : List α} (h : xs.length = 8) : xs.map f = [f (itD xs 0), f (itD xs 1), f (itD xs 2), f (itD xs 3), f (itD xs 4), f (itD xs 5), f (itD xs 6), f (itD xs 7)] := by
  obtain ⟨a, r, rfl, h2⟩ := len_s h
  obtain ⟨b, c, d, e, g, i, j, rfl⟩ := len7 h2
  rfl
end
/-! ### classes -/
section
variable {P : Program} {w : World} {K : PySem.W.Frag} {mg : Str → Option Value} {base : Heap}
structure MethX (K : PySem.W.Frag) (C : Addr) (q m : Str) (st : Stmt) (ps : List Str) (pats : List Pat) : Prop where
  ex : ∃ (f : Addr) (fd : FuncData) (dvs : List V) (kws : List (Str × V)), FunD K m q (defArgs st) (defBody st) (defScope st) dvs kws f fd ∧ Meth K C m f ∧ ∀ p ∈ pats, Bnd1 K fd ps p
structure InitX (K : PySem.W.Frag) (mg : Str → Option Value) (C : Addr) (cn q : Str) (st : Stmt) (ps : List Str) (pats : List Pat) : Prop where
  ex : ∃ (f : Addr) (fd : FuncData) (dvs : List V) (kws : List (Str × V)), FunD K "__init__" q (defArgs st) (defBody st) (defScope st) dvs kws f fd ∧ Mk K C f ∧ mg cn = some (.ref C) ∧ ∀ p ∈ pats, Bnd1 K fd ps p
structure PropX (K : PySem.W.Frag) (C : Addr) (q m : Str) (st : Stmt) (ps : List Str) (pats : List Pat) : Prop where
  ex : ∃ (r f : Addr) (fd : FuncData) (dvs : List V) (kws : List (Str × V)), FunD K m q (defArgs st) (defBody st) (defScope st) dvs kws f fd ∧ PropOf K C m r f ∧ Binds K fd ps []
structure MetX (P : Program) (w : World) (K : PySem.W.Frag) (mg : Str → Option Value) (base : Heap) (k : Nat) (C : Addr) (m : Str) (sp : Sp) (pats : List Pat) : Prop where
  ex : ∃ (f : Addr) (fd : FuncData) (ps : List Str), Cls K C ∧ Meth K C m f ∧ FnG P w K mg base (L2.CX P w) k f fd ps sp ∧ ∀ p ∈ pats, Bnd1 K fd ps p
structure PropY (P : Program) (w : World) (K : PySem.W.Frag) (mg : Str → Option Value) (base : Heap) (k : Nat) (C : Addr) (m : Str) (sp : Sp) (pats : List Pat) : Prop where
  ex : ∃ (q f : Addr) (fd : FuncData) (ps : List Str), Cls K C ∧ PropOf K C m q f ∧ FnG P w K mg base (L2.CX P w) k f fd ps sp ∧ Binds K fd ps []
structure MakX (P : Program) (w : World) (K : PySem.W.Frag) (mg : Str → Option Value) (base : Heap) (k : Nat) (cn : Str) (C : Addr) (sp : Sp) (pats : List Pat) : Prop where
  ex : ∃ (f : Addr) (fd : FuncData) (ps : List Str), Mk K C f ∧ FnG P w K mg base (L2.CX P w) k f fd ps sp ∧ mg cn = some (.ref C) ∧ ∀ p ∈ pats, Bnd1 K fd ps p
theorem MethX.ok {C : Addr} {q m : Str} {st : Stmt} {N ps : List Str} {pats : List Pat} {k : Nat} {sp : Sp} (D : MethX K C q m st ps pats) (c : Cls K C) (S : FnScope N ps (defScope st)) (len : ∀ vs H Q E, sp vs H Q E → vs.length = ps.length)
    (hbody : BodyX P w K mg base q st N k sp) : MetX P w K mg base (k + 1) C m sp pats := by
  obtain ⟨f, fd, dvs, kws, F, me, b⟩ := D.ex
  exact ⟨f, fd, ps, c, me, FnG.body F S len (fun cdv A outer s H vs Q E hr h => hbody f cdv A outer s H vs Q E hr h), b⟩
theorem PropX.ok {C : Addr} {q m : Str} {st : Stmt} {N ps : List Str} {pats : List Pat} {k : Nat} {sp : Sp} (D : PropX K C q m st ps pats) (c : Cls K C) (S : FnScope N ps (defScope st)) (len : ∀ vs H Q E, sp vs H Q E → vs.length = ps.length)
    (hbody : BodyX P w K mg base q st N k sp) : PropY P w K mg base (k + 1) C m sp pats := by
  obtain ⟨r, f, fd, dvs, kws, F, me, b⟩ := D.ex
  exact ⟨r, f, fd, ps, c, me, FnG.body F S len (fun cdv A outer s H vs Q E hr h => hbody f cdv A outer s H vs Q E hr h), b⟩
theorem InitX.ok {C : Addr} {cn q : Str} {st : Stmt} {N ps : List Str} {pats : List Pat} {k : Nat} {sp : Sp} (D : InitX K mg C cn q st ps pats) (S : FnScope N ps (defScope st)) (len : ∀ vs H Q E, sp vs H Q E → vs.length = ps.length)
    (hbody : BodyX P w K mg base q st N k sp) : MakX P w K mg base (k + 1) cn C sp pats := by
  obtain ⟨f, fd, dvs, kws, F, me, hm, b⟩ := D.ex
  exact ⟨f, fd, ps, me, FnG.body F S len (fun cdv A outer s H vs Q E hr h => hbody f cdv A outer s H vs Q E hr h), hm, b⟩
end
theorem cW_callN {α β : Type} {m : Rx β} {f : β → Rx α} {K : α → Prop} {E : Nat → Prop} {K2 : β → Prop} {E2 : Nat → Prop} (h : cW ((noEr m).bind f) K E) (ho : ∀ v, cW (f v) K E → K2 v) (_ : True) : cW m K2 E2 := by
  cases m with
  | ok a => exact cW_mk (ho a h)
  | er e => exact cW_bad (α := α) h
  | bad => exact cW_bad (α := α) h
section
variable {X : Cx} {k j n : Nat} {f C : Addr} {fd : FuncData} {ps ks : List Str} {g : List V → List V → List V} {sp : Sp} {x m : Str} {pos p apos : Pos} {e o : Expr} {es : List Expr} {kws : List Keyword} {ta : TE} {t tk : TA} {W : WX}
theorem run_mkX {pins : List (Addr × Obj)} {σ : L2.St} {H : Hp} {s : Shared} {Q : VK} {us ws : List Value} {vs zs : List V} (M : Mk X.K C f) (F : FnG X.prog X.w X.K X.mg X.base (L2.CX X.prog X.w) k f fd ps sp) (hr : RoomG (k + 1) X.A) (hb : Bnd X.K fd ps n ks g) (tkW : Takes X W)
    (I : Inv X pins σ H s) (r : Vals vs us) (rz : Vals zs ws) (l1 : vs.length + 1 = n) (l2 : zs.length = ks.length)
    (h : ∀ x dx, H x = none → H dx = none → dx ≠ x → sp (g (.ref x :: vs) zs) (upd (upd H dx (.own x)) x (.ins C dx [])) (fun v H2 => v = .non ∧ Q (.ref x) H2) (WE W σ)) :
    wpAny (model X.prog X.w) X.A (call (.ref C) us (ks.zip ws)) (EP X pins σ Q) X.xe s := by
  have hq := h (s.heap.objs.size + 1) s.heap.objs.size (I.hok.fresh (Nat.le_succ _)) (I.hok.fresh (Nat.le_refl _)) (Nat.ne_of_lt (Nat.lt_succ_self _))
  have I2 := Inv.made (C := C) I
  have r1 : Vals (V.ref (s.heap.objs.size + 1) :: vs) (Value.ref (s.heap.objs.size + 1) :: us) := .cons rfl r
  obtain ⟨vv, b, r2⟩ := hb.to _ (Value.ref (s.heap.objs.size + 1) :: us) ws (V.ref (s.heap.objs.size + 1) :: vs) zs I2.kIn (by rw [List.length_cons, l1]) l2 r1 rz
  refine wpAny_call (make_map (f := f) I.kIn M.makes M.init (beq_iff_eq.mp M.fn) (codeAny_mono (F.run _ X.stack _ _ ⟨Value.ref (s.heap.objs.size + 1) :: us, ks.zip ws⟩ vv _ _ (WE W σ) (hr.made C us (ks.zip ws))
    (I2.env0.make C us (ks.zip ws)) b r2 hq) fun r s' hq' => ?_))
  cases r with
  | error e => exact passAt tkW σ pins _ _ e s' I2 hq'
  | ok fl =>
    cases fl with
    | ret u =>
      obtain ⟨v, H', I3, rv, ev, q3⟩ := I2.after hq'
      subst ev
      exact ⟨rv, ⟨V.ref (s.heap.objs.size + 1), H', I3, rfl, q3⟩⟩
    | next => exact False.elim hq'
    | brk => exact False.elim hq'
    | cont => exact False.elim hq'
/-- C(e, .., k = v, ..) -/
def tMakeX (C : Addr) (n m : Nat) (sp : Sp) (g : List V → List V → List V) (W : WX) (t tk : TA) : TE := fun σ H Q => t σ H fun vs H1 => tk σ H1 fun zs H2 => vs.length + 1 = n ∧ zs.length = m ∧ ∀ x dx, H2 x = none → H2 dx = none → dx ≠ x →
  sp (g (.ref x :: vs) zs) (upd (upd H2 dx (.own x)) x (.ins C dx [])) (fun v H3 => v = .non ∧ Q (.ref x) H3) (WE W σ)
theorem vx_makeX {pats : List Pat} (c : MakX X.prog X.w X.K X.mg X.base k x C sp pats) (pt : Pat) (hpt : pt ∈ pats) (hr : RoomG j X.A) (hk : k + 1 ≤ j) (tkW : Takes X W) (hg : Gl X x) (ha : PA X (e :: es) t) (hkw : PK X kws tk)
    (hall : (backToKw pos (keywordEach kws X.env)).all (·.1.isSome) = true := by rfl) (hks : (backToKw pos (keywordEach kws X.env)).filterMap (·.1) = pt.2.1 := by rfl) (hdb : (x == ("__debug__" : Str)) = false := by decide)
    (he : starEach (e :: es) X.env = (false, eval e X.env) :: starEach es X.env := by rfl) (hpl : ((backTo pos (starEach (e :: es) X.env)).any (·.1) || (backToKw pos (keywordEach kws X.env)).any (·.1.isNone)) = false := by rfl) :
    PE X (.Call (.Name x p) (e :: es) kws pos) (tMakeX C pt.1 pt.2.1.length sp pt.2.2 W t tk) := by
  obtain ⟨f, fd, ps, M, F, hm, b⟩ := c.ex
  refine ⟨fun pins s σ H Q I h => ?_⟩
  refine wpAny_Call_Name_kw (ld_glob I hg hm ?_ hdb)
  refine PySem.W.callWith_KW (h₀ := X.base) I.ok.mod.kin M.kp hall (thn (ha.run pos pins s σ H _ I h) fun us s1 ⟨vs, H1, I1, r, q⟩ => ?_) hpl he
  refine thn (hkw.run pos pins s1 σ H1 _ I1 q) fun ws s2 ⟨zs, H2, I2, rz, l1, l2, q2⟩ => ⟨I2.kIn, ?_⟩
  rw [hks]
  exact run_mkX M F (hr.low hk) (b pt hpt) tkW I2 r rz l1 l2 q2
theorem vx_makeX0 {pats : List Pat} (c : MakX X.prog X.w X.K X.mg X.base k x C sp pats) (pt : Pat) (hpt : pt ∈ pats) (hr : RoomG j X.A) (hk : k + 1 ≤ j) (tkW : Takes X W) (hg : Gl X x) (hks : pt.2.1 = [] := by rfl)
    (hdb : (x == ("__debug__" : Str)) = false := by decide) : PE X (.Call (.Name x p) [] [] pos) (tMakeX C pt.1 pt.2.1.length sp pt.2.2 W tNil tNil) := by
  obtain ⟨f, fd, ps, M, F, hm, b⟩ := c.ex
  refine ⟨fun pins s σ H Q I h => ?_⟩
  refine wpAny_Call_Name_kw (ld_glob I hg hm ?_ hdb)
  obtain ⟨l1, l2, q2⟩ := h
  have hz := run_mkX (us := []) (ws := []) M F (hr.low hk) (b pt hpt) tkW I .nil .nil l1 l2 q2
  rw [hks] at hz
  exact PySem.W.callWith_K0 I.kIn M.kp hz
/-- o.m(e, .., k = v, ..) -/
def tMethX (C : Addr) (m : Str) (n mm : Nat) (sp : Sp) (g : List V → List V → List V) (W : WX) (ta : TE) (t tk : TA) : TE := fun σ H Q => ta σ H fun x H1 => ∃ a dx fs, x = .ref a ∧ H1 a = some (.ins C dx fs) ∧ fs.lookup m = none ∧
  t σ H1 fun vs H2 => tk σ H2 fun zs H3 => (x :: vs).length = n ∧ zs.length = mm ∧ sp (g (x :: vs) zs) H3 Q (WE W σ)
theorem vx_methX {pats : List Pat} {pl : Sem Bool} (c : MetX X.prog X.w X.K X.mg X.base k C m sp pats) (pt : Pat) (hpt : pt ∈ pats) (hr : RoomG j X.A) (hk : k ≤ j) (tkW : Takes X W) (he : PE X o ta) (ha : PA X (e :: es) t) (hkw : PK X kws tk)
    (hall : (backToKw pos (keywordEach kws X.env)).all (·.1.isSome) = true := by rfl) (hks : (backToKw pos (keywordEach kws X.env)).filterMap (·.1) = pt.2.1 := by rfl)
    (hst : starEach (e :: es) X.env = (false, eval e X.env) :: starEach es X.env := by rfl) (hpl : ((backTo pos (starEach (e :: es) X.env)).any (·.1) || (backToKw pos (keywordEach kws X.env)).any (·.1.isNone)) = false := by rfl)
    (ht : eval (.Call (.Attribute o m apos) (e :: es) kws pos) X.env = (do
      let ov ← eval o X.env
      standAt apos.atName
      let (f, first) ← holding [ov] (getMethod ov m pl)
      callWith pos f first (backTo pos (starEach (e :: es) X.env)) (backToKw pos (keywordEach kws X.env))) := by rfl) :
    PE X (.Call (.Attribute o m apos) (e :: es) kws pos) (tMethX C m pt.1 pt.2.1.length sp pt.2.2 W ta t tk) := by
  obtain ⟨f, fd, ps, hc, hm, F, b⟩ := c.ex
  refine ⟨fun pins s σ H Q I h => ?_⟩
  refine PySem.W.methodCall_KW (pl := pl) (thn (he.run pins s σ H _ I h) fun u s1 ⟨x, H1, I1, rx, a, dx, fs, ex, ea, l, q⟩ => ?_) ht
  subst ex
  obtain rfl : u = Value.ref a := rx
  refine getmeth_ok I1 ea hc hm l ?_
  refine PySem.W.callWith_KW (first := [.ref a]) (h₀ := X.base) I.ok.mod.kin hm.kp hall (thn (ha.run pos pins s1 σ H1 _ I1 q) fun us s2 ⟨vs, H2, I2, r, q2⟩ => ?_) hpl hst
  refine thn (hkw.run pos pins s2 σ H2 _ I2 q2) fun ws s3 ⟨zs, H3, I3, rz, l1, l2, q3⟩ => ⟨I3.kIn, ?_⟩
  rw [hks]
  exact run_X (us := .ref a :: us) (vs := .ref a :: vs) F (hr.low hk) (b pt hpt) tkW I3 (.cons rfl r) rz l1 l2 q3
theorem vx_methX0 {pats : List Pat} {pl : Sem Bool} (c : MetX X.prog X.w X.K X.mg X.base k C m sp pats) (pt : Pat) (hpt : pt ∈ pats) (hr : RoomG j X.A) (hk : k ≤ j) (tkW : Takes X W) (he : PE X o ta) (hks : pt.2.1 = [] := by rfl)
    (ht : eval (.Call (.Attribute o m apos) [] [] pos) X.env = (do
      let ov ← eval o X.env
      standAt apos.atName
      let (f, first) ← holding [ov] (getMethod ov m pl)
      callWith pos f first (backTo pos (starEach [] X.env)) (backToKw pos (keywordEach [] X.env))) := by rfl) :
    PE X (.Call (.Attribute o m apos) [] [] pos) (tMethX C m pt.1 pt.2.1.length sp pt.2.2 W ta tNil tNil) := by
  obtain ⟨f, fd, ps, hc, hm, F, b⟩ := c.ex
  refine ⟨fun pins s σ H Q I h => ?_⟩
  refine PySem.W.methodCall_KW (pl := pl) (thn (he.run pins s σ H _ I h) fun u s1 ⟨x, H1, I1, rx, a, dx, fs, ex, ea, l, q⟩ => ?_) ht
  subst ex
  obtain rfl : u = Value.ref a := rx
  refine getmeth_ok I1 ea hc hm l ?_
  obtain ⟨l1, l2, q3⟩ := q
  have hz := run_X (us := [.ref a]) (vs := [.ref a]) (ws := []) F (hr.low hk) (b pt hpt) tkW I1 (.cons rfl .nil) .nil l1 l2 q3
  rw [hks] at hz
  exact PySem.W.callWith_K0 (first := [.ref a]) I1.kIn hm.kp hz
theorem vx_propX {pats : List Pat} (c : PropY X.prog X.w X.K X.mg X.base k C m sp pats) (hr : RoomG j X.A) (hk : k + 1 ≤ j) (he : PE X o ta) (hab : attributeBase o m X.env (eval o X.env) = eval o X.env := by rfl) : PE X (.Attribute o m pos) (tProp C sp [] E0 ta) := by
  obtain ⟨q, f, fd, ps, cls, prop, F, bind⟩ := c.ex
  constructor
  intro pins s σ H Q I h
  refine attr_of hab (thn (he.run pins s σ H _ I h) ?_)
  rintro u s1 ⟨x, H1, I1, rx, a, dx, fs, rfl, ea, prom⟩
  cases rx
  obtain ⟨mA, O, _⟩ := ins_get I1.hok ea
  obtain ⟨od, J, _⟩ := O.look
  obtain ⟨rest, rec_⟩ := prop.rec_
  have short : [Value.ref a].length = ps.length := (F.len _ _ _ _ prom).symm ▸ rfl
  have isCls : (PySem.W.clsIn X.K C).isSome = true := by
    obtain ⟨cd, e, _⟩ := PySem.W.any_some cls.hd
    rw [e]
    rfl
  refine PySem.W.get_bind I1.kIn J (PySem.W.plainGet_of (cls.get m)).1 (PySem.W.findObj_data isCls prop.at_ prop.get prop.tak) (PySem.W.plainGet_of (cls.get m)).2 (wpAny_call (PySem.W.prop_get (s := { s1 with toks := s1.toks + 1 }) I1.kIn rec_ ?_))
  have I2 := I1.tok (s1.toks + 1)
  refine codeAny_mono (F.run X.A.in1 X.stack _ H1 ⟨[.ref a], []⟩ [.ref a] [.ref a] Q E0 (hr.low hk).one I2.env0.in1 (by simpa using bind _ [.ref a] I2.kIn (by simpa using short)) (.cons rfl .nil) prom) ?_
  intro r s2 out
  cases r with
  | error er => exact (passL (X := X.nox) pins σ H1 _ er s2 (I2.wish _) out).elim
  | ok flow =>
    cases flow with
    | ret v =>
      obtain ⟨y, H2, I3, ry, qy⟩ := I2.after out
      have given := PySem.W.handedOut_of (handed_of ry)
      show wpAny _ _ (handedOut v) _ _ s2
      rw [given]
      exact wpAny_pure ⟨y, H2, I3, ry, qy⟩
    | next => exact out.elim
    | brk => exact out.elim
    | cont => exact out.elim
end
theorem Sep.news {M : List Addr} {H0 G0 G H H' : Hp} {O : List Addr} (S : Sep M H0 G0 G H O) (e : Same H H') (L : List Addr) (hL : ∀ a ∈ L, H a = none ∧ H' a ≠ none ∧ H0 a = none) : Sep M H0 G0 G H' (L ++ O) := by
  have S2 := S.same e
  refine ⟨S2.base, S2.pm, S2.sG, S2.g0, S2.gn, fun a ha => ?_⟩
  rcases List.mem_append.mp ha with h | h
  · obtain ⟨h1, h2, h3⟩ := hL a h
    exact ⟨S.gfree h1, h2, .inr h3⟩
  · exact S2.ow a h
theorem vv_chain {r r' : R2} {ta tb tc : TE} {σ : L2.St} {H : Hp} {x y z : V} {a b : Bool} (ha : Val ta σ H x) (hb : Val tb σ H y) (hc : Val tc σ H z) (h1 : ∀ Q : VK, Q (.bl a) H → r x y H Q) (h2 : ∀ Q : VK, Q (.bl b) H → r' y z H Q) :
    Val (tChain r r' ta tb tc) σ H (.bl (a && b)) := fun Q q => ha _ (hb _ (h1 _ ⟨a, rfl, by
  cases a with
  | true =>
    rw [if_pos rfl]
    exact hc _ (h2 _ q)
  | false =>
    rw [if_neg Bool.false_ne_true]
    exact q⟩))
/-! ### constants that are tuples, lists backwards, zip -/
theorem inV_ints (x : Int) : ∀ xs : List Int, inV (V.int x) (xs.map V.int) = decide (x ∈ xs)
  | [] => by simp [inV]
  | y :: r => by
    have h := inV_ints x r
    unfold inV at h ⊢
    rw [List.map_cons, List.any_cons, h]
    by_cases c : x = y
    · subst c
      simp [eqV]
    · simp [eqV, c, Ne.symm c]
theorem flat_ints : ∀ xs : List Int, (xs.map V.int).all flatV = true
  | [] => rfl
  | _ :: r => flat_ints r
def rInI (K : PySem.W.Frag) : R2 := fun x y H Q => ∃ (i : Int) (p : Addr) (xs : List Int), x = .int i ∧ y = .ref p ∧ (SqL K H p (xs.map V.int) ∨ SqT K H p (xs.map V.int)) ∧ Q (.bl (decide (i ∈ xs))) H
def rNotInI (K : PySem.W.Frag) : R2 := fun x y H Q => ∃ (i : Int) (p : Addr) (xs : List Int), x = .int i ∧ y = .ref p ∧ (SqL K H p (xs.map V.int) ∨ SqT K H p (xs.map V.int)) ∧ Q (.bl (!decide (i ∈ xs))) H
theorem op_inI {X : Cx} {K : PySem.W.Frag} (hK : X.K = K := by rfl) : OpR X (compareOp .In) (rInI K) := by
  subst hK
  intro pins s σ H x y v u Q I rx ry h
  obtain ⟨i, p, xs, rfl, rfl, hs, q⟩ := h
  refine op_in_seq pins s σ H _ _ v u Q I rx ry ⟨p, _, rfl, hs, rfl, flat_ints xs, ?_⟩
  rw [if_neg Bool.false_ne_true, inV_ints]
  exact q
theorem op_notInI {X : Cx} {K : PySem.W.Frag} (hK : X.K = K := by rfl) : OpR X (compareOp .NotIn) (rNotInI K) := by
  subst hK
  intro pins s σ H x y v u Q I rx ry h
  obtain ⟨i, p, xs, rfl, rfl, hs, q⟩ := h
  refine op_notIn_seq pins s σ H _ _ v u Q I rx ry ⟨p, _, rfl, hs, rfl, flat_ints xs, ?_⟩
  rw [if_pos rfl, inV_ints]
  exact q
theorem pe_revLK {X : Cx} {K : PySem.W.Frag} {e : Expr} {te : TE} {k : Nat} {p1 p2 p3 pos : Pos} (he : PE X e te) (hK : X.K = K := by rfl) : PE X (.Subscript e (.Slice none none (some (.UnaryOp .USub (.Constant (.int 1) k p1) p2)) p3) pos) (tRevL K te) := hK ▸ pe_revL he
theorem rev_map {α : Type} {f : α → V} {xs : List α} {H : Hp} {p : Addr} (h : H p = some (.lst (xs.map f).reverse)) : H p = some (.lst (xs.reverse.map f)) := by
  rw [List.map_reverse]
  exact h
theorem RpAll.rev {G : Hp} : ∀ {vs : List V} {ds : List PyData}, RpAll G vs ds → RpAll G vs.reverse ds.reverse
  | _, _, .nil => .nil
  | _, _, .cons h t => by
    rw [List.reverse_cons, List.reverse_cons]
    exact (RpAll.rev t).append (.one h)
theorem rev_all {α : Type} {f : α → PyData} {xs : List α} {G : Hp} {vs : List V} (a : RpAll G vs (xs.map f)) : RpAll G vs.reverse (xs.reverse.map f) := by
  rw [List.map_reverse]
  exact a.rev
theorem pi_zipK {X : Cx} {K : PySem.W.Frag} {e e2 : Expr} {ta : TA} {p pos tpos : Pos} {elts : List Expr} {kk : Nat} (hg : Gl X "zip") (hm : X.mg "zip" = none) (ha : PA X [e, e2] ta) (hK : X.K = K := by rfl)
    (hs : starEach [e, e2] X.env = (false, eval e X.env) :: starEach [e2] X.env := by rfl) (hpl : (backTo pos (starEach [e2] X.env)).any (·.1) = false := by rfl) :
    PI X (.Tuple elts kk tpos) (.Call (.Name "zip" p) [e, e2] [] pos) (RZ.iZipA K ta) := hK ▸ RZ.pi_zipA hg hm ha hs hpl
/-- a comprehension over zip of two lists of one length -/
theorem lc_zipL {K : PySem.W.Frag} {a b : Addr} {xs ys : List V} {g : TG} {tt : TT} {te : TE} {vs : List Nat} {σ : L2.St} {H1 : Hp} {D : Addr} {Qd : Hp → Prop} (hl : xs.length = ys.length) (Pv : Nat → Hp → Prop) (h0 : Pv 0 (upd H1 D (.lst []))) (hq : ∀ i H, i ≤ xs.length → Pv i H → SqL K H a xs ∧ SqL K H b ys)
    (hs : ∀ (i : Nat) (x y : V) (T : Addr) (H : Hp), xs[i]? = some x → ys[i]? = some y → H T = none → Pv i H → g (.ref T) (wipe σ vs) (upd H T (.tup [x, y])) fun σ2 H2 => wipe σ2 vs = wipe σ vs ∧ tt σ2 H2 fun b H3 =>
      if b = true then te σ2 H3 fun y H4 => ∃ acc, H4 D = some (.lst acc) ∧ acc.length < sizeLine ∧ Pv (i + 1) (upd H4 D (.lst (acc ++ [y]))) else Pv (i + 1) H3) (hd : ∀ H, Pv xs.length H → Qd H) :
    ∃ W : Nat → Nat → Hp → Prop, (∃ m, W 0 m (upd H1 D (.lst []))) ∧ ∀ i m H, W i m H →
      ((Itz K a b).stop i H ∧ Qd H) ∨ ((Itz K a b).go i H ∧ ∃ Nx : Hp → Prop, (∀ H', Nx H' → ∃ m', m' < m ∧ W (i + 1) m' H') ∧ ∀ x H', (Itz K a b).yld i H x H' → g x (wipe σ vs) H' fun σ2 H2 => wipe σ2 vs = wipe σ vs ∧ tt σ2 H2 fun b H3 =>
        if b = true then te σ2 H3 fun y H4 => ∃ acc, H4 D = some (.lst acc) ∧ acc.length < sizeLine ∧ Nx (upd H4 D (.lst (acc ++ [y]))) else Nx H3) := by
  refine ⟨fun i m H => m = xs.length - i ∧ i ≤ xs.length ∧ Pv i H, ⟨xs.length, by simp, Nat.zero_le _, h0⟩, ?_⟩
  rintro i m H ⟨rfl, hi, p⟩
  obtain ⟨qx, qy⟩ := hq i H hi p
  by_cases hlt : i < xs.length
  · have hlt2 : i < ys.length := by omega
    refine .inr ⟨⟨xs, ys, xs[i], ys[i], qx, qy, List.getElem?_eq_getElem hlt, List.getElem?_eq_getElem hlt2⟩, Pv (i + 1), fun H' p' => ⟨xs.length - (i + 1), by omega, rfl, hlt, p'⟩, fun v H' y => ?_⟩
    obtain ⟨T, x', y', rfl, hT, rfl, f1, f2⟩ := y
    exact hs i x' y' T H (f1 xs qx) (f2 ys qy) hT p
  · have e : i = xs.length := by omega
    subst e
    exact .inl ⟨⟨xs, ys, qx, qy, Or.inl (Nat.le_refl _)⟩, hd H p⟩
theorem zip_get {α β : Type} {xs : List α} {ys : List β} {i : Nat} {x : α} {y : β} (h1 : xs[i]? = some x) (h2 : ys[i]? = some y) : (xs.zip ys)[i]? = some (x, y) := by
  rw [List.getElem?_zip_eq_some]
  exact ⟨h1, h2⟩
theorem zip_len {α β : Type} {xs : List α} {ys : List β} {n : Nat} (h : xs.length = ys.length) (e : n = xs.length) : n = (xs.zip ys).length := by
  rw [List.length_zip, ← h, Nat.min_self]
  exact e
theorem zlen {α β : Type} {vs ws : List V} {xs : List α} {ys : List β} (a : vs.length = xs.length) (b : ws.length = ys.length) (h : xs.length = ys.length) : vs.length = ws.length := by rw [a, b, h]
section
variable {t : TT} {ta tb : TE} {σ : L2.St} {H : Hp}
theorem vv_ifP {p : Prop} [Decidable p] {a b : Int} (ht : Ans t σ H (decide p)) (hx : p → Val ta σ H (.int a)) (hy : ¬ p → Val tb σ H (.int b)) : Val (tIf t ta tb) σ H (.int (if p then a else b)) := by
  by_cases h : p
  · have := vv_if (p := p) (a := a) (b := a) ht (hx h) (tb := ta) (hx h)
    intro Q q
    refine ht _ ?_
    rw [decide_eq_true h, if_pos rfl]
    rw [if_pos h] at q
    exact hx h _ q
  · intro Q q
    refine ht _ ?_
    rw [decide_eq_false h, if_neg Bool.false_ne_true]
    rw [if_neg h] at q
    exact hy h _ q
theorem vv_ifQ {c : Bool} {a b : Int} (ht : Ans t σ H c) (hx : c = true → Val ta σ H (.int a)) (hy : c = false → Val tb σ H (.int b)) : Val (tIf t ta tb) σ H (.int (if c = true then a else b)) := by
  intro Q q
  refine ht _ ?_
  cases c with
  | true =>
    rw [if_pos rfl]
    rw [if_pos rfl] at q
    exact hx rfl _ q
  | false =>
    rw [if_neg Bool.false_ne_true]
    rw [if_neg Bool.false_ne_true] at q
    exact hy rfl _ q
end
theorem kit_mk0 {K : PySem.W.Frag} {S C : Addr} (h1 : (Value.ref S == Value.ref C) = false) (h2 : PySem.W.isClsIn K C = true) (h3 : PySem.W.typeIn K (.ref C) = some (.type "type")) (h4 : PySem.W.subIn K (.ref S) (.ref C) = some false) :
    PySem.W.kitOne K (.ref S) (.ref C) = some false := by
  unfold PySem.W.isClsIn at h2
  unfold PySem.W.kitOne
  rw [if_neg (by rw [h1]; exact Bool.false_ne_true)]
  unfold PySem.W.kitCls
  simp only [h2, h3, h4, beq_self_eq_true, Bool.and_self, if_true]
theorem vv_call2 {ta tb : TE} {σ : L2.St} {H : Hp} {x y z : V} {r : List V → Hp → VK → Prop} (ha : Val ta σ H x) (hb : Val tb σ H y) (hr : ∀ Q : VK, Q z H → r [x, y] H Q) : Val (tCB r (tCons ta (tCons tb tNil))) σ H z := fun Q q => ha _ (hb _ (hr Q q))
/-! ### lists of data that the caller owns; values that are a truth value or a number -/
theorem Sep.stepnew {M : List Addr} {H0 G0 G H H' : Hp} {O : List Addr} {p : Addr} {o : HO} (S : Sep M H0 G0 G H O) {G' : Hp} (e : Same H H') (eG : Same G G') (sG : Same G' H') (hn : ∀ b, H b ≠ none → G b = none → G' b = none) (_n : H p = none) (h : H' p = some o) (g : G' p = none) (hm : H0 p = none) : Sep M H0 G0 G' H' (p :: O) := by
  have S2 := S.step e eG sG hn
  refine ⟨S2.base, S2.pm, S2.sG, S2.g0, S2.gn, fun a ha => ?_⟩
  rcases List.mem_cons.mp ha with rfl | ha
  · exact ⟨g, (fun z => by rw [z] at h; cases h), .inr hm⟩
  · exact S2.ow a ha
inductive Bi where
  | b (x : Bool)
  | n (i : Int)
deriving DecidableEq
def biV : Bi → V
  | .b x => .bl x
  | .n i => .int i
def Bi.el {α : Type} (v : Bi) (f : Bool → α) (g : Int → α) : α :=
  match v with
  | .b x => f x
  | .n i => g i
theorem cW_elb {α : Type} {x : Bool} {f : Bool → Rx α} {g : Int → Rx α} {K : α → Prop} {E : Nat → Prop} (h : cW (Bi.el (.b x) f g) K E) : cW (f x) K E := h
theorem cW_eln {α : Type} {x : Int} {f : Bool → Rx α} {g : Int → Rx α} {K : α → Prop} {E : Nat → Prop} (h : cW (Bi.el (.n x) f g) K E) : cW (g x) K E := h
theorem rp_tup4 {α β γ δ : Type} {f : α → PyData} {g : β → PyData} {h : γ → PyData} {i : δ → PyData} {H : Hp} {v : V} {x : α × β × γ × δ} (r : Rp H v (encT4 f g h i x)) : ∃ a v1 v2 v3 v4, v = .ref a ∧ H a = some (.tup [v1, v2, v3, v4]) ∧ Rp H v1 (f x.1) ∧ Rp H v2 (g x.2.1) ∧ Rp H v3 (h x.2.2.1) ∧ Rp H v4 (i x.2.2.2) := by
  unfold encT4 at r
  cases r with
  | tup h1 h2 =>
    cases h2 with
    | cons a b =>
      cases b with
      | cons b c =>
        cases c with
        | cons c d =>
          cases d with
          | cons d e =>
            cases e
            exact ⟨_, _, _, _, _, rfl, h1, a, b, c, d⟩
theorem rp_mk4 {α β γ δ : Type} {f : α → PyData} {g : β → PyData} {h : γ → PyData} {i : δ → PyData} {H : Hp} {a : Addr} {v1 v2 v3 v4 : V} {x : α} {y : β} {z : γ} {w : δ} (h1 : H a = some (.tup [v1, v2, v3, v4])) (r1 : Rp H v1 (f x)) (r2 : Rp H v2 (g y)) (r3 : Rp H v3 (h z)) (r4 : Rp H v4 (i w)) : Rp H (.ref a) (encT4 f g h i (x, y, z, w)) := .tup h1 (.cons r1 (.cons r2 (.cons r3 (.cons r4 .nil))))
theorem Sep.b0M {M : List Addr} {H0 G0 G H : Hp} {O : List Addr} (S : Sep M H0 G0 G H O) (h : ∀ a ∈ M, H a = H0 a) : Same H0 H := fun b o e => by
  by_cases z : b ∈ M
  · rw [h b z]
    exact e
  · exact S.base b o e z
section
variable {X : Cx} {k j n : Nat} {f C : Addr} {fd : FuncData} {ps ks : List Str} {g : List V → List V → List V} {sp : Sp} {x m : Str} {pos p apos : Pos} {e o : Expr} {es : List Expr} {kws : List Keyword} {ta : TE} {t tk : TA} {W : WX}
/-- keywords alone -/
theorem vx_makeXK {pats : List Pat} (c : MakX X.prog X.w X.K X.mg X.base k x C sp pats) (pt : Pat) (hpt : pt ∈ pats) (hr : RoomG j X.A) (hk : k + 1 ≤ j) (tkW : Takes X W) (hg : Gl X x) (hkw : PK X kws tk)
    (hall : (backToKw pos (keywordEach kws X.env)).all (·.1.isSome) = true := by rfl) (hks : (backToKw pos (keywordEach kws X.env)).filterMap (·.1) = pt.2.1 := by rfl) (hdb : (x == ("__debug__" : Str)) = false := by decide)
    (hpl : ((backTo pos (starEach [] X.env)).any (·.1) || (backToKw pos (keywordEach kws X.env)).any (·.1.isNone)) = false := by rfl) :
    PE X (.Call (.Name x p) [] kws pos) (tMakeX C pt.1 pt.2.1.length sp pt.2.2 W tNil tk) := by
  obtain ⟨f, fd, ps, M, F, hm, b⟩ := c.ex
  refine ⟨fun pins s σ H Q I h => ?_⟩
  refine wpAny_Call_Name_kw (ld_glob I hg hm ?_ hdb)
  refine PySem.W.callWith_KW0 (h₀ := X.base) I.ok.mod.kin M.kp hall ?_ hpl
  refine thn (hkw.run pos pins s σ H _ I h) fun ws s2 ⟨zs, H2, I2, rz, l1, l2, q2⟩ => ⟨I2.kIn, ?_⟩
  rw [hks]
  exact run_mkX (us := []) (vs := []) M F (hr.low hk) (b pt hpt) tkW I2 .nil rz l1 l2 q2
theorem vx_callXK {pats : List Pat} (c : CalX X.prog X.w X.K X.mg X.base k x sp pats) (pt : Pat) (hpt : pt ∈ pats) (hr : RoomG j X.A) (hk : k ≤ j) (tkW : Takes X W) (hg : Gl X x) (hkw : PK X kws tk)
    (hall : (backToKw pos (keywordEach kws X.env)).all (·.1.isSome) = true := by rfl) (hks : (backToKw pos (keywordEach kws X.env)).filterMap (·.1) = pt.2.1 := by rfl) (hdb : (x == ("__debug__" : Str)) = false := by decide)
    (hpl : ((backTo pos (starEach [] X.env)).any (·.1) || (backToKw pos (keywordEach kws X.env)).any (·.1.isNone)) = false := by rfl) :
    PE X (.Call (.Name x p) [] kws pos) (tCallX pt.1 pt.2.1.length sp pt.2.2 W tNil tk) := by
  obtain ⟨f, fd, ps, F, hm, kp, b⟩ := c.ex
  refine ⟨fun pins s σ H Q I h => ?_⟩
  refine wpAny_Call_Name_kw (ld_glob I hg hm ?_ hdb)
  refine PySem.W.callWith_KW0 (h₀ := X.base) I.ok.mod.kin kp hall ?_ hpl
  refine thn (hkw.run pos pins s σ H _ I h) fun ws s2 ⟨zs, H2, I2, rz, l1, l2, q2⟩ => ⟨I2.kIn, ?_⟩
  rw [hks]
  exact run_X (us := []) (vs := []) F (hr.low hk) (b pt hpt) tkW I2 .nil rz l1 l2 q2
theorem vx_methXK {pats : List Pat} {pl : Sem Bool} (c : MetX X.prog X.w X.K X.mg X.base k C m sp pats) (pt : Pat) (hpt : pt ∈ pats) (hr : RoomG j X.A) (hk : k ≤ j) (tkW : Takes X W) (he : PE X o ta) (hkw : PK X kws tk)
    (hall : (backToKw pos (keywordEach kws X.env)).all (·.1.isSome) = true := by rfl) (hks : (backToKw pos (keywordEach kws X.env)).filterMap (·.1) = pt.2.1 := by rfl)
    (hpl : ((backTo pos (starEach [] X.env)).any (·.1) || (backToKw pos (keywordEach kws X.env)).any (·.1.isNone)) = false := by rfl)
    (ht : eval (.Call (.Attribute o m apos) [] kws pos) X.env = (do
      let ov ← eval o X.env
      standAt apos.atName
      let (f, first) ← holding [ov] (getMethod ov m pl)
      callWith pos f first (backTo pos (starEach [] X.env)) (backToKw pos (keywordEach kws X.env))) := by rfl) :
    PE X (.Call (.Attribute o m apos) [] kws pos) (tMethX C m pt.1 pt.2.1.length sp pt.2.2 W ta tNil tk) := by
  obtain ⟨f, fd, ps, hc, hm, F, b⟩ := c.ex
  refine ⟨fun pins s σ H Q I h => ?_⟩
  refine PySem.W.methodCall_KW (pl := pl) (thn (he.run pins s σ H _ I h) fun u s1 ⟨x, H1, I1, rx, a, dx, fs, ex, ea, l, q⟩ => ?_) ht
  subst ex
  obtain rfl : u = Value.ref a := rx
  refine getmeth_ok I1 ea hc hm l ?_
  refine PySem.W.callWith_KW0 (first := [.ref a]) (h₀ := X.base) I.ok.mod.kin hm.kp hall ?_ hpl
  refine thn (hkw.run pos pins s1 σ H1 _ I1 q) fun ws s3 ⟨zs, H3, I3, rz, l1, l2, q3⟩ => ⟨I3.kIn, ?_⟩
  rw [hks]
  exact run_X (us := [.ref a]) (vs := [.ref a]) F (hr.low hk) (b pt hpt) tkW I3 (.cons rfl .nil) rz l1 l2 q3
end
end Vx
/-! # lists within lists that are owned as a whole -/
namespace Vx
open PySem PySem.Spec PyProof.Rows L2
inductive Kd where
  | lst
  | tup
  | ins (C dx : Addr) (ns : List Str)
def Kd.ho : Kd → List V → HO
  | .lst, vs => .lst vs
  | .tup, vs => .tup vs
  | .ins C dx ns, vs => .ins C dx (ns.zip vs)
/-- what stands in the heap as a tree: values as they are, data that stay, nodes of its own -/
inductive Dt where
  | val (v : V)
  | frz (d : PyData)
  | nod (k : Kd) (xs : List Dt)
mutual
inductive Ow (G H : Hp) : List Addr → V → Dt → Prop
  | val (v : V) : Ow G H [] v (.val v)
  | frz {v : V} {d : PyData} : Rp G v d → Ow G H [] v (.frz d)
  | nod {a : Addr} {k : Kd} {vs : List V} {ds : List Dt} {L : List Addr} : H a = some (k.ho vs) → OwAll G H L vs ds → a ∉ L → Ow G H (a :: L) (.ref a) (.nod k ds)
inductive OwAll (G H : Hp) : List Addr → List V → List Dt → Prop
  | nil : OwAll G H [] [] []
  | cons {L1 L2 : List Addr} {v : V} {vs : List V} {d : Dt} {ds : List Dt} : Ow G H L1 v d → OwAll G H L2 vs ds → (∀ b ∈ L1, b ∉ L2) → OwAll G H (L1 ++ L2) (v :: vs) (d :: ds)
end
def Keeps (L : List Addr) (H H' : Hp) : Prop := ∀ b ∈ L, ∀ o, H b = some o → H' b = some o
mutual
theorem Ow.mono {G G' H H' : Hp} (e : Same G G') : ∀ {L : List Addr} {v : V} {d : Dt}, Keeps L H H' → Ow G H L v d → Ow G' H' L v d
  | _, _, _, _, .val v => .val v
  | _, _, _, _, .frz r => .frz (r.mono e)
  | _, _, _, k, .nod h r n => .nod (k _ List.mem_cons_self _ h) (OwAll.mono e (fun b hb => k b (List.mem_cons_of_mem _ hb)) r) n
theorem OwAll.mono {G G' H H' : Hp} (e : Same G G') : ∀ {L : List Addr} {vs : List V} {ds : List Dt}, Keeps L H H' → OwAll G H L vs ds → OwAll G' H' L vs ds
  | _, _, _, _, .nil => .nil
  | _, _, _, k, .cons a r d => .cons (Ow.mono e (fun b hb => k b (List.mem_append_left _ hb)) a) (OwAll.mono e (fun b hb => k b (List.mem_append_right _ hb)) r) d
end
mutual
theorem Ow.there {G H : Hp} : ∀ {L : List Addr} {v : V} {d : Dt}, Ow G H L v d → ∀ b ∈ L, H b ≠ none
  | _, _, _, .val _, _, hb => nomatch hb
  | _, _, _, .frz _, _, hb => nomatch hb
  | _, _, _, .nod h r n, b, hb => by
    rcases List.mem_cons.mp hb with rfl | hb
    · exact some_ne h
    · exact OwAll.there r b hb
theorem OwAll.there {G H : Hp} : ∀ {L : List Addr} {vs : List V} {ds : List Dt}, OwAll G H L vs ds → ∀ b ∈ L, H b ≠ none
  | _, _, _, .nil, _, hb => nomatch hb
  | _, _, _, .cons a r d, b, hb => by
    rcases List.mem_append.mp hb with hb | hb
    · exact Ow.there a b hb
    · exact OwAll.there r b hb
end
theorem OwAll.len {G H : Hp} : ∀ {L : List Addr} {vs : List V} {ds : List Dt}, OwAll G H L vs ds → vs.length = ds.length
  | _, _, _, .nil => rfl
  | _, _, _, .cons _ r _ => congrArg Nat.succ r.len
theorem OwAll.snoc {G H : Hp} {L1 : List Addr} {v : V} {d : Dt} (h : Ow G H L1 v d) : ∀ {L : List Addr} {vs : List V} {ds : List Dt}, OwAll G H L vs ds → (∀ b ∈ L, b ∉ L1) → OwAll G H (L ++ L1) (vs ++ [v]) (ds ++ [d])
  | _, _, _, .nil, _ => by
    have z : OwAll G H (L1 ++ []) [v] [d] := .cons h .nil (fun _ _ z => nomatch z)
    rw [List.append_nil] at z
    exact z
  | _, _, _, .cons (L1 := La) (L2 := Lb) a r n, k => by
    have z := OwAll.cons a (OwAll.snoc h r fun b hb => k b (List.mem_append_right _ hb)) (fun b hb q => by
      rcases List.mem_append.mp q with q | q
      · exact n b hb q
      · exact k b (List.mem_append_left _ hb) q)
    rw [← List.append_assoc] at z
    exact z
theorem OwAll.app {G H : Hp} {L2 : List Addr} {ws : List V} {es : List Dt} (h : OwAll G H L2 ws es) : ∀ {L : List Addr} {vs : List V} {ds : List Dt}, OwAll G H L vs ds → (∀ b ∈ L, b ∉ L2) → OwAll G H (L ++ L2) (vs ++ ws) (ds ++ es)
  | _, _, _, .nil, _ => h
  | _, _, _, .cons (L1 := La) (L2 := Lb) a r n, k => by
    have z := OwAll.cons a (OwAll.app h r fun b hb => k b (List.mem_append_right _ hb)) (fun b hb q => by
      rcases List.mem_append.mp q with q | q
      · exact n b hb q
      · exact k b (List.mem_append_left _ hb) q)
    rw [← List.append_assoc] at z
    exact z
/-! ### trees that are data -/
mutual
inductive Dd : Dt → PyData → Prop
  | non : Dd (.val .non) .none
  | bl (b : Bool) : Dd (.val (.bl b)) (.bool b)
  | int (i : Int) : Dd (.val (.int i)) (.int i)
  | str (x : Str) : Dd (.val (.str x)) (.str x)
  | frz (d : PyData) : Dd (.frz d) d
  | lst {xs : List Dt} {ds : List PyData} : DdAll xs ds → Dd (.nod .lst xs) (.list ds)
  | tup {xs : List Dt} {ds : List PyData} : DdAll xs ds → Dd (.nod .tup xs) (.tuple ds)
inductive DdAll : List Dt → List PyData → Prop
  | nil : DdAll [] []
  | cons {x : Dt} {xs : List Dt} {d : PyData} {ds : List PyData} : Dd x d → DdAll xs ds → DdAll (x :: xs) (d :: ds)
end
mutual
/-- read in any heap that holds its nodes -/
theorem Ow.rp {G H I : Hp} (e : Same G I) : ∀ {L : List Addr} {v : V} {d : Dt} {p : PyData}, Keeps L H I → Ow G H L v d → Dd d p → Rp I v p
  | _, _, _, _, _, .val _, .non => .non
  | _, _, _, _, _, .val _, .bl b => .bl b
  | _, _, _, _, _, .val _, .int i => .int i
  | _, _, _, _, _, .val _, .str x => .str x
  | _, _, _, _, _, .frz r, .frz _ => r.mono e
  | _, _, _, _, k, .nod h r _, .lst q => .lst (k _ List.mem_cons_self _ h) (OwAll.rp e (fun b hb => k b (List.mem_cons_of_mem _ hb)) r q)
  | _, _, _, _, k, .nod h r _, .tup q => .tup (k _ List.mem_cons_self _ h) (OwAll.rp e (fun b hb => k b (List.mem_cons_of_mem _ hb)) r q)
theorem OwAll.rp {G H I : Hp} (e : Same G I) : ∀ {L : List Addr} {vs : List V} {ds : List Dt} {ps : List PyData}, Keeps L H I → OwAll G H L vs ds → DdAll ds ps → RpAll I vs ps
  | _, _, _, _, _, .nil, .nil => .nil
  | _, _, _, _, k, .cons a r _, .cons x xs => .cons (Ow.rp e (fun b hb => k b (List.mem_append_left _ hb)) a x) (OwAll.rp e (fun b hb => k b (List.mem_append_right _ hb)) r xs)
end
def oI (i : Int) : Dt := .val (.int i)
def oB (b : Bool) : Dt := .val (.bl b)
def oF {α : Type} (f : α → PyData) (x : α) : Dt := .frz (f x)
def oL {α : Type} (f : α → Dt) (xs : List α) : Dt := .nod .lst (xs.map f)
def EncO {α : Type} (f : α → Dt) (g : α → PyData) : Prop := ∀ x, Dd (f x) (g x)
theorem encO_I : EncO oI PyData.int := fun i => .int i
theorem encO_B : EncO oB PyData.bool := fun i => .bl i
theorem encO_F {α : Type} {f : α → PyData} : EncO (oF f) f := fun _ => .frz _
theorem EncO.all {α : Type} {f : α → Dt} {g : α → PyData} (h : EncO f g) : ∀ xs : List α, DdAll (xs.map f) (xs.map g)
  | [] => .nil
  | x :: xs => .cons (h x) (EncO.all h xs)
theorem encO_L {α : Type} {f : α → Dt} {g : α → PyData} (h : EncO f g) : EncO (oL f) (encL g) := fun xs => .lst (h.all xs)
theorem keeps_same {L : List Addr} {H H' : Hp} (e : Same H H') : Keeps L H H' := fun b _ o q => e b o q
theorem keeps_refl {L : List Addr} {H : Hp} : Keeps L H H := fun _ _ _ q => q
theorem keeps_mut {L : List Addr} {H H' : Hp} {m : Addr} (x : SameX m H H') (n : ∀ b ∈ L, b ≠ m) : Keeps L H H' := fun b hb o q => x b o q (n b hb)
theorem keeps_muts {L M : List Addr} {H H' : Hp} (x : SameXs M H H') (n : ∀ b ∈ L, b ∉ M) : Keeps L H H' := fun b hb o q => x b o q (n b hb)
theorem keeps_hide {L M : List Addr} {H : Hp} (n : ∀ b ∈ L, b ∉ M) : Keeps L H (hideL M H) := fun b hb o q => by
  rw [hideL_out (n b hb)]
  exact q
section
variable {α : Type} {f : α → Dt} {g : α → PyData} {G H I : Hp} {L : List Addr} {vs : List V} {xs : List α}
theorem OwAll.rpA (w : OwAll G H L vs (xs.map f)) (h : EncO f g) (e : Same G H) : RpAll H vs (xs.map g) := OwAll.rp e keeps_refl w (h.all xs)
theorem OwAll.rpH (w : OwAll G H L vs (xs.map f)) (h : EncO f g) (e : Same G I) (k : Keeps L H I) : RpAll I vs (xs.map g) := OwAll.rp e k w (h.all xs)
theorem OwAll.lenM (w : OwAll G H L vs (xs.map f)) : vs.length = xs.length := by rw [w.len, List.length_map]
theorem OwAll.snocM {L1 : List Addr} {v : V} {y : α} (w : OwAll G H L vs (xs.map f)) (h : Ow G H L1 v (f y)) (n : ∀ b ∈ L, b ∉ L1) : OwAll G H (L ++ L1) (vs ++ [v]) ((xs ++ [y]).map f) := by
  rw [List.map_append]
  exact OwAll.snoc h w n
theorem Ow.ints {a : Addr} {ys : List Int} (h : H a = some (.lst (ys.map V.int))) : Ow G H [a] (.ref a) (oL oI ys) := by
  have z : ∀ ys : List Int, OwAll G H [] (ys.map V.int) (ys.map oI) := fun ys => by
    induction ys with
    | nil => exact .nil
    | cons y r ih => exact .cons (L1 := []) (L2 := []) (.val _) ih (fun _ z => nomatch z)
  exact .nod (k := .lst) h (z ys) (fun z => nomatch z)
theorem Ow.list {a : Addr} {xs : List α} {L : List Addr} {vs : List V} (h : H a = some (.lst vs)) (w : OwAll G H L vs (xs.map f)) (n : ∀ b ∈ L, b ≠ a) : Ow G H (a :: L) (.ref a) (oL f xs) := .nod (k := .lst) h w (fun z => n a z rfl)
theorem Ow.toList {v : V} {L : List Addr} {xs : List α} (w : Ow G H L v (oL f xs)) : ∃ a vs L', v = .ref a ∧ L = a :: L' ∧ H a = some (.lst vs) ∧ OwAll G H L' vs (xs.map f) ∧ ∀ b ∈ L', b ≠ a := by
  unfold oL at w
  cases w with
  | nod h r n => exact ⟨_, _, _, rfl, rfl, h, r, fun b hb z => n (z ▸ hb)⟩
theorem OwAll.toInts : ∀ {L : List Addr} {vs : List V} {xs : List Int}, OwAll G H L vs (xs.map oI) → L = [] ∧ vs = xs.map V.int
  | _, _, [], .nil => ⟨rfl, rfl⟩
  | _, _, x :: xs, .cons a r _ => by
    obtain ⟨h1, h2⟩ := OwAll.toInts r
    cases a
    exact ⟨by rw [h1] <;> rfl, by rw [h2] <;> rfl⟩
theorem Ow.toInts {v : V} {L : List Addr} {xs : List Int} (w : Ow G H L v (oL oI xs)) : ∃ a, v = .ref a ∧ L = [a] ∧ H a = some (.lst (xs.map V.int)) := by
  obtain ⟨a, vs, L', rfl, rfl, h, r, _⟩ := w.toList
  obtain ⟨rfl, rfl⟩ := r.toInts
  exact ⟨a, rfl, rfl, h⟩
/-- the part at a place, and how a change of it alone changes the whole -/
theorem OwAll.part : ∀ {L : List Addr} {vs : List V} {ds : List Dt} {i : Nat} {d : Dt}, OwAll G H L vs ds → ds[i]? = some d → ∃ v L1, vs[i]? = some v ∧ Ow G H L1 v d ∧ (∀ b ∈ L1, b ∈ L) ∧
    ∀ H' d', (∀ b ∈ L, b ∉ L1 → ∀ o, H b = some o → H' b = some o) → Ow G H' L1 v d' → OwAll G H' L vs (ds.set i d')
  | _, _, _, _, _, .nil, h => by simp at h
  | _, _, _, 0, _, .cons (L1 := La) (L2 := Lb) a r n, h => by
    simp at h
    subst h
    refine ⟨_, La, rfl, a, fun b hb => List.mem_append_left _ hb, fun H' d' k w => ?_⟩
    exact .cons w (OwAll.mono (Same.refl G) (fun b hb => k b (List.mem_append_right _ hb) fun z => n b z hb) r) n
  | _, _, _, i + 1, _, .cons (L1 := La) (L2 := Lb) a r n, h => by
    obtain ⟨v, L1, h1, h2, h3, h4⟩ := OwAll.part (i := i) r (by simpa using h)
    refine ⟨v, L1, by simpa using h1, h2, fun b hb => List.mem_append_right _ (h3 b hb), fun H' d' k w => ?_⟩
    refine .cons (Ow.mono (Same.refl G) (fun b hb => k b (List.mem_append_left _ hb) fun z => n b hb (h3 b z)) a) (h4 H' d' (fun b hb nb => k b (List.mem_append_right _ hb) nb) w) n
/-- the same, where the part grows: its new footprint is the old one and what is new -/
theorem OwAll.part2 : ∀ {L : List Addr} {vs : List V} {ds : List Dt} {i : Nat} {d : Dt}, OwAll G H L vs ds → ds[i]? = some d → ∃ v L1, vs[i]? = some v ∧ Ow G H L1 v d ∧ (∀ b ∈ L1, b ∈ L) ∧
    (∀ H' d', (∀ b ∈ L, b ∉ L1 → ∀ o, H b = some o → H' b = some o) → Ow G H' L1 v d' → OwAll G H' L vs (ds.set i d')) ∧
    ∀ H' d' Fv L1', (∀ b ∈ L, b ∉ L1 → ∀ o, H b = some o → H' b = some o) → (∀ b ∈ L1', b ∈ L1 ++ Fv) → (∀ b ∈ Fv, b ∉ L) → Ow G H' L1' v d' → ∃ L', (∀ b ∈ L', b ∈ L ++ Fv) ∧ OwAll G H' L' vs (ds.set i d')
  | _, _, _, _, _, .nil, h => by simp at h
  | _, _, _, 0, _, .cons (L1 := La) (L2 := Lb) a r n, h => by
    simp at h
    subst h
    refine ⟨_, La, rfl, a, fun b hb => List.mem_append_left _ hb, fun H' d' k w => ?_, fun H' d' Fv L1' k s nf w => ⟨L1' ++ Lb, fun b hb => ?_, ?_⟩⟩
    · exact .cons w (OwAll.mono (Same.refl G) (fun b hb => k b (List.mem_append_right _ hb) fun z => n b z hb) r) n
    · rcases List.mem_append.mp hb with hb | hb
      · rcases List.mem_append.mp (s b hb) with q | q
        · exact List.mem_append_left _ (List.mem_append_left _ q)
        · exact List.mem_append_right _ q
      · exact List.mem_append_left _ (List.mem_append_right _ hb)
    · refine .cons w (OwAll.mono (Same.refl G) (fun b hb => k b (List.mem_append_right _ hb) fun z => n b z hb) r) fun b hb q => ?_
      rcases List.mem_append.mp (s b hb) with z | z
      · exact n b z q
      · exact nf b z (List.mem_append_right _ q)
  | _, _, _, i + 1, _, .cons (L1 := La) (L2 := Lb) a r n, h => by
    obtain ⟨v, L1, h1, h2, h3, h4, h5⟩ := OwAll.part2 (i := i) r (by simpa using h)
    refine ⟨v, L1, by simpa using h1, h2, fun b hb => List.mem_append_right _ (h3 b hb), fun H' d' k w => ?_, fun H' d' Fv L1' k s nf w => ?_⟩
    · refine .cons (Ow.mono (Same.refl G) (fun b hb => k b (List.mem_append_left _ hb) fun z => n b hb (h3 b z)) a) (h4 H' d' (fun b hb nb => k b (List.mem_append_right _ hb) nb) w) n
    · obtain ⟨L', s2, z⟩ := h5 H' d' Fv L1' (fun b hb nb => k b (List.mem_append_right _ hb) nb) s (fun b hb q => nf b hb (List.mem_append_right _ q)) w
      refine ⟨La ++ L', fun b hb => ?_, .cons (Ow.mono (Same.refl G) (fun b hb => k b (List.mem_append_left _ hb) fun z => n b hb (h3 b z)) a) z fun b hb q => ?_⟩
      · rcases List.mem_append.mp hb with hb | hb
        · exact List.mem_append_left _ (List.mem_append_left _ hb)
        · rcases List.mem_append.mp (s2 b hb) with q | q
          · exact List.mem_append_left _ (List.mem_append_right _ q)
          · exact List.mem_append_right _ q
      · rcases List.mem_append.mp (s2 b q) with y | y
        · exact n b hb y
        · exact nf b y (List.mem_append_left _ hb)
theorem OwAll.partM [Inhabited α] {k : Int} (w : OwAll G H L vs (xs.map f)) (h : -(xs.length : Int) ≤ k ∧ k < xs.length) : ∃ v L1, atI vs k = some v ∧ Ow G H L1 v (f (itD xs k)) ∧ (∀ b ∈ L1, b ∈ L) ∧
    (∀ H' y, (∀ b ∈ L, b ∉ L1 → ∀ o, H b = some o → H' b = some o) → Ow G H' L1 v (f y) → OwAll G H' L vs ((setL xs k y).map f)) ∧
    ∀ H' y Fv L1', (∀ b ∈ L, b ∉ L1 → ∀ o, H b = some o → H' b = some o) → (∀ b ∈ L1', b ∈ L1 ++ Fv) → (∀ b ∈ Fv, b ∉ L) → Ow G H' L1' v (f y) → ∃ L', (∀ b ∈ L', b ∈ L ++ Fv) ∧ OwAll G H' L' vs ((setL xs k y).map f) := by
  obtain ⟨j, e, hj⟩ := ixN_some h
  have hx := List.getElem?_eq_getElem hj
  obtain ⟨v, L1, h1, h2, h3, h4, h5⟩ := OwAll.part2 (i := j) (d := f xs[j]) w (by rw [List.getElem?_map, hx] <;> rfl)
  have ei : itD xs k = xs[j] := by
    unfold itD atI
    rw [e]
    show (xs[j]?).getD default = _
    rw [hx] <;> rfl
  refine ⟨v, L1, ?_, by rw [ei]; exact h2, h3, fun H' y q w2 => ?_, fun H' y Fv L1' q s nf w2 => ?_⟩
  · unfold atI
    rw [w.lenM, e]
    exact h1
  · have z := h4 H' (f y) q w2
    unfold setL
    rw [e, List.map_set]
    exact z
  · obtain ⟨L', s2, z⟩ := h5 H' (f y) Fv L1' q s nf w2
    refine ⟨L', s2, ?_⟩
    unfold setL
    rw [e, List.map_set]
    exact z
theorem grow_keeps {L L1 : List Addr} {m : Addr} {H H1 H2 : Hp} (e : Same H H1) (x : SameX m H1 H2) (hm : m ∈ L1) : ∀ b ∈ L, b ∉ L1 → ∀ o, H b = some o → H2 b = some o := fun b _ n o q => x b o (e b o q) (fun z => n (z ▸ hm))
theorem grow_sub {a : Addr} {L' Lr Fv : List Addr} (h : ∀ b ∈ L', b ∈ Lr ++ Fv) : ∀ b ∈ a :: L', b ∈ (a :: Lr) ++ Fv := fun b hb => by
  rcases List.mem_cons.mp hb with rfl | hb
  · exact List.mem_cons_self
  · exact List.mem_cons_of_mem _ (h b hb)
/-- the item of a turn -/
theorem OwAll.turn {i : Nat} {v : V} (w : OwAll G H L vs (xs.map f)) (h : vs[i]? = some v) : ∃ x L1, xs[i]? = some x ∧ Ow G H L1 v (f x) ∧ ∀ b ∈ L1, b ∈ L := by
  have hl := get_len h
  have e := w.lenM
  have hx := List.getElem?_eq_getElem (show i < xs.length by omega)
  obtain ⟨v2, L1, h1, h2, h3, _⟩ := OwAll.part (i := i) (d := f xs[i]) w (by rw [List.getElem?_map, hx] <;> rfl)
  rw [h] at h1
  cases h1
  exact ⟨_, L1, hx, h2, h3⟩
end
/-! ### what is owned, in pieces -/
theorem all_app {P : Addr → Prop} {L l : List Addr} (h : ∀ x ∈ L, P x) (t : ∀ x ∈ l, P x) : ∀ x ∈ L ++ l, P x := fun x hx => by
  rcases List.mem_append.mp hx with q | q
  · exact h x q
  · exact t x q
theorem nm_nil {a : Addr} : a ∉ ([] : List Addr) := fun z => nomatch z
theorem nm_cons {a m : Addr} {l : List Addr} (h : a ≠ m) (t : a ∉ l) : a ∉ m :: l := fun z => by
  rcases List.mem_cons.mp z with q | q
  · exact h q
  · exact t q
theorem nm_app {a : Addr} {L l : List Addr} (h : a ∉ L) (t : a ∉ l) : a ∉ L ++ l := fun z => by
  rcases List.mem_append.mp z with q | q
  · exact h q
  · exact t q
theorem there_ne {H : Hp} {L : List Addr} {x : Addr} (t : ∀ b ∈ L, H b ≠ none) (n : H x = none) : ∀ b ∈ L, b ≠ x := fun b hb z => t b hb (z ▸ n)
theorem new_ne {H : Hp} {L : List Addr} {x : Addr} {o : HO} (n : ∀ b ∈ L, H b = none) (h : H x = some o) : ∀ b ∈ L, b ≠ x := fun b hb z => by
  have := n b hb
  rw [z, h] at this
  cases this
theorem new_nl {H : Hp} {L L2 : List Addr} (n : ∀ b ∈ L, H b = none) (t : ∀ b ∈ L2, H b ≠ none) : ∀ b ∈ L, b ∉ L2 := fun b hb z => t b z (n b hb)
theorem nl_symm {L L2 : List Addr} (h : ∀ b ∈ L, b ∉ L2) : ∀ b ∈ L2, b ∉ L := fun b hb z => h b z hb
theorem none_of_same {H H' : Hp} {x : Addr} (e : Same H H') (n : H' x = none) : H x = none := by
  cases q : H x with
  | none => rfl
  | some o =>
    rw [e x o q] at n
    cases n
section
variable {M : List Addr} {H0 G0 G H H' : Hp} {O L : List Addr} {p m : Addr} {o : HO}
theorem Sep.h0 (S : Sep M H0 G0 G H O) {b : Addr} (hb : b ∈ O) (hM : b ∉ M) : H0 b = none := (S.ow b hb).2.2.elim (fun z => (hM z).elim) id
theorem g_nl {a : Addr} {o : HO} (h : G a = some o) (S : Sep M H0 G0 G H O) (hL : ∀ b ∈ L, b ∈ O) : ∀ b ∈ L, b ≠ a := fun b hb => (g_ne h S (hL b hb)).symm
theorem b_nl {a : Addr} {o : HO} (h : (hideL M H0) a = some o) (S : Sep M H0 G0 G H O) (hL : ∀ b ∈ L, b ∈ O) : ∀ b ∈ L, b ≠ a := fun b hb => (b_ne h S (hL b hb)).symm
/-- a whole tree that is to stay as it is -/
theorem Sep.freezeL (S : Sep M H0 G0 G H O) {O' : List Addr} (hL : ∀ b ∈ L, b ∈ O) (h0 : ∀ b ∈ L, H0 b = none) (hO : ∀ b ∈ O', b ∈ O ∧ b ∉ L) : ∃ G', Same G G' ∧ Keeps L H G' ∧ Sep M H0 G0 G' H O' := by
  have gn : ∀ b ∈ L, G b = none := fun b hb => (S.ow b (hL b hb)).1
  refine ⟨fun b => if b ∈ L then H b else G b, fun b u q => ?_, fun b hb u q => ?_, S.base, S.pm, fun b u q => ?_, fun b u q => ?_, fun b hb gb => ?_, fun a ha => ?_⟩
  · have n : b ∉ L := fun z => by
      rw [gn b z] at q
      cases q
    show (if b ∈ L then H b else G b) = _
    rw [if_neg n]
    exact q
  · show (if b ∈ L then H b else G b) = _
    rw [if_pos hb]
    exact q
  · by_cases z : b ∈ L
    · exact (if_pos z).symm.trans q
    · exact S.sG b u ((if_neg z).symm.trans q)
  · have z : b ∉ L := fun z => by
      have := S.g0 b u q
      rw [gn b z] at this
      cases this
    show (if b ∈ L then H b else G b) = _
    rw [if_neg z]
    exact S.g0 b u q
  · have z : b ∉ L := fun z => hb (h0 b z)
    show (if b ∈ L then H b else G b) = _
    rw [if_neg z]
    exact S.gn b hb gb
  · obtain ⟨h1, h2⟩ := hO a ha
    refine ⟨?_, (S.ow a h1).2⟩
    show (if a ∈ L then H a else G a) = _
    rw [if_neg h2]
    exact (S.ow a h1).1
/-- a callee hands over a list of lists of its own making -/
theorem Sep.steptree (S : Sep M H0 G0 G H O) {G' : Hp} (e : Same H H') (eG : Same G G') (sG : Same G' H') (hn : ∀ b, H b ≠ none → G b = none → G' b = none) (L : List Addr) (hL : ∀ b ∈ L, H b = none ∧ G' b = none ∧ H' b ≠ none) : Sep M H0 G0 G' H' (L ++ O) := by
  have S2 := S.step e eG sG hn
  refine ⟨S2.base, S2.pm, S2.sG, S2.g0, S2.gn, all_app (fun b hb => ⟨(hL b hb).2.1, (hL b hb).2.2, .inr (S.free (hL b hb).1)⟩) S2.ow⟩
end
theorem Rp.list_of {α : Type} {g : α → PyData} {H : Hp} {a : Addr} {vs : List V} {xs : List α} (h : H a = some (.lst vs)) (r : RpAll H vs (xs.map g)) : Rp H (.ref a) (encL g xs) := .lst h r
/-! ### repr of data -/
mutual
def nodes : PyData → Nat
  | .list xs => 1 + nodesAll xs
  | .tuple xs => 1 + nodesAll xs
  | _ => 1
def nodesAll : List PyData → Nat
  | [] => 0
  | x :: xs => nodes x + nodesAll xs
end
mutual
def smallD : PyData → Bool
  | .none => true
  | .bool _ => true
  | .int i => decide (i.natAbs < 10 ^ 19)
  | .str x => decide ((reprText x).length ≤ 20)
  | .list xs => smallAll xs
  | .tuple xs => smallAll xs
  | _ => false
def smallAll : List PyData → Bool
  | [] => true
  | x :: xs => smallD x && smallAll xs
end
theorem piled_list (ts : List Str) : (listText ts).length ≤ piled ts + 2 := by
  cases ts with
  | nil => exact Nat.le_refl 2
  | cons t r =>
    have e : (listText (t :: r)).length = (textFrom 1 ("[" ++ ("" : String) ++ t) r).length + 1 := by
      show (textFrom 0 "[" (t :: r) ++ "]").length = _
      rw [strLen_append]
      rfl
    rw [e, textFrom_length_pos r 1 _ (by decide), piled_cons, strLen_append, strLen_append]
    have h1 : (("[" : String) : Str).length = 1 := rfl
    have h2 : (("" : String) : Str).length = 0 := rfl
    omega
theorem piled_tup (ts : List Str) : (tupleText ts).length ≤ piled ts + 3 := by
  unfold tupleText
  rw [strLen_append, strLen_append]
  have h1 : (("(" : String) : Str).length = 1 := rfl
  have h2 : (((if ts.length == 1 then ",)" else ")" : String) : Str)).length ≤ 2 := by split <;> decide
  by_cases h : ts = []
  · subst h
    exact Nat.le_of_lt (by decide)
  · have := join_length_add ts h
    omega
mutual
theorem small_shown : ∀ d : PyData, smallD d = true → d.shown.length + 4 ≤ 26 * nodes d ∧ d.showable = true ∧ d.hasDict = false
  | .none, _ => ⟨by simp only [PyData.shown, nodes]; decide, by simp [PyData.showable], by simp [PyData.hasDict]⟩
  | .bool b, _ => ⟨by cases b <;> simp only [PyData.shown, nodes] <;> decide, by simp [PyData.showable], by simp [PyData.hasDict]⟩
  | .int i, h => by
    have h : i.natAbs < 10 ^ 19 := by simpa [smallD] using h
    refine ⟨?_, ?_, by simp [PyData.hasDict]⟩
    · have := int_text_length_le10 (k := 19) (by decide) h
      simp only [PyData.shown, nodes]
      rw [PySem.ofString_length]
      omega
    · simp only [PyData.showable, decide_eq_true_eq]
      have : i.natAbs < 2 ^ 64 := by omega
      rcases Nat.eq_zero_or_pos i.natAbs with z | z
      · rw [z]
        decide
      · have := (Nat.log2_lt (by omega)).mpr this
        omega
  | .str x, h => by
    have h : (reprText x).length ≤ 20 := by simpa [smallD] using h
    refine ⟨by simp only [PyData.shown, nodes]; omega, by simp [PyData.showable], by simp [PyData.hasDict]⟩
  | .list xs, h => by
    obtain ⟨h1, h2, h3⟩ := small_shownAll xs (by simpa [smallD] using h)
    refine ⟨?_, by simpa [PyData.showable] using h2, by simpa [PyData.hasDict] using h3⟩
    have := piled_list (PyData.shownAll xs)
    simp only [PyData.shown, nodes]
    omega
  | .tuple xs, h => by
    obtain ⟨h1, h2, h3⟩ := small_shownAll xs (by simpa [smallD] using h)
    refine ⟨?_, by simpa [PyData.showable] using h2, by simpa [PyData.hasDict] using h3⟩
    have := piled_tup (PyData.shownAll xs)
    simp only [PyData.shown, nodes]
    omega
  | .dict kvs, h => by simp [smallD] at h
theorem small_shownAll : ∀ ds : List PyData, smallAll ds = true → piled (PyData.shownAll ds) ≤ 26 * nodesAll ds ∧ PyData.showableAll ds = true ∧ PyData.hasDictAll ds = false
  | [], _ => ⟨by simp [PyData.shownAll, nodesAll, piled], by simp [PyData.showableAll], by simp [PyData.hasDictAll]⟩
  | d :: ds, h => by
    have h : smallD d = true ∧ smallAll ds = true := by simpa [smallAll] using h
    obtain ⟨a1, a2, a3⟩ := small_shown d h.1
    obtain ⟨b1, b2, b3⟩ := small_shownAll ds h.2
    refine ⟨?_, by simp [PyData.showableAll, a2, b2], by simp [PyData.hasDictAll, a3, b3]⟩
    simp only [PyData.shownAll, nodesAll, piled_cons]
    omega
end
/-- data that repr may show -/
def ShowOk (d : PyData) : Prop := smallD d = true ∧ nodes d ≤ 600000 ∧ d.depth ≤ 60
instance (d : PyData) : Decidable (ShowOk d) := by unfold ShowOk; infer_instance
def rRepr : List V → Hp → VK → Prop := fun xs H Q => ∃ (a : Addr) (d : PyData), xs = [.ref a] ∧ Rp H (.ref a) d ∧ ShowOk d ∧ Q (.str d.shown) H
theorem call_reprD {X : Cx} (hg : X.A.guards = some []) (hu : X.A.units + 64 < cLine) : CallR X (.builtin "repr") rRepr := by
  intro pins s σ H xs us Q I r h
  obtain ⟨a, d, rfl, rp, ⟨ok, nd, dp⟩, q⟩ := h
  obtain ⟨h1, h2, h3⟩ := small_shown d ok
  cases r with
  | cons ra rn =>
    cases rn
    cases ra
    obtain ⟨as, reads⟩ := Dp.reads I d _ _ rp.dp rfl
    refine repr_of_reads' reads h2 (PyData.noDict_hsm h3) hg (by omega) (fun _ _ e => e) (fun h' u tk k => ⟨.str d.shown, H, I.kept k, ⟨u, rfl⟩, q⟩) ?_
    show d.shown.length ≤ 2 ^ 24
    omega
/-- small data: nodes, depth -/
def Sm (n k : Nat) (d : PyData) : Prop := smallD d = true ∧ nodes d ≤ n ∧ d.depth ≤ k
theorem Sm.imp {n k n' k' : Nat} {d : PyData} (h : Sm n k d) (a : n ≤ n') (b : k ≤ k') : Sm n' k' d := ⟨h.1, Nat.le_trans h.2.1 a, Nat.le_trans h.2.2 b⟩
theorem Sm.show {n k : Nat} {d : PyData} (h : Sm n k d) (a : n ≤ 600000 := by decide) (b : k ≤ 60 := by decide) : ShowOk d := h.imp a b
theorem sm_non : Sm 1 0 .none := ⟨by simp [smallD], by simp [nodes], by simp [PyData.depth]⟩
theorem sm_bool (b : Bool) : Sm 1 0 (.bool b) := ⟨by simp [smallD], by simp [nodes], by simp [PyData.depth]⟩
theorem sm_int {i : Int} (h : -10000000000000000000 < i ∧ i < 10000000000000000000) : Sm 1 0 (.int i) := ⟨by simp only [smallD, decide_eq_true_eq]; omega, by simp [nodes], by simp [PyData.depth]⟩
theorem sm_all {α : Type} {f : α → PyData} {n k : Nat} : ∀ {xs : List α}, (∀ x ∈ xs, Sm n k (f x)) → smallAll (xs.map f) = true ∧ nodesAll (xs.map f) ≤ xs.length * n ∧ PyData.depthAll (xs.map f) ≤ k
  | [], _ => ⟨by simp [smallAll], by simp [nodesAll], by simp [PyData.depthAll]⟩
  | x :: xs, h => by
    obtain ⟨a1, a2, a3⟩ := h x List.mem_cons_self
    obtain ⟨b1, b2, b3⟩ := sm_all fun y hy => h y (List.mem_cons_of_mem _ hy)
    refine ⟨by simp [smallAll, a1, b1], ?_, ?_⟩
    · simp only [List.map_cons, nodesAll, List.length_cons, Nat.succ_mul]
      omega
    · simp only [List.map_cons, PyData.depthAll]
      omega
theorem sm_L {α : Type} {f : α → PyData} {n k m : Nat} {xs : List α} (h : ∀ x ∈ xs, Sm n k (f x)) (hm : xs.length ≤ m) : Sm (1 + m * n) (k + 1) (encL f xs) := by
  obtain ⟨a1, a2, a3⟩ := sm_all h
  refine ⟨by simp [encL, smallD, a1], ?_, ?_⟩
  · have := Nat.mul_le_mul_right n hm
    simp only [encL, nodes]
    omega
  · simp only [encL, PyData.depth]
    omega
theorem sm_ints {xs : List Int} {m : Nat} (h : ∀ x ∈ xs, -10000000000000000000 < x ∧ x < 10000000000000000000) (hm : xs.length ≤ m) : Sm (1 + m * 1) 1 (encL PyData.int xs) := sm_L (fun x hx => sm_int (h x hx)) hm
theorem sm_T2 {α β : Type} {f : α → PyData} {g : β → PyData} {n k m j : Nat} {p : α × β} (h1 : Sm n k (f p.1)) (h2 : Sm m j (g p.2)) : Sm (1 + n + m) (max k j + 1) (encT2 f g p) := by
  obtain ⟨a1, a2, a3⟩ := h1
  obtain ⟨b1, b2, b3⟩ := h2
  refine ⟨by simp [encT2, smallD, smallAll, a1, b1], ?_, ?_⟩
  · simp only [encT2, nodes, nodesAll]
    omega
  · simp only [encT2, PyData.depth, PyData.depthAll]
    omega
theorem sm_T3 {α β γ : Type} {f : α → PyData} {g : β → PyData} {h : γ → PyData} {n k m j l i : Nat} {p : α × β × γ} (h1 : Sm n k (f p.1)) (h2 : Sm m j (g p.2.1)) (h3 : Sm l i (h p.2.2)) : Sm (1 + n + m + l) (max k (max j i) + 1) (encT3 f g h p) := by
  obtain ⟨a1, a2, a3⟩ := h1
  obtain ⟨b1, b2, b3⟩ := h2
  obtain ⟨c1, c2, c3⟩ := h3
  refine ⟨by simp [encT3, smallD, smallAll, a1, b1, c1], ?_, ?_⟩
  · simp only [encT3, nodes, nodesAll]
    omega
  · simp only [encT3, PyData.depth, PyData.depthAll]
    omega
end Vx
namespace Vx
open PySem PySem.Spec PyProof.Rows L2
theorem new_ne2 {H : Hp} {L : List Addr} {x : Addr} (n : ∀ b ∈ L, H b = none) (h : H x ≠ none) : ∀ b ∈ L, b ≠ x := fun b hb z => h (z ▸ n b hb)
theorem upd_tree {α : Type} {f : α → Dt} {G H H' : Hp} {L L1 : List Addr} {vs : List V} {xs : List α} {k : Int} {v : V} {m : Addr} {y : α} (up : ∀ H' y, (∀ b ∈ L, b ∉ L1 → ∀ o, H b = some o → H' b = some o) → Ow G H' L1 v (f y) → OwAll G H' L vs ((setL xs k y).map f)) (x : SameX m H H') (hm : m ∈ L1) (w : Ow G H' L1 v (f y)) :
    OwAll G H' L vs ((setL xs k y).map f) := up H' y (fun c _ n o q => x c o q (fun z => n (z ▸ hm))) w
theorem Ow.toFrz {α : Type} {f : α → PyData} {G H : Hp} {L : List Addr} {v : V} {x : α} (w : Ow G H L v (oF f x)) : L = [] ∧ Rp G v (f x) := by
  unfold oF at w
  cases w with
  | frz r => exact ⟨rfl, r⟩
section
variable {α : Type} {f : α → Dt} {G H : Hp} {L : List Addr} {vs : List V} {xs : List α}
theorem OwAll.pin {i : Nat} {v : V} {x : α} (w : OwAll G H L vs (xs.map f)) (h : vs[i]? = some v) (hx : xs[i]? = some x) : ∃ L1, Ow G H L1 v (f x) ∧ ∀ b ∈ L1, b ∈ L := by
  obtain ⟨y, L1, h1, h2, h3⟩ := OwAll.turn w h
  rw [hx] at h1
  cases h1
  exact ⟨L1, h2, h3⟩
theorem OwAll.pinInts {i : Nat} {b : Addr} {xs : List (List Int)} {x : List Int} (w : OwAll G H L vs (xs.map (oL oI))) (h : vs[i]? = some (.ref b)) (hx : xs[i]? = some x) : H b = some (.lst (x.map V.int)) ∧ b ∈ L := by
  obtain ⟨L1, w1, h1⟩ := OwAll.pin w h hx
  obtain ⟨c, e, rfl, h2⟩ := Ow.toInts w1
  cases e
  exact ⟨h2, h1 _ List.mem_cons_self⟩
end
end Vx
namespace Vx
open PySem PySem.Spec PyProof.Rows L2
theorem lookup_relab {c : Str → Bool} {y : Str} : ∀ l : List (Str × NameKind), (l.lookup y = some .cell ∨ l.lookup y = some .free) →
    ((l.map fun (n, k) => if (k == .free && c n) then (n, NameKind.cell) else (n, k)).lookup y = some .cell ∨ (l.map fun (n, k) => if (k == .free && c n) then (n, NameKind.cell) else (n, k)).lookup y = some .free)
  | [], h => by simp at h
  | (n, k) :: r, h => by
    rw [List.map_cons]
    dsimp only
    by_cases e : y == n
    · have hk : k = .cell ∨ k = .free := by
        rw [List.lookup_cons, e] at h
        simpa using h
      by_cases q : (k == .free && c n) = true
      · left
        rw [if_pos q, List.lookup_cons, e]
      · rw [if_neg q, List.lookup_cons, e]
        simpa using hk
    · have e : (y == n) = false := by simpa using e
      rw [List.lookup_cons, e] at h
      have ih := lookup_relab (c := c) r h
      by_cases q : (k == .free && c n) = true
      · rw [if_pos q, List.lookup_cons, e]
        exact ih
      · rw [if_neg q, List.lookup_cons, e]
        exact ih
theorem blk_relabel {N : List Str} {sc scope : Scope} {env : Env} {own : List (Str × Nat)} (h : BlkOk N sc scope own) : BlkOk N (relabel sc env) scope own := by
  refine ⟨h.kind, h.uniq, h.ix, fun y hy e => ?_, h.own⟩
  have z := lookup_relab (c := fun n => env.scope.kind == .function && env.kindOf n == some .cell) (y := y.1) sc.names (h.free y hy e)
  unfold relabel
  simpa only [Bool.and_assoc] using z
end Vx
namespace Vx
open PySem PySem.Spec PyProof.Rows L2
theorem FnG.low {P : Program} {w : World} {K : PySem.W.Frag} {mg : Str → Option Value} {base : Heap} {cx : CXT} {j k : Nat} {f : Addr} {fd : FuncData} {ps : List Str} {sp : Sp} (F : FnG P w K mg base cx j f fd ps sp) (h : j ≤ k) : FnG P w K mg base cx k f fd ps sp := ⟨F.len, fun A o s H a us vs Q E r => F.run A o s H a us vs Q E (r.low h)⟩
/-! ### a local name that holds one of several defs -/
structure HeldX (P : Program) (w : World) (K : PySem.W.Frag) (mg : Str → Option Value) (base : Heap) (k n : Nat) (f : Addr) (sp : Sp) : Prop where
  ex : ∃ (fd : FuncData) (ps : List Str), FnG P w K mg base (L2.CX P w) k f fd ps sp ∧ PySem.W.keepIn K (.ref f) = true ∧ Bnd K fd ps n [] (fun vs _ => vs)
theorem HeldX.of {P : Program} {w : World} {K : PySem.W.Frag} {mg : Str → Option Value} {base : Heap} {j k n : Nat} {x : Str} {sp : Sp} {pats : List Pat} {a : Addr} (c : CalX P w K mg base j x sp pats) (hx : mg x = some (.ref a)) (hp : (n, [], fun vs _ => vs) ∈ pats) (hj : j ≤ k) : HeldX P w K mg base k n a sp := by
  obtain ⟨f, fd, ps, F, hm, kp, b⟩ := c.ex
  rw [hx] at hm
  injection hm with hm
  injection hm with hm
  subst hm
  exact ⟨fd, ps, F.low hj, kp, b _ hp⟩
def tCallF (i n : Nat) (L : List (Addr × Sp)) (W : WX) (t : TA) : TE := fun σ H Q => ∃ f sp, σ[i]? = some (some (.ref f)) ∧ (f, sp) ∈ L ∧ t σ H fun vs H1 => vs.length = n ∧ ([] : List V).length = 0 ∧ sp vs H1 Q (WE W σ)
theorem vx_callF {X : Cx} {k j i n : Nat} {x : Str} {p pos : Pos} {e : Expr} {es : List Expr} {t : TA} {W : WX} (L : List (Addr × Sp)) (A : ∀ q ∈ L, HeldX X.prog X.w X.K X.mg X.base k n q.1 q.2) (hr : RoomG j X.A) (hk : k ≤ j) (tkW : Takes X W) (hN : X.N[i]? = some x) (hv : Vis X.env.scope x) (ha : PA X (e :: es) t)
    (hdb : (x == ("__debug__" : Str)) = false := by decide) (hcd : (x == ("__classdict__" : Str)) = false := by decide) (he : starEach (e :: es) X.env = (false, eval e X.env) :: starEach es X.env := by rfl) (hpl : (backTo pos (starEach es X.env)).any (·.1) = false := by rfl) :
    PE X (.Call (.Name x p) (e :: es) [] pos) (tCallF i n L W t) := by
  constructor
  intro pins s σ H Q I h
  obtain ⟨f, sp, slot, mem, rest⟩ := h
  obtain ⟨fd, ps, F, kp, b⟩ := (A _ mem).ex
  refine wpAny_Call_Name_kw (thn ((pe_var (pos := p) hN hv hdb hcd).run pins s σ H (fun v H1 => v = .ref f ∧ H1 = H) I ⟨.ref f, slot, rfl, rfl⟩) ?_)
  rintro u s1 ⟨v, H1, I1, r1, rfl, rfl⟩
  cases r1
  refine PySem.W.callWith_K (h₀ := X.base) I.ok.mod.kin kp (thn (ha.run pos pins s1 σ _ _ I1 rest) ?_) he hpl
  rintro us s2 ⟨vs, H2, I2, r, l1, l2, q⟩
  exact ⟨I2.kIn, run_X (us := us) (ws := []) (zs := []) F (hr.low hk) b tkW I2 r .nil l1 l2 q⟩
/-! ### the least of a list, the place of an item -/
def minL : List Int → Int
  | [] => 0
  | [x] => x
  | x :: y :: r => if x ≤ minL (y :: r) then x else minL (y :: r)
theorem minL_spec : ∀ (xs : List Int), xs ≠ [] → minL xs ∈ xs ∧ ∀ y ∈ xs, minL xs ≤ y
  | [], h => absurd rfl h
  | [x], _ => ⟨List.mem_cons_self, fun y hy => by rw [List.mem_singleton.mp hy]; exact Int.le_refl x⟩
  | x :: y :: r, _ => by
    obtain ⟨h1, h2⟩ := minL_spec (y :: r) (fun z => nomatch z)
    unfold minL
    split
    · refine ⟨List.mem_cons_self, fun z hz => ?_⟩
      rcases List.mem_cons.mp hz with rfl | hz
      · exact Int.le_refl _
      · have := h2 z hz
        omega
    · refine ⟨List.mem_cons_of_mem _ h1, fun z hz => ?_⟩
      rcases List.mem_cons.mp hz with rfl | hz
      · omega
      · exact h2 z hz
def maxL (xs : List Int) : Int := -(minL (xs.map fun x => -x))
theorem maxL_spec (xs : List Int) (h : xs ≠ []) : maxL xs ∈ xs ∧ ∀ y ∈ xs, y ≤ maxL xs := by
  obtain ⟨h1, h2⟩ := minL_spec (xs.map fun x => -x) (by simpa using h)
  obtain ⟨z, hz, e⟩ := List.mem_map.mp h1
  unfold maxL
  refine ⟨by rw [← e, Int.neg_neg]; exact hz, fun y hy => ?_⟩
  have := h2 _ (List.mem_map_of_mem hy)
  omega
section
variable {X : Cx} {K : PySem.W.Frag}
def rMinL (K : PySem.W.Frag) : List V → Hp → VK → Prop := fun vs H Q => ∃ (a : Addr) (ns : List Int), vs = [V.ref a] ∧ SqL K H a (ns.map V.int) ∧ ns ≠ [] ∧ Q (.int (minL ns)) H
def rMaxL (K : PySem.W.Frag) : List V → Hp → VK → Prop := fun vs H Q => ∃ (a : Addr) (ns : List Int), vs = [V.ref a] ∧ SqL K H a (ns.map V.int) ∧ ns ≠ [] ∧ Q (.int (maxL ns)) H
theorem cr_minL (hc : X.calm = true) (hK : X.K = K := by rfl) : CallR X (.builtin "min") (rMinL K) := by
  subst hK
  intro pins s σ H vs us Q I r h
  obtain ⟨a, ns, rfl, hs, hn, q⟩ := h
  refine cr_min hc pins s σ H _ us Q I r ⟨a, ns, rfl, hs, List.length_pos_iff.mpr hn, fun m hm hle => ?_⟩
  obtain ⟨h1, h2⟩ := minL_spec ns hn
  have e : m = minL ns := Int.le_antisymm (by have := hle _ h1; omega) (h2 m hm)
  rw [e]
  exact q
theorem cr_maxL (hc : X.calm = true) (hK : X.K = K := by rfl) : CallR X (.builtin "max") (rMaxL K) := by
  subst hK
  intro pins s σ H vs us Q I r h
  obtain ⟨a, ns, rfl, hs, hn, q⟩ := h
  refine cr_max hc pins s σ H _ us Q I r ⟨a, ns, rfl, hs, List.length_pos_iff.mpr hn, fun m hm hle => ?_⟩
  obtain ⟨h1, h2⟩ := maxL_spec ns hn
  have e : m = maxL ns := Int.le_antisymm (h2 m hm) (by have := hle _ h1; omega)
  rw [e]
  exact q
end
end Vx
namespace Vx
open PySem PySem.Spec PyProof.Rows L2
def idxL (ns : List Int) (i : Int) : Int := (ns.idxOf i : Nat)
def rIndexI (K : PySem.W.Frag) : V → List V → Hp → VK → Prop := fun x xs H Q => ∃ (a : Addr) (ns : List Int) (i : Int), x = V.ref a ∧ xs = [.int i] ∧ SqL K H a (ns.map V.int) ∧ i ∈ ns ∧ Q (.int (idxL ns i)) H
theorem mt_indexI {X : Cx} {K : PySem.W.Frag} (hK : X.K = K := by rfl) : MtR X "list.index" (rIndexI K) := by
  subst hK
  intro pins s σ H x xs v us Q I rx rxs h
  obtain ⟨a, ns, i, rfl, rfl, hs, hi, q⟩ := h
  have hl := List.idxOf_lt_length_of_mem hi
  refine mt_index pins s σ H _ _ v us Q I rx rxs ⟨a, _, .int i, ns.idxOf i, .int i, rfl, rfl, hs, rfl, flat_ints ns, ?_, by simp [eqV], fun m z hm hz => ?_, q⟩
  · rw [List.getElem?_map, List.getElem?_eq_getElem hl, List.getElem_idxOf hl] <;> rfl
  · rw [List.getElem?_map] at hz
    cases e : ns[m]? with
    | none => rw [e] at hz; cases hz
    | some y =>
      rw [e] at hz
      cases hz
      have hml : m < ns.length := by omega
      have hy : ns[m] = y := by
        rw [List.getElem?_eq_getElem hml] at e
        exact Option.some.inj e
      have := List.not_of_lt_findIdx (p := (· == i)) (xs := ns) (i := m) hm
      simp only [beq_iff_eq, hy] at this
      simp [eqV, this]
theorem cW_aftgo {σ ρ τ : Type} {s : σ} {kr : ρ → Rx τ} {k : σ → Rx τ} {K : τ → Prop} {E : Nat → Prop} (h : cW ((Lp.go s : Lp σ ρ).aft kr k) K E) : cW (k s) K E := h
end Vx
namespace Vx
open PySem PySem.Spec PyProof.Rows L2
/-! ### a truth value or a number beside a number -/
def Bi.num : Bi → Int
  | .b x => if x then 1 else 0
  | .n i => i
def Bi.dat : Bi → PyData
  | .b x => .bool x
  | .n i => .int i
section
variable {X : Cx}
def rEqBI : R2 := fun x y H Q => ∃ (b : Bi) (i : Int), x = biV b ∧ y = .int i ∧ Q (.bl (decide (b.num = i))) H
def rNeBI : R2 := fun x y H Q => ∃ (b : Bi) (i : Int), x = biV b ∧ y = .int i ∧ Q (.bl (!decide (b.num = i))) H
theorem eqv_bi (b : Bi) (i : Int) : PyData.eqv b.dat (.int i) = decide (b.num = i) := by
  cases b with
  | b x => cases x <;> (rw [Bool.eq_iff_iff]; simp [Bi.dat, Bi.num, PyData.eqv])
  | n j =>
    rw [Bool.eq_iff_iff]
    simp only [Bi.dat, Bi.num, PyData.eqv, beq_iff_eq]
    exact decide_eq_true_iff.symm
theorem dp_bi {K : PySem.W.Frag} {H : Hp} : ∀ b : Bi, Dp K H (biV b) b.dat
  | .b x => .bl x
  | .n i => .int i
theorem shaped_bi : ∀ b : Bi, SeqAt.shaped b.dat = true
  | .b x => by unfold SeqAt.shaped; simp [Bi.dat, PyData.canLay0, PyData.depth]
  | .n i => by unfold SeqAt.shaped; simp [Bi.dat, PyData.canLay0, PyData.depth]
theorem op_eqBI (hu : X.A.units + 64 < cLine) : OpR X (compareOp .Eq) rEqBI := by
  intro pins s σ H x y v u Q I rx ry h
  obtain ⟨b, i, rfl, rfl, q⟩ := h
  exact op_eqD hu pins s σ H _ _ v u Q I rx ry ⟨b.dat, .int i, dp_bi b, .int i, shaped_bi b, shaped_bi (.n i), by rw [eqv_bi]; exact q⟩
theorem op_neBI (hu : X.A.units + 64 < cLine) : OpR X (compareOp .NotEq) rNeBI := by
  intro pins s σ H x y v u Q I rx ry h
  obtain ⟨b, i, rfl, rfl, q⟩ := h
  exact op_neD hu pins s σ H _ _ v u Q I rx ry ⟨b.dat, .int i, dp_bi b, .int i, shaped_bi b, shaped_bi (.n i), by rw [eqv_bi]; exact q⟩
end
end Vx
namespace Vx
open PySem PySem.Spec PyProof.Rows L2
/-! ### == of own objects by an own __eq__ that never raises -/
section
variable {X : Cx} {k j : Nat}
def rEqX (C : Addr) (n mm : Nat) (sp : Sp) (g : List V → List V → List V) : R2 := fun x y H Q => ∃ (a b dx dy : Addr) (fs gs : List (Str × V)), x = .ref a ∧ y = .ref b ∧ H a = some (.ins C dx fs) ∧ H b = some (.ins C dy gs) ∧ 2 = n ∧ 0 = mm ∧ sp (g [x, y] []) H (fun v H' => (∃ r, v = .bl r) ∧ Q v H') E0
theorem op_eqX {C : Addr} {sp : Sp} {pats : List Pat} (c : MetX X.prog X.w X.K X.mg X.base k C "__eq__" sp pats) (pt : Pat) (hpt : pt ∈ pats) (hr : RoomG j X.A) (hk : k ≤ j) (hks : pt.2.1 = [] := by rfl) : OpR X (compareOp .Eq) (rEqX C pt.1 pt.2.1.length sp pt.2.2) := by
  intro pins s σ H x y v u Q I rx ry hq
  obtain ⟨a, b, dx, dy, fs, gs, rfl, rfl, ha, hb', l1, l2, q⟩ := hq
  obtain ⟨f, fd, ps, hc, hm, F, bb⟩ := c.ex
  cases rx
  cases ry
  obtain ⟨mA, J, _⟩ := ins_get I.hok ha
  obtain ⟨mB, J', _⟩ := ins_get I.hok hb'
  obtain ⟨od, J, _⟩ := J.look
  obtain ⟨od', J', _⟩ := J'.look
  obtain ⟨m, hF⟩ := I.fr
  have hz := run_X (us := [.ref a, .ref b]) (vs := [.ref a, .ref b]) (ws := []) (zs := []) F (hr.low hk) (bb pt hpt) (takes0 (X := X)) I (.cons rfl (.cons rfl .nil)) .nil l1 l2 q
  rw [hks] at hz
  show wpAny (model X.prog X.w) X.A (richCompare .Eq (.ref a) (.ref b)) (EP X pins σ Q) X.xe s
  refine PySem.W.cmp_K (op := .Eq) (tb := .ref C) (hr.low hk).toRoom.units0 hF I.ok.mod.kin J J'.type (by simp [PySem.W.notFirst]) hm.at_ hm.fn ?_
  refine wpAny_mono hz (fun r s' z => ?_) fun _ _ e => e
  obtain ⟨w, H', I', rw', ⟨⟨q1, rfl⟩, q2⟩⟩ := z
  cases rw'
  exact ⟨V.bl q1, H', I', rfl, q2⟩
end
end Vx
namespace Vx
open PySem PySem.Spec PyProof.Rows L2
/-! ### isinstance of the exception in hand: a built-in class, a tuple of classes -/
theorem kit_blt {K : PySem.W.Frag} {D : Addr} {T : String} {b : Bool} (h : PySem.W.subIn K (.ref D) (.type T) = some b) (h0 : PySem.W.kitMeta T = true := by decide +kernel) : PySem.W.kitOne K (.ref D) (.type T) = some b := by
  unfold PySem.W.kitOne
  rw [if_neg (show ¬ (Value.ref D == Value.type T) = true from fun z => nomatch (show false = true from z))]
  show (if PySem.W.kitMeta T = true then PySem.W.subIn K (.ref D) (.type T) else none) = some b
  rw [if_pos h0, h]
def rIsXB (K : PySem.W.Frag) (a : Addr) (cls : Value) (d : Option Addr) : List V → Hp → VK → Prop := fun xs H Q => ∃ (D : Addr) (T : String) (b : Bool), cls = .ref D ∧ d = none ∧ ExcC K D ∧ xs = [.ref a, .ty T] ∧ PySem.W.kitOne K (.ref D) (.type T) = some b ∧ Q (.bl b) H
theorem call_isXB {X : Cx} {K : PySem.W.Frag} {a : Addr} {cls : Value} {d : Option Addr} {oe : Obj} {pn : List (Addr × Obj)} (hz : Zc cls d oe) (hf : ∃ vs, oe.data = .fields vs) (hK : X.K = K := by rfl) : CallR (X.suite a ((a, oe) :: pn)) (.builtin "isinstance") (rIsXB K a cls d) := by
  subst hK
  intro pins s σ H xs us Q I r h
  obtain ⟨D, T, b, rfl, rfl, c, rfl, e, q⟩ := h
  exact call_isE c hz hf pins s σ H _ us Q I r ⟨_, _, b, rfl, fun u z => z, e, q⟩
def rIsXT (K : PySem.W.Frag) (a : Addr) (cls : Value) (d : Option Addr) : List V → Hp → VK → Prop := fun xs H Q => ∃ (D tp : Addr) (cs : List V) (ws : List Value) (b : Bool), cls = .ref D ∧ d = none ∧ ExcC K D ∧ xs = [.ref a, .ref tp] ∧ H tp = some (.tup cs) ∧ Paired ClsV cs ws ∧ PySem.W.kitAny K (.ref D) ws = some b ∧ Q (.bl b) H
theorem call_isXT {X : Cx} {K : PySem.W.Frag} {a : Addr} {cls : Value} {d : Option Addr} {oe : Obj} {pn : List (Addr × Obj)} (hz : Zc cls d oe) (hf : ∃ vs, oe.data = .fields vs) (hK : X.K = K := by rfl) : CallR (X.suite a ((a, oe) :: pn)) (.builtin "isinstance") (rIsXT K a cls d) := by
  subst hK
  intro pins s σ H xs us Q I r h
  obtain ⟨D, tp, cs, ws, b, rfl, rfl, C, rfl, hT, k, e, q⟩ := h
  cases r with
  | cons rx rr =>
    cases rr with
    | cons rt rr =>
      cases rr
      cases rx
      cases rt
      obtain ⟨hget, _⟩ := I.pin (a, oe) (List.mem_append.mpr (.inl List.mem_cons_self))
      obtain ⟨vs, hv⟩ := hf
      have J : PySem.W.InstAt s.heap a oe D none := by
        obtain ⟨oc, od, oda, osl⟩ := oe
        obtain ⟨h1, h2⟩ := hz
        dsimp only at h1 h2 hv
        subst h1 h2 hv
        exact ⟨hget, rfl, rfl, trivial⟩
      obtain ⟨_, its, rv, o, h1, h2, n, h3⟩ := (show ObjOk X.prog X.w H s.heap tp (.tup cs) from I.hok tp _ hT)
      have e3 := ClsV.all k rv
      subst e3
      obtain ⟨oc, od, dt, sl⟩ := o
      simp only at h2 h3
      subst h2 h3
      exact PySem.W.kia_tup (PySem.W.handS_kitx_exc C.hg C.hk C.hs C.hd C.ha C.hn C.ht C.hm) I.kIn J h1 e (fun z => nomatch z) fun tk => ⟨.bl b, H, I.kept (t' := tk) fun _ _ z => z, rfl, q⟩
theorem kit_self {K : PySem.W.Frag} {t : Value} (h : (t == t) = true := by simp) : PySem.W.kitOne K t t = some true := by
  unfold PySem.W.kitOne
  rw [if_pos h]
/-- what a class must say, so that isinstance asks its objects rightly -/
structure IsiC (K : PySem.W.Frag) (C : Addr) : Prop where
  ha : PySem.W.findIn K (.ref C) "__class__" = some (some (.builtin "object.__class__"))
  hn : PySem.W.specialIn K (.builtin "object.__class__") "__get__" = some (some (.builtin "getset_descriptor.__get__"))
  ht : PySem.W.takesIn K (.builtin "object.__class__") = some true
  hm : PySem.W.mroIn K C (.type "object") = some true
theorem tyX_ins {K : PySem.W.Frag} {H : Hp} {a C dx : Addr} {fs : List (Str × V)} (e : H a = some (.ins C dx fs)) (cl : Cls K C) (c : IsiC K C) : TyX K H (.ref a) (.ref C) := .base (.ins e cl c.ha c.hn c.ht c.hm)
end Vx
namespace Vx
open PySem PySem.Spec PyProof.Rows L2
theorem op_notTrue {X : Cx} : OpR X (compareOp .IsNot) (fun x y H Q => ∃ b : Bool, x = .bl b ∧ y = .bl true ∧ Q (.bl (!b)) H) := by
  intro pins s σ H x y v u Q I rx ry h
  obtain ⟨b, rfl, rfl, q⟩ := h
  cases rx
  cases ry
  show wpAny (model X.prog X.w) X.A (compareOp .IsNot (.bool b) (.bool true)) (EP X pins σ Q) X.xe s
  have e : compareOp .IsNot (.bool b) (.bool true) = pure (.bool (!b)) := by cases b <;> rfl
  rw [e]
  exact wpAny_pure ⟨.bl (!b), H, I, rfl, q⟩
end Vx
/-! # lists stored into trees -/
namespace Vx
open PySem PySem.Spec PyProof.Rows L2
section
variable {G H I : Hp} {α : Type} {f : α → Dt} {L : List Addr} {vs : List V} {xs : List α}
theorem OwAll.set {L1 : List Addr} {v : V} {d : Dt} (h : Ow G H L1 v d) : ∀ {L : List Addr} {vs : List V} {ds : List Dt} (i : Nat), i < ds.length → OwAll G H L vs ds → (∀ b ∈ L1, b ∉ L) → ∃ L', (∀ b ∈ L', b ∈ L ++ L1) ∧ OwAll G H L' (vs.set i v) (ds.set i d)
  | _, _, _, _, hi, .nil, _ => absurd hi (Nat.not_lt_zero _)
  | _, _, _, 0, _, .cons (L1 := La) (L2 := Lb) a r n, nf => by
    refine ⟨L1 ++ Lb, fun b hb => ?_, .cons h r fun b hb q => nf b hb (List.mem_append_right _ q)⟩
    rcases List.mem_append.mp hb with q | q
    · exact List.mem_append_right _ q
    · exact List.mem_append_left _ (List.mem_append_right _ q)
  | _, _, _, i + 1, hi, .cons (L1 := La) (L2 := Lb) a r n, nf => by
    obtain ⟨L', s, w⟩ := OwAll.set h i (Nat.lt_of_succ_lt_succ hi) r fun b hb q => nf b hb (List.mem_append_right _ q)
    refine ⟨La ++ L', fun b hb => ?_, .cons a w fun b hb q => ?_⟩
    · rcases List.mem_append.mp hb with q | q
      · exact List.mem_append_left _ (List.mem_append_left _ q)
      · rcases List.mem_append.mp (s b q) with z | z
        · exact List.mem_append_left _ (List.mem_append_right _ z)
        · exact List.mem_append_right _ z
    · rcases List.mem_append.mp (s b q) with z | z
      · exact n b hb z
      · exact nf b z (List.mem_append_left _ hb)
theorem ixN_len {k : Int} (e : vs.length = xs.length) (h : -(xs.length : Int) ≤ k ∧ k < xs.length) : ixN vs.length k = some ((ixN vs.length k).getD 0) := by
  rw [e]
  obtain ⟨j, hj, _⟩ := ixN_some h
  rw [hj]
  rfl
theorem OwAll.setM {k : Int} {L1 : List Addr} {v : V} {y : α} (w : OwAll G H L vs (xs.map f)) (h : -(xs.length : Int) ≤ k ∧ k < xs.length) (ow : Ow G H L1 v (f y)) (n : ∀ b ∈ L1, b ∉ L) :
    ∃ L', (∀ b ∈ L', b ∈ L ++ L1) ∧ OwAll G H L' (vs.set ((ixN vs.length k).getD 0) v) ((setL xs k y).map f) := by
  obtain ⟨j, e, hj⟩ := ixN_some h
  obtain ⟨L', s, z⟩ := OwAll.set ow j (by simpa using hj) w n
  refine ⟨L', s, ?_⟩
  unfold setL
  rw [w.lenM, e, List.map_set]
  exact z
end
theorem ne_of_len {α : Type} {xs : List α} (h : xs.length = 4 ∨ xs.length = 6 ∨ xs.length = 8) : xs ≠ [] := by
  rintro rfl
  simp at h
end Vx
namespace Vx
open PySem PySem.Spec PyProof.Rows L2
/-! ### written dicts of ints -/
inductive EI : List (Int × Int) → List DictEntry → Prop
  | nil : EI [] []
  | cons {k v : Int} {t u : Tok} {r : List (Int × Int)} {es : List DictEntry} (h : EI r es) : EI ((k, v) :: r) (⟨hashInt k, .int k t, .int v u⟩ :: es)
def lookI : List (Int × Int) → Int → Option Int
  | [], _ => none
  | (k, v) :: r, i => if i = k then some v else lookI r i
def KDI (K : PySem.W.Frag) (a : Addr) (kvs : List (Int × Int)) : Prop :=
  ∃ es n, K.lookup a = some ⟨.type "dict", none, .dict es n, #[]⟩ ∧ (a == sysModules) = false ∧ EI kvs es.toList
theorem lookI_mem {kvs : List (Int × Int)} {i : Int} : (lookI kvs i).isSome = decide (i ∈ kvs.map (·.1)) := by
  induction kvs with
  | nil => rfl
  | cons p r ih =>
    obtain ⟨k, v⟩ := p
    unfold lookI
    by_cases q : i = k
    · rw [if_pos q]; simp [q]
    · rw [if_neg q, ih]; simp [q]
theorem EI.find {i : Int} : ∀ {kvs : List (Int × Int)} {es : List DictEntry}, EI kvs es → match lookI kvs i with
    | some v => ∃ u, (es.find? fun e => keyIs (.inl i) e.key).map (·.val) = some (.int v u)
    | none => (es.find? fun e => keyIs (.inl i) e.key).map (·.val) = none
  | _, _, .nil => rfl
  | _, _, .cons (k := k) (v := v) (t := t) (u := u) (r := r) (es := es) h => by
    have ih := EI.find (i := i) h
    unfold lookI
    by_cases q : i = k
    · subst q
      rw [if_pos rfl]
      refine ⟨u, ?_⟩
      rw [List.find?_cons_of_pos (by exact keyIs_int i t)]
      rfl
    · rw [if_neg q]
      have e : ¬ (keyIs (.inl i) (Value.int k t) = true) := by
        intro z
        obtain ⟨t', e'⟩ := Value.isInt_shape (k := i) (v := Value.int k t) z
        injection e' with e1 _
        exact q e1.symm
      rw [List.find?_cons_of_neg (by exact e)]
      exact ih
theorem EI.keys {P : Program} {w : World} : ∀ {kvs : List (Int × Int)} {es : List DictEntry}, EI kvs es → ∀ e ∈ es, ∃ k, (mixKind P w).is k e.key = true ∧ e.hash = (mixKind P w).hash k
  | _, _, .nil, e, he => nomatch he
  | _, _, .cons (k := k) (t := t) h, e, he => by
    rcases List.mem_cons.mp he with rfl | he
    · exact ⟨.inl k, keyIs_int k t, rfl⟩
    · exact EI.keys h e he
section
variable {X : Cx} {K : PySem.W.Frag}
theorem KDI.map {d : Addr} {kvs : List (Int × Int)} {pins : List (Addr × Obj)} {σ : L2.St} {H : Hp} {s : Shared} (D : KDI X.K d kvs) (I : Inv X pins σ H s) : (d == sysModules) = false ∧ ∃ f, s.heap.MapOf (mixKind X.prog X.w) d f ∧ ∀ i, match lookI kvs i with
    | some v => ∃ u, f (.inl i) = some (.int v u)
    | none => f (.inl i) = none := by
  obtain ⟨es, n, hl, hd, he⟩ := D
  refine ⟨hd, fun k => findBy keyIs es k, ⟨_, es, n, I.kIn _ _ hl, ⟨rfl, rfl, rfl⟩, rfl, fun e q => EI.keys he e (Array.mem_toList_iff.mpr q), fun _ => rfl⟩, fun i => ?_⟩
  have := EI.find (i := i) he
  have e : findBy keyIs es (.inl i) = (es.toList.find? fun e => keyIs (.inl i) e.key).map (·.val) := by
    obtain ⟨l⟩ := es
    unfold findBy
    rw [List.find?_toArray]
  show match lookI kvs i with
    | some v => ∃ u, findBy keyIs es (.inl i) = some (.int v u)
    | none => findBy keyIs es (.inl i) = none
  rw [e]
  exact this
def rInDI (K : PySem.W.Frag) : R2 := fun x y H Q => ∃ (i : Int) (d : Addr) (kvs : List (Int × Int)) (ks : List Int), x = .int i ∧ y = .ref d ∧ KDI K d kvs ∧ ks = kvs.map (·.1) ∧ Q (.bl (decide (i ∈ ks))) H
def rNotInDI (K : PySem.W.Frag) : R2 := fun x y H Q => ∃ (i : Int) (d : Addr) (kvs : List (Int × Int)) (ks : List Int), x = .int i ∧ y = .ref d ∧ KDI K d kvs ∧ ks = kvs.map (·.1) ∧ Q (.bl (!decide (i ∈ ks))) H
def rIxDI (K : PySem.W.Frag) : R2 := fun x y H Q => ∃ (d : Addr) (i v : Int) (kvs : List (Int × Int)), x = .ref d ∧ y = .int i ∧ KDI K d kvs ∧ lookI kvs i = some v ∧ Q (.int v) H
theorem op_inDI (hK : X.K = K := by rfl) : OpR X (compareOp .In) (rInDI K) := by
  subst hK
  intro pins s σ H x y v u Q I rx ry h
  obtain ⟨i, d, kvs, ks, rfl, rfl, D, rfl, q⟩ := h
  rw [← lookI_mem] at q
  obtain ⟨t, rfl⟩ := rx
  cases ry
  obtain ⟨hd, f, hm, hf⟩ := D.map I
  refine wpAny_in_of (knd := mixKind X.prog X.w) (kV_is (k := .inl i) ⟨t, rfl⟩) hd hm ?_
  have e : (f (.inl i)).isSome = (lookI kvs i).isSome := by
    have := hf i
    split at this
    · next v hv => obtain ⟨u, hu⟩ := this; rw [hu, hv]; rfl
    · next hv => rw [this, hv]; rfl
  rw [e]
  exact ⟨.bl (lookI kvs i).isSome, H, I.tok _, rfl, q⟩
theorem op_notInDI (hK : X.K = K := by rfl) : OpR X (compareOp .NotIn) (rNotInDI K) := by
  subst hK
  intro pins s σ H x y v u Q I rx ry h
  obtain ⟨i, d, kvs, ks, rfl, rfl, D, rfl, q⟩ := h
  rw [← lookI_mem] at q
  obtain ⟨t, rfl⟩ := rx
  cases ry
  obtain ⟨hd, f, hm, hf⟩ := D.map I
  refine wpAny_notIn_of (knd := mixKind X.prog X.w) (kV_is (k := .inl i) ⟨t, rfl⟩) hd hm ?_
  have e : (f (.inl i)).isSome = (lookI kvs i).isSome := by
    have := hf i
    split at this
    · next v hv => obtain ⟨u, hu⟩ := this; rw [hu, hv]; rfl
    · next hv => rw [this, hv]; rfl
  rw [e]
  exact ⟨.bl (!(lookI kvs i).isSome), H, I.tok _, rfl, q⟩
theorem ix_DI (hK : X.K = K := by rfl) : IxR X (rIxDI K) := by
  subst hK
  intro value slice pins s σ H x y v u Q I rx ry h hs
  obtain ⟨p, i, r, kvs, rfl, rfl, D, e, q⟩ := h
  obtain rfl : v = Value.ref p := rx
  obtain ⟨t, rfl⟩ := ry
  obtain ⟨hd, f, hm, hf⟩ := D.map I
  have := hf i
  rw [e] at this
  obtain ⟨u, hu⟩ := this
  exact tail_any hm.typeIs slot_dict_getitem.lookup (wpAny_getItem_of (knd := mixKind X.prog X.w) (kV_is (k := .inl i) ⟨t, rfl⟩) hm hu ⟨.int r, H, I.tok _, ⟨_, rfl⟩, q⟩) hs
end
/-- the value at a key that is there -/
def dictI (kvs : List (Int × Int)) (i : Int) : Int := (lookI kvs i).getD 0
theorem lookI_at {kvs : List (Int × Int)} {i : Int} (h : i ∈ kvs.map (·.1)) : lookI kvs i = some (dictI kvs i) := by
  have := lookI_mem (kvs := kvs) (i := i)
  rw [decide_eq_true h] at this
  unfold dictI
  cases e : lookI kvs i with
  | none => rw [e] at this; cases this
  | some v => rfl
/-! ### walks over two lists, over numbered items, backwards -/
theorem pi_enumK {X : Cx} {K : PySem.W.Frag} {e : Expr} {ta : TA} {p pos tpos : Pos} {elts : List Expr} {kk : Nat} (hg : Gl X "enumerate") (hm : X.mg "enumerate" = none) (ha : PA X [e] ta) (hK : X.K = K := by rfl) (hs : starEach [e] X.env = [(false, eval e X.env)] := by rfl) :
    PI X (.Tuple elts kk tpos) (.Call (.Name "enumerate" p) [e] [] pos) (iEnum K ta) := hK ▸ pi_enum hg hm ha hs
section
variable {K : PySem.W.Frag} {a b : Addr} {xs ys : List V} {g : TG} {tb : TS} {tt : TT} {te : TE} {D : Ends} {σ : L2.St} {H H1 : Hp} {vs : List Nat} {DD : Addr} {Qd : Hp → Prop}
theorem for_enum (Pv : Nat → L2.St → Hp → Prop) (h0 : Pv 0 σ H) (hq : ∀ i σ H, Pv i σ H → SqL K H a xs)
    (hs : ∀ (i : Nat) (y : V) (T : Addr) (σ : L2.St) (H : Hp), xs[i]? = some y → H T = none → Pv i σ H → g (.ref T) σ (upd H T (.tup [.int (i : Nat), y])) fun σ2 H2 => tb { D with nx := Pv (i + 1), ct := Pv (i + 1), bk := D.nx } σ2 H2) (hd : ∀ σ H, Pv xs.length σ H → D.nx σ H) :
    ∃ W : Nat → Nat → L2.St → Hp → Prop, (∃ m, W 0 m σ H) ∧ ∀ i m σ H, W i m σ H →
      ((Ite K a).stop i H ∧ D.nx σ H) ∨ ((Ite K a).go i H ∧ ∃ N : L2.St → Hp → Prop, (∀ σ' H', N σ' H' → ∃ m', m' < m ∧ W (i + 1) m' σ' H') ∧ ∀ v H', (Ite K a).yld i H v H' → g v σ H' fun σ2 H2 => tb { D with nx := N, ct := N, bk := D.nx } σ2 H2) := by
  refine for_it walk_enum Pv h0 (fun i σ H _ p => hq i σ H p) (fun i x σ H H' hi p y => ?_) hd
  obtain ⟨T, x1, y1, rfl, hT, rfl, h1, h2⟩ := y
  cases h1
  exact hs i y1 T σ H h2 hT p
theorem lc_enum (Pv : Nat → Hp → Prop) (h0 : Pv 0 (upd H1 DD (.lst []))) (hq : ∀ i H, i ≤ xs.length → Pv i H → SqL K H a xs)
    (hs : ∀ (i : Nat) (y : V) (T : Addr) (H : Hp), xs[i]? = some y → H T = none → Pv i H → g (.ref T) (wipe σ vs) (upd H T (.tup [.int (i : Nat), y])) fun σ2 H2 => wipe σ2 vs = wipe σ vs ∧ tt σ2 H2 fun b H3 =>
      if b = true then te σ2 H3 fun y H4 => ∃ acc, H4 DD = some (.lst acc) ∧ acc.length < sizeLine ∧ Pv (i + 1) (upd H4 DD (.lst (acc ++ [y]))) else Pv (i + 1) H3) (hd : ∀ H, Pv xs.length H → Qd H) :
    ∃ W : Nat → Nat → Hp → Prop, (∃ m, W 0 m (upd H1 DD (.lst []))) ∧ ∀ i m H, W i m H →
      ((Ite K a).stop i H ∧ Qd H) ∨ ((Ite K a).go i H ∧ ∃ Nx : Hp → Prop, (∀ H', Nx H' → ∃ m', m' < m ∧ W (i + 1) m' H') ∧ ∀ x H', (Ite K a).yld i H x H' → g x (wipe σ vs) H' fun σ2 H2 => wipe σ2 vs = wipe σ vs ∧ tt σ2 H2 fun b H3 =>
        if b = true then te σ2 H3 fun y H4 => ∃ acc, H4 DD = some (.lst acc) ∧ acc.length < sizeLine ∧ Nx (upd H4 DD (.lst (acc ++ [y]))) else Nx H3) := by
  refine lc_it walk_enum Pv h0 hq (fun i x H H' hi p y => ?_) hd
  obtain ⟨T, x1, y1, rfl, hT, rfl, h1, h2⟩ := y
  cases h1
  exact hs i y1 T H h2 hT p
/-- zip of two lists of any lengths -/
theorem for_zipM (n : Nat) (hn : n = min xs.length ys.length) (Pv : Nat → L2.St → Hp → Prop) (h0 : Pv 0 σ H) (hq : ∀ i σ H, Pv i σ H → SqL K H a xs ∧ SqL K H b ys)
    (hs : ∀ (i : Nat) (x y : V) (T : Addr) (σ : L2.St) (H : Hp), xs[i]? = some x → ys[i]? = some y → H T = none → Pv i σ H → g (.ref T) σ (upd H T (.tup [x, y])) fun σ2 H2 => tb { D with nx := Pv (i + 1), ct := Pv (i + 1), bk := D.nx } σ2 H2) (hd : ∀ σ H, Pv n σ H → D.nx σ H) :
    ∃ W : Nat → Nat → L2.St → Hp → Prop, (∃ m, W 0 m σ H) ∧ ∀ i m σ H, W i m σ H →
      ((Itz K a b).stop i H ∧ D.nx σ H) ∨ ((Itz K a b).go i H ∧ ∃ N : L2.St → Hp → Prop, (∀ σ' H', N σ' H' → ∃ m', m' < m ∧ W (i + 1) m' σ' H') ∧ ∀ v H', (Itz K a b).yld i H v H' → g v σ H' fun σ2 H2 => tb { D with nx := N, ct := N, bk := D.nx } σ2 H2) := by
  refine for_it (walk_zip hn) Pv h0 (fun i σ H _ p => hq i σ H p) (fun i x σ H H' hi p y => ?_) hd
  obtain ⟨T, x1, y1, rfl, hT, rfl, h1, h2⟩ := y
  exact hs i x1 y1 T σ H h1 h2 hT p
theorem lc_zipM (n : Nat) (hn : n = min xs.length ys.length) (Pv : Nat → Hp → Prop) (h0 : Pv 0 (upd H1 DD (.lst []))) (hq : ∀ i H, i ≤ n → Pv i H → SqL K H a xs ∧ SqL K H b ys)
    (hs : ∀ (i : Nat) (x y : V) (T : Addr) (H : Hp), xs[i]? = some x → ys[i]? = some y → H T = none → Pv i H → g (.ref T) (wipe σ vs) (upd H T (.tup [x, y])) fun σ2 H2 => wipe σ2 vs = wipe σ vs ∧ tt σ2 H2 fun b H3 =>
      if b = true then te σ2 H3 fun y H4 => ∃ acc, H4 DD = some (.lst acc) ∧ acc.length < sizeLine ∧ Pv (i + 1) (upd H4 DD (.lst (acc ++ [y]))) else Pv (i + 1) H3) (hd : ∀ H, Pv n H → Qd H) :
    ∃ W : Nat → Nat → Hp → Prop, (∃ m, W 0 m (upd H1 DD (.lst []))) ∧ ∀ i m H, W i m H →
      ((Itz K a b).stop i H ∧ Qd H) ∨ ((Itz K a b).go i H ∧ ∃ Nx : Hp → Prop, (∀ H', Nx H' → ∃ m', m' < m ∧ W (i + 1) m' H') ∧ ∀ x H', (Itz K a b).yld i H x H' → g x (wipe σ vs) H' fun σ2 H2 => wipe σ2 vs = wipe σ vs ∧ tt σ2 H2 fun b H3 =>
        if b = true then te σ2 H3 fun y H4 => ∃ acc, H4 DD = some (.lst acc) ∧ acc.length < sizeLine ∧ Nx (upd H4 DD (.lst (acc ++ [y]))) else Nx H3) := by
  refine lc_it (walk_zip hn) Pv h0 hq (fun i x H H' hi p y => ?_) hd
  obtain ⟨T, x1, y1, rfl, hT, rfl, h1, h2⟩ := y
  exact hs i x1 y1 T H h1 h2 hT p
end
theorem zipM_len {α β : Type} {xs : List α} {ys : List β} : min xs.length ys.length = (xs.zip ys).length := by rw [List.length_zip]
theorem zipM_n {α β : Type} {vs ws : List V} {xs : List α} {ys : List β} (a : vs.length = xs.length) (b : ws.length = ys.length) : min xs.length ys.length = min vs.length ws.length := by rw [a, b]
def rListTK (K : PySem.W.Frag) : List V → Hp → VK → Prop := fun xs H Q => ∃ (p : Addr) (vs : List V), xs = [.ref p] ∧ SqT K H p vs ∧ ∀ l, H l = none → Q (.ref l) (upd H l (.lst vs))
theorem call_listTK {X : Cx} {K : PySem.W.Frag} (hK : X.K = K := by rfl) : CallR X (.type "list") (rListTK K) := by
  subst hK
  intro pins s σ H xs us Q I r h
  obtain ⟨p, vs, rfl, hs, q⟩ := h
  exact call_list_of pins s σ H _ us Q I r ⟨p, _, rfl, Or.inr hs, q⟩
/-- two lists that keep step -/
inductive F2 {α β : Type} (P : α → β → Prop) : List α → List β → Prop
  | nil : F2 P [] []
  | cons {a : α} {b : β} {l : List α} {m : List β} (h : P a b) (t : F2 P l m) : F2 P (a :: l) (b :: m)
theorem F2.get {α β : Type} {P : α → β → Prop} : ∀ {l : List α} {m : List β}, F2 P l m → ∀ (j : Nat), j < l.length → ∃ a b, l[j]? = some a ∧ m[j]? = some b ∧ P a b
  | _, _, .nil, j, h => absurd h (Nat.not_lt_zero _)
  | _, _, .cons h t, 0, _ => ⟨_, _, rfl, rfl, h⟩
  | _, _, .cons h t, j + 1, hj => t.get j (Nat.lt_of_succ_lt_succ hj)
theorem F2.at {α β : Type} [Inhabited α] [Inhabited β] {P : α → β → Prop} {l : List α} {m : List β} (h : F2 P l m) (k : Int) (h0 : 0 ≤ k) (h1 : k < l.length) : P (itD l k) (itD m k) := by
  obtain ⟨j, rfl⟩ : ∃ j : Nat, k = (j : Int) := ⟨k.toNat, by omega⟩
  obtain ⟨a, b, ha, hb, p⟩ := h.get j (by omega)
  have e1 : itD l (j : Int) = a := by unfold itD; rw [atI_nat ha]; rfl
  have e2 : itD m (j : Int) = b := by unfold itD; rw [atI_nat hb]; rfl
  rw [e1, e2]
  exact p
theorem SqT.cast {K : PySem.W.Frag} {H : Hp} {a : Addr} {xs ys : List V} (h : SqT K H a xs) (e : xs = ys) : SqT K H a ys := e ▸ h
/-- enumerate(xs) -/
def enumL {α : Type} (xs : List α) : List (Int × α) := (rng 0 xs.length).zip xs
theorem enumL_len {α : Type} (xs : List α) : (enumL xs).length = xs.length := by
  unfold enumL
  rw [List.length_zip, rng_len, Nat.min_self]
theorem enumL_get {α : Type} {xs : List α} {i : Nat} {x : α} (h : xs[i]? = some x) : (enumL xs)[i]? = some ((i : Int), x) := by
  have hl : i < xs.length := (List.getElem?_eq_some_iff.mp h).1
  unfold enumL
  rw [List.getElem?_zip_eq_some]
  refine ⟨?_, h⟩
  have := rng_get (lo := 0) hl
  rw [this]
  congr 1
  omega
end Vx
namespace Vx
open PySem PySem.Spec PyProof.Rows L2
theorem wipe_get : ∀ (σ : L2.St) (vs : List Nat) (j : Nat), (wipe σ vs)[j]? = if j ∈ vs ∧ j < σ.length then some none else σ[j]?
  | σ, [], j => by simp [wipe]
  | σ, v :: vs, j => by
    unfold wipe
    by_cases e : v = j
    · subst e
      by_cases h : v < σ.length
      · rw [List.getElem?_set_self (by rw [wipe_length]; exact h), if_pos ⟨List.mem_cons_self, h⟩]
      · rw [if_neg (fun z => h z.2), List.getElem?_eq_none (by rw [List.length_set, wipe_length]; omega), List.getElem?_eq_none (by omega)]
    · rw [List.getElem?_set_ne e, wipe_get σ vs j]
      have : (j ∈ v :: vs ∧ j < σ.length) ↔ (j ∈ vs ∧ j < σ.length) := by
        constructor
        · rintro ⟨h1, h2⟩
          rcases List.mem_cons.mp h1 with rfl | h1
          · exact absurd rfl e
          · exact ⟨h1, h2⟩
        · rintro ⟨h1, h2⟩
          exact ⟨List.mem_cons_of_mem _ h1, h2⟩
      by_cases q : j ∈ vs ∧ j < σ.length
      · rw [if_pos q, if_pos (this.mpr q)]
      · rw [if_neg q, if_neg (fun z => q (this.mp z))]
theorem wipe_wipe {σ : L2.St} {vs : List Nat} : wipe (wipe σ vs) vs = wipe σ vs := by
  apply List.ext_getElem?
  intro j
  rw [wipe_get (wipe σ vs), wipe_length]
  by_cases q : j ∈ vs ∧ j < σ.length
  · rw [if_pos q, wipe_get, if_pos q]
  · rw [if_neg q]
theorem wipe_set {σ : L2.St} {vs : List Nat} {v : Nat} {x : Option V} (h : v ∈ vs) : wipe (σ.set v x) vs = wipe σ vs := by
  apply List.ext_getElem?
  intro j
  rw [wipe_get, wipe_get, List.length_set]
  by_cases q : j ∈ vs ∧ j < σ.length
  · rw [if_pos q, if_pos q]
  · rw [if_neg q, if_neg q]
    by_cases e : v = j
    · subst e
      have hl : ¬ v < σ.length := fun z => q ⟨h, z⟩
      rw [List.getElem?_eq_none (by rw [List.length_set]; omega), List.getElem?_eq_none (by omega)]
    · rw [List.getElem?_set_ne e]
/-- a comprehension over a step range -/
theorem lc_rangeC {lo c : Int} {n : Nat} {g : TG} {tt : TT} {te : TE} {vs : List Nat} {σ : L2.St} {H1 : Hp} {D : Addr} {Qd : Hp → Prop} (Pv : Nat → Hp → Prop) (h0 : Pv 0 (upd H1 D (.lst [])))
    (hs : ∀ i H, i < n → Pv i H → g (.int (lo + (i : Nat) * c)) (wipe σ vs) H fun σ2 H2 => wipe σ2 vs = wipe σ vs ∧ tt σ2 H2 fun b H3 =>
      if b = true then te σ2 H3 fun y H4 => ∃ acc, H4 D = some (.lst acc) ∧ acc.length < sizeLine ∧ Pv (i + 1) (upd H4 D (.lst (acc ++ [y]))) else Pv (i + 1) H3) (hd : ∀ H, Pv n H → Qd H) :
    ∃ W : Nat → Nat → Hp → Prop, (∃ m, W 0 m (upd H1 D (.lst []))) ∧ ∀ i m H, W i m H →
      ((Itc lo c n).stop i H ∧ Qd H) ∨ ((Itc lo c n).go i H ∧ ∃ Nx : Hp → Prop, (∀ H', Nx H' → ∃ m', m' < m ∧ W (i + 1) m' H') ∧ ∀ x H', (Itc lo c n).yld i H x H' → g x (wipe σ vs) H' fun σ2 H2 => wipe σ2 vs = wipe σ vs ∧ tt σ2 H2 fun b H3 =>
        if b = true then te σ2 H3 fun y H4 => ∃ acc, H4 D = some (.lst acc) ∧ acc.length < sizeLine ∧ Nx (upd H4 D (.lst (acc ++ [y]))) else Nx H3) := by
  refine ⟨fun i m H => m = n - i ∧ i ≤ n ∧ Pv i H, ⟨n, by simp, Nat.zero_le _, h0⟩, ?_⟩
  rintro i m H ⟨rfl, hi, p⟩
  rcases Nat.lt_or_ge i n with hlt | hge
  · refine .inr ⟨hlt, Pv (i + 1), fun H' p' => ⟨n - (i + 1), by omega, rfl, hlt, p'⟩, fun x H' y => ?_⟩
    obtain ⟨e, y⟩ := y
    subst e y
    exact hs i _ hlt p
  · cases Nat.le_antisymm hi hge
    exact .inl ⟨Nat.le_refl _, hd H p⟩

/-! ### reversed(list of ints), any(list of ints) -/
theorem pi_revK {X : Cx} {K : PySem.W.Frag} {tg : Expr} {e : Expr} {ta : TA} {p pos : Pos} (hg : Gl X "reversed") (hm : X.mg "reversed" = none) (ha : PA X [e] ta) (hK : X.K = K := by rfl) (hs : starEach [e] X.env = [(false, eval e X.env)] := by rfl) :
    PI X tg (.Call (.Name "reversed" p) [e] [] pos) (iRev K ta) := hK ▸ pi_reversed hg hm ha hs
theorem for_revI {K : PySem.W.Frag} {a : Addr} {xs : List Int} {g : TG} {tb : TS} {D : Ends} {σ : L2.St} {H : Hp} (Pv : Nat → L2.St → Hp → Prop) (h0 : Pv 0 σ H) (hl : ∀ i σ H, i ≤ (xs.reverse.map V.int).length → Pv i σ H → SqL K H a (xs.map V.int))
    (hs : ∀ i x σ H, (xs.reverse.map V.int)[i]? = some x → Pv i σ H → g x σ H fun σ2 H2 => tb { D with nx := Pv (i + 1), ct := Pv (i + 1), bk := D.nx } σ2 H2) (hd : ∀ σ H, Pv (xs.reverse.map V.int).length σ H → D.nx σ H) :
    ∃ W : Nat → Nat → L2.St → Hp → Prop, (∃ m, W 0 m σ H) ∧ ∀ i m σ H, W i m σ H →
      ((Itv K a (xs.map V.int).length).stop i H ∧ D.nx σ H) ∨ ((Itv K a (xs.map V.int).length).go i H ∧ ∃ N : L2.St → Hp → Prop, (∀ σ' H', N σ' H' → ∃ m', m' < m ∧ W (i + 1) m' σ' H') ∧ ∀ x H', (Itv K a (xs.map V.int).length).yld i H x H' → g x σ H' fun σ2 H2 => tb { D with nx := N, ct := N, bk := D.nx } σ2 H2) := by
  have en : (xs.reverse.map V.int).length = (xs.map V.int).length := by rw [List.length_map, List.length_map, List.length_reverse]
  rw [en] at hl hd
  refine for_it walk_rev Pv h0 hl (fun i x σ H H' hi p y => ?_) hd
  obtain ⟨rfl, hx⟩ := y
  refine hs i x σ _ ?_ p
  rw [List.map_reverse, List.getElem?_reverse hi]
  exact hx
theorem ints_get : ∀ {ns : List Int} {us : List Value} {i : Nat} {v : Value}, IntsAre us ns → us[i]? = some v → ∃ t, v = .int (ns.getD i 0) t := by
  intro ns us i v h
  induction h generalizing i with
  | nil => intro z; simp at z
  | cons n t _ ih =>
    intro z
    cases i with
    | zero => simp at z; exact ⟨t, by rw [← z]; rfl⟩
    | succ i => exact ih (by simpa using z)
theorem any_rangeI : ∀ ns : List Int, (List.range ns.length).any (fun i => ns.getD i 0 != 0) = ns.any (fun x => x != 0)
  | [] => rfl
  | b :: bs => by
    rw [List.length_cons, List.range_succ_eq_map, List.any_cons, List.any_map, List.any_cons, ← any_rangeI bs]
    all_goals rfl
theorem ints_len : ∀ {ns : List Int} {us : List Value}, IntsAre us ns → us.length = ns.length := by
  intro ns us h
  induction h with
  | nil => rfl
  | cons _ _ _ ih => simp [ih]
def rAnyI (K : PySem.W.Frag) : List V → Hp → VK → Prop := fun vs H Q => ∃ (a : Addr) (ns : List Int), vs = [V.ref a] ∧ SqL K H a (ns.map V.int) ∧ Q (.bl (ns.any fun x => x != 0)) H
theorem cr_anyI {X : Cx} (hc : X.calm = true) : CallR X (.builtin "any") (rAnyI X.K) := by
  intro pins s σ H vs us Q I r h
  obtain ⟨a, ns, rfl, hs, q⟩ := h
  obtain ⟨its, rv, hl, _⟩ := I.list hs
  rw [Vals.ref1 r]
  have hb := rv.ints
  refine call_any_walk (iter_any hl.isList fun s₂ e2 st hne => ?_)
  subst e2
  have ht : TruthOf X.prog X.w X.A.in1 (fun i v => its.toArray[i]? = some v) (fun i => ns.getD i 0 != 0) := fun i v s Q E hv hq => by
    obtain ⟨t, rfl⟩ := ints_get hb (by simpa using hv)
    exact PyProof.Rows.truthy_int hq
  refine ⟨_, _, _, _, _, _, _, rfl, Walks.list (A := X.A.in1) (I.ok.hd hc) _ a hne its.toArray, st, ht, fun h' tk hk => ?_⟩
  refine ⟨.bl _, H, I.kept fun b o eo => hk b o (fun hmem => ?_) (Heap.get?_push_of_some _ eo), ?_, q⟩
  · rcases List.mem_cons.mp hmem with e1 | hmem
    · exact absurd (e1 ▸ Heap.lt_size eo) (Nat.lt_irrefl _)
    · cases hmem
  · show Value.bool _ = Value.bool _
    rw [← any_rangeI, List.size_toArray, ints_len hb]
theorem cr_anyIK {X : Cx} {K : PySem.W.Frag} (hc : X.calm = true) (hK : X.K = K := by rfl) : CallR X (.builtin "any") (rAnyI K) := hK ▸ cr_anyI hc
/-- an item of a list of data stored anew -/
theorem RpAll.setM {α : Type} {f : α → PyData} {G : Hp} {vs : List V} {xs : List α} {k : Int} {v : V} {y : α} (d : RpAll G vs (xs.map f)) (r : Rp G v (f y)) : RpAll G (vs.set ((ixN vs.length k).getD 0) v) ((setL xs k y).map f) := by
  have e : vs.length = xs.length := by rw [d.len, List.length_map]
  unfold setL
  rw [List.map_set, e]
  exact RpAll.set r _ d
end Vx
/-! # data of any shape: None beside data, tuples of several shapes -/
namespace Vx
open PySem PySem.Spec PyProof.Rows L2
def encD (d : PyData) : PyData := d
def encN (_ : Unit) : PyData := .none
def encT1 {α : Type} (f : α → PyData) (x : α) : PyData := .tuple [f x]
instance instInhD : Inhabited PyData := ⟨.none⟩
/-- a known shape: what is laid, what is read back, whether the data has the shape -/
structure Cst (α : Type) where
  enc : α → PyData
  dec : PyData → α
  ok : PyData → Bool
  h : ∀ d, ok d = true → enc (dec d) = d
  oke : ∀ x, ok (enc x) = true
  de : ∀ x, dec (enc x) = x
def cI : Cst Int := ⟨PyData.int, fun d => match d with | .int i => i | _ => 0, fun d => match d with | .int _ => true | _ => false, fun d h => (by cases d <;> first | rfl | (cases h)), fun _ => rfl, fun _ => rfl⟩
def cB : Cst Bool := ⟨PyData.bool, fun d => match d with | .bool i => i | _ => false, fun d => match d with | .bool _ => true | _ => false, fun d h => (by cases d <;> first | rfl | (cases h)), fun _ => rfl, fun _ => rfl⟩
def cS : Cst Str := ⟨PyData.str, fun d => match d with | .str i => i | _ => "", fun d => match d with | .str _ => true | _ => false, fun d h => (by cases d <;> first | rfl | (cases h)), fun _ => rfl, fun _ => rfl⟩
def cN : Cst Unit := ⟨encN, fun _ => (), fun d => match d with | .none => true | _ => false, fun d h => (by cases d <;> first | rfl | (cases h)), fun _ => rfl, fun _ => rfl⟩
def cD : Cst PyData := ⟨encD, fun d => d, fun _ => true, fun _ _ => rfl, fun _ => rfl, fun _ => rfl⟩
theorem map_dec {α : Type} (c : Cst α) : ∀ xs : List PyData, xs.all c.ok = true → (xs.map c.dec).map c.enc = xs
  | [], _ => rfl
  | x :: xs, h => by
    rw [List.all_cons, Bool.and_eq_true] at h
    rw [List.map_cons, List.map_cons, c.h x h.1, map_dec c xs h.2]
def cL {α : Type} (c : Cst α) : Cst (List α) where
  enc := encL c.enc
  dec := fun d => match d with | .list xs => xs.map c.dec | _ => []
  ok := fun d => match d with | .list xs => xs.all c.ok | _ => false
  h := fun d h => by
    cases d with
    | list xs => exact congrArg PyData.list (map_dec c xs h)
    | _ => cases h
  oke := fun x => by
    show (x.map c.enc).all c.ok = true
    rw [List.all_map, List.all_eq_true]
    exact fun a _ => c.oke a
  de := fun x => by
    show (x.map c.enc).map c.dec = x
    rw [List.map_map]
    have e : c.dec ∘ c.enc = id := funext c.de
    rw [e, List.map_id]
def cT1 {α : Type} (a : Cst α) : Cst α where
  enc := encT1 a.enc
  dec := fun d => match d with | .tuple [x] => a.dec x | _ => a.dec .none
  ok := fun d => match d with | .tuple [x] => a.ok x | _ => false
  h := fun d h => by
    split at h
    · next x => exact congrArg (fun z => PyData.tuple [z]) (a.h x h)
    · cases h
  oke := fun x => a.oke x
  de := fun x => a.de x
def cT2 {α β : Type} (a : Cst α) (b : Cst β) : Cst (α × β) where
  enc := encT2 a.enc b.enc
  dec := fun d => match d with | .tuple [x, y] => (a.dec x, b.dec y) | _ => (a.dec .none, b.dec .none)
  ok := fun d => match d with | .tuple [x, y] => a.ok x && b.ok y | _ => false
  h := fun d h => by
    split at h
    · next x y =>
      rw [Bool.and_eq_true] at h
      show PyData.tuple [a.enc (a.dec x), b.enc (b.dec y)] = _
      rw [a.h x h.1, b.h y h.2]
    · cases h
  oke := fun x => by show (a.ok (a.enc x.1) && b.ok (b.enc x.2)) = true; rw [a.oke, b.oke]; rfl
  de := fun x => by show (a.dec (a.enc x.1), b.dec (b.enc x.2)) = x; rw [a.de, b.de]
def cT3 {α β γ : Type} (a : Cst α) (b : Cst β) (c : Cst γ) : Cst (α × β × γ) where
  enc := encT3 a.enc b.enc c.enc
  dec := fun d => match d with | .tuple [x, y, z] => (a.dec x, b.dec y, c.dec z) | _ => (a.dec .none, b.dec .none, c.dec .none)
  ok := fun d => match d with | .tuple [x, y, z] => a.ok x && b.ok y && c.ok z | _ => false
  h := fun d h => by
    split at h
    · next x y z =>
      simp only [Bool.and_eq_true] at h
      show PyData.tuple [a.enc (a.dec x), b.enc (b.dec y), c.enc (c.dec z)] = _
      rw [a.h x h.1.1, b.h y h.1.2, c.h z h.2]
    · cases h
  oke := fun x => by show (a.ok (a.enc x.1) && b.ok (b.enc x.2.1) && c.ok (c.enc x.2.2)) = true; rw [a.oke, b.oke, c.oke]; rfl
  de := fun x => by show (a.dec (a.enc x.1), b.dec (b.enc x.2.1), c.dec (c.enc x.2.2)) = x; rw [a.de, b.de, c.de]
def cT4 {α β γ δ : Type} (a : Cst α) (b : Cst β) (c : Cst γ) (e : Cst δ) : Cst (α × β × γ × δ) where
  enc := encT4 a.enc b.enc c.enc e.enc
  dec := fun d => match d with | .tuple [x, y, z, w] => (a.dec x, b.dec y, c.dec z, e.dec w) | _ => (a.dec .none, b.dec .none, c.dec .none, e.dec .none)
  ok := fun d => match d with | .tuple [x, y, z, w] => a.ok x && b.ok y && c.ok z && e.ok w | _ => false
  h := fun d h => by
    split at h
    · next x y z w =>
      simp only [Bool.and_eq_true] at h
      show PyData.tuple [a.enc (a.dec x), b.enc (b.dec y), c.enc (c.dec z), e.enc (e.dec w)] = _
      rw [a.h x h.1.1.1, b.h y h.1.1.2, c.h z h.1.2, e.h w h.2]
    · cases h
  oke := fun x => by show (a.ok (a.enc x.1) && b.ok (b.enc x.2.1) && c.ok (c.enc x.2.2.1) && e.ok (e.enc x.2.2.2)) = true; rw [a.oke, b.oke, c.oke, e.oke]; rfl
  de := fun x => by show (a.dec (a.enc x.1), b.dec (b.enc x.2.1), c.dec (c.enc x.2.2.1), e.dec (e.enc x.2.2.2)) = x; rw [a.de, b.de, c.de, e.de]
section
variable {H : Hp} {v : V} {d : PyData}
theorem rp_dcast {α : Type} (c : Cst α) (g : c.ok d = true) (r : Rp H v d) : Rp H v (c.enc (c.dec d)) := by rw [c.h d g]; exact r
def dNone : PyData → Bool
  | .none => true
  | _ => false
def dSeq : PyData → Bool
  | .list _ => true
  | .tuple _ => true
  | _ => false
def dTup : PyData → Bool
  | .tuple _ => true
  | _ => false
def dLst : PyData → Bool
  | .list _ => true
  | _ => false
def dInt : PyData → Bool
  | .int _ => true
  | .bool _ => true
  | _ => false
def dBool : PyData → Bool
  | .bool _ => true
  | _ => false
def dGet : PyData → Nat → PyData
  | .tuple xs, k => xs.getD k .none
  | .list xs, k => xs.getD k .none
  | _, _ => .none
def dHasT : PyData → Nat → Bool
  | .tuple xs, k => decide (k < xs.length)
  | _, _ => false
theorem rp_ref (g : dSeq d = true) (r : Rp H v d) : ∃ a, v = .ref a := by
  cases r <;> first | exact ⟨_, rfl⟩ | cases g
theorem rp_dget {k : Nat} (g : dHasT d k = true) (r : Rp H v d) : ∃ a vs u, v = .ref a ∧ H a = some (.tup vs) ∧ atI vs (k : Int) = some u ∧ Rp H u (dGet d k) := by
  cases r with
  | tup h rs =>
    rename_i ds
    have hk : k < ds.length := of_decide_eq_true g
    obtain ⟨u, h1, h2⟩ := RpAll.at' (i := k) (d := ds[k]) rs (List.getElem?_eq_getElem hk)
    refine ⟨_, _, u, rfl, h, ?_, ?_⟩
    · exact atI_nat h1
    · show Rp H u (ds.getD k .none)
      rw [List.getD_eq_getElem?_getD, List.getElem?_eq_getElem hk]
      exact h2
  | _ => cases g
theorem rp_non {x : Unit} (r : Rp H v (encN x)) : v = .non := by unfold encN at r; cases r; rfl
theorem rp_tup1 {α : Type} {f : α → PyData} {x : α} (r : Rp H v (encT1 f x)) : ∃ a v1, v = .ref a ∧ H a = some (.tup [v1]) ∧ Rp H v1 (f x) := by
  unfold encT1 at r
  cases r with
  | tup h1 h2 =>
    cases h2 with
    | cons r1 t => cases t; exact ⟨_, _, rfl, h1, r1⟩
theorem rp_mk1 {α : Type} {f : α → PyData} {a : Addr} {v1 : V} {x : α} (h1 : H a = some (.tup [v1])) (r1 : Rp H v1 (f x)) : Rp H (.ref a) (encT1 f x) := .tup h1 (.cons r1 .nil)
theorem rp_none_iff (r : Rp H v d) : decide (v = V.non) = dNone d := by
  cases r <;> simp [dNone]
end
section
variable {X : Cx}
def rIsND : R2 := fun x y H Q => ∃ d, y = .non ∧ Rp H x d ∧ Q (.bl (dNone d)) H
def rNotND : R2 := fun x y H Q => ∃ d, y = .non ∧ Rp H x d ∧ Q (.bl (!dNone d)) H
theorem op_isND : OpR X (compareOp .Is) rIsND := by
  intro pins s σ H x y v u Q I rx ry h
  obtain ⟨d, e, r, q⟩ := h
  exact op_isN pins s σ H x y v u Q I rx ry ⟨e, by rw [rp_none_iff r]; exact q⟩
theorem op_notND : OpR X (compareOp .IsNot) rNotND := by
  intro pins s σ H x y v u Q I rx ry h
  obtain ⟨d, e, r, q⟩ := h
  exact op_notN pins s σ H x y v u Q I rx ry ⟨e, by rw [rp_none_iff r]; exact q⟩
def rEqD : R2 := fun x y H Q => ∃ a b : PyData, Rp H x a ∧ Rp H y b ∧ (SeqAt.shaped a = true ∧ SeqAt.shaped b = true) ∧ Q (.bl (PyData.eqv a b)) H
def rNeD : R2 := fun x y H Q => ∃ a b : PyData, Rp H x a ∧ Rp H y b ∧ (SeqAt.shaped a = true ∧ SeqAt.shaped b = true) ∧ Q (.bl (!PyData.eqv a b)) H
theorem op_eqDD (hu : X.A.units + 64 < cLine) : OpR X (compareOp .Eq) rEqD := by
  intro pins s σ H x y v u Q I rx ry h
  obtain ⟨a, b, h1, h2, ⟨s1, s2⟩, q⟩ := h
  exact op_eqD hu pins s σ H _ _ v u Q I rx ry ⟨_, _, h1.dp, h2.dp, s1, s2, q⟩
theorem op_neDD (hu : X.A.units + 64 < cLine) : OpR X (compareOp .NotEq) rNeD := by
  intro pins s σ H x y v u Q I rx ry h
  obtain ⟨a, b, h1, h2, ⟨s1, s2⟩, q⟩ := h
  exact op_neD hu pins s σ H _ _ v u Q I rx ry ⟨_, _, h1.dp, h2.dp, s1, s2, q⟩
def dTy : PyData → String
  | .none => "NoneType"
  | .bool _ => "bool"
  | .int _ => "int"
  | .str _ => "str"
  | .list _ => "list"
  | .tuple _ => "tuple"
  | .dict _ => "dict"
theorem Rp.tyX {K : PySem.W.Frag} {H : Hp} {v : V} {d : PyData} (r : Rp H v d) : TyX K H v (.type (dTy d)) := by
  cases r with
  | non => exact .base .non
  | bl b => exact .base (.bl b)
  | int i => exact .base (.int i)
  | str x => exact .base (.str x)
  | lst h _ => exact .base (.lst h)
  | tup h _ => exact .base (.tup h)
def rIsiD (T : String) (f : PyData → Bool) : List V → Hp → VK → Prop := fun xs H Q => ∃ (x : V) (d : PyData), xs = [x, .ty T] ∧ Rp H x d ∧ Q (.bl (f d)) H
theorem call_isiD {T : String} {f : PyData → Bool} (hT : ∀ d, kitB (dTy d) T = some (f d)) : CallR X (.builtin "isinstance") (rIsiD T f) := by
  intro pins s σ H xs us Q I r h
  obtain ⟨x, d, rfl, rx, q⟩ := h
  exact call_isi pins s σ H _ us Q I r ⟨x, .ty T, _, _, _, rfl, .ty T, rx.tyX, kit_ty (hT d), q⟩
theorem kit_dTup (d : PyData) : kitB (dTy d) "tuple" = some (dTup d) := by
  cases d with
  | none => exact (by decide +kernel : kitB "NoneType" "tuple" = some false)
  | bool _ => exact (by decide +kernel : kitB "bool" "tuple" = some false)
  | int _ => exact (by decide +kernel : kitB "int" "tuple" = some false)
  | str _ => exact (by decide +kernel : kitB "str" "tuple" = some false)
  | list _ => exact (by decide +kernel : kitB "list" "tuple" = some false)
  | tuple _ => exact (by decide +kernel : kitB "tuple" "tuple" = some true)
  | dict _ => exact (by decide +kernel : kitB "dict" "tuple" = some false)
theorem kit_dLst (d : PyData) : kitB (dTy d) "list" = some (dLst d) := by
  cases d with
  | none => exact (by decide +kernel : kitB "NoneType" "list" = some false)
  | bool _ => exact (by decide +kernel : kitB "bool" "list" = some false)
  | int _ => exact (by decide +kernel : kitB "int" "list" = some false)
  | str _ => exact (by decide +kernel : kitB "str" "list" = some false)
  | list _ => exact (by decide +kernel : kitB "list" "list" = some true)
  | tuple _ => exact (by decide +kernel : kitB "tuple" "list" = some false)
  | dict _ => exact (by decide +kernel : kitB "dict" "list" = some false)
theorem kit_dInt (d : PyData) : kitB (dTy d) "int" = some (dInt d) := by
  cases d with
  | none => exact (by decide +kernel : kitB "NoneType" "int" = some false)
  | bool _ => exact (by decide +kernel : kitB "bool" "int" = some true)
  | int _ => exact (by decide +kernel : kitB "int" "int" = some true)
  | str _ => exact (by decide +kernel : kitB "str" "int" = some false)
  | list _ => exact (by decide +kernel : kitB "list" "int" = some false)
  | tuple _ => exact (by decide +kernel : kitB "tuple" "int" = some false)
  | dict _ => exact (by decide +kernel : kitB "dict" "int" = some false)
theorem kit_dBool (d : PyData) : kitB (dTy d) "bool" = some (dBool d) := by
  cases d with
  | none => exact (by decide +kernel : kitB "NoneType" "bool" = some false)
  | bool _ => exact (by decide +kernel : kitB "bool" "bool" = some true)
  | int _ => exact (by decide +kernel : kitB "int" "bool" = some false)
  | str _ => exact (by decide +kernel : kitB "str" "bool" = some false)
  | list _ => exact (by decide +kernel : kitB "list" "bool" = some false)
  | tuple _ => exact (by decide +kernel : kitB "tuple" "bool" = some false)
  | dict _ => exact (by decide +kernel : kitB "dict" "bool" = some false)
end
/-! ### written dicts of numbers with text keys -/
inductive ES (P : Params) : List (Str × Int) → List DictEntry → Prop
  | nil : ES P [] []
  | cons {h k v} {t u : Tok} {r : List (Str × Int)} {es : List DictEntry} (e : h = PyData.keyHash P k) (x : ES P r es) : ES P ((k, v) :: r) (⟨h, .str k t, .int v u⟩ :: es)
def lookS : List (Str × Int) → Str → Option Int
  | [], _ => none
  | (k, v) :: r, i => if k = i then some v else lookS r i
def KDS (K : PySem.W.Frag) (w : World) (a : Addr) (kvs : List (Str × Int)) : Prop :=
  ∃ es n, K.lookup a = some ⟨.type "dict", none, .dict es n, #[]⟩ ∧ ES w.params kvs es.toList
theorem ES.lit {P : Params} : ∀ {kvs : List (Str × Int)} {es : List DictEntry}, ES P kvs es → PySem.W.KeysLit P es
  | _, _, .nil => trivial
  | _, _, .cons e x => ⟨⟨_, _, rfl, e⟩, ES.lit x⟩
theorem ES.find {P : Params} {i : Str} {v : Int} : ∀ {kvs : List (Str × Int)} {es : List DictEntry}, ES P kvs es → lookS kvs i = some v → ∃ e u, es.find? (fun e => e.key.isStr i) = some e ∧ e.val = .int v u
  | _, _, .nil, h => by cases h
  | _, _, .cons (k := k) (u := u) e x, h => by
    unfold lookS at h
    by_cases q : k = i
    · rw [if_pos q] at h
      subst q
      cases h
      refine ⟨_, u, List.find?_cons_of_pos ?_, rfl⟩
      simp [Value.isStr]
    · rw [if_neg q] at h
      obtain ⟨e', u', h1, h2⟩ := ES.find x h
      refine ⟨e', u', ?_, h2⟩
      rw [List.find?_cons_of_neg]
      · exact h1
      · simp [Value.isStr, q]
theorem KDS.at {K : PySem.W.Frag} {w : World} {a : Addr} {kvs : List (Str × Int)} {z : Str} {v : Int} (D : KDS K w a kvs) (h : lookS kvs z = some v) : KDct K w a z (.int v) := by
  obtain ⟨es, n, hl, x⟩ := D
  obtain ⟨e, u, h1, h2⟩ := x.find h
  refine ⟨es, n, .int v u, hl, x.lit, ?_, ⟨u, rfl⟩⟩
  unfold PySem.W.nsIn
  rw [hl]
  show (match es.toList.find? (fun e => e.key.isStr z) with
      | some e => some (some e.val)
      | none => if es.toList.any (·.refKey) then none else some none) = _
  rw [h1]
  show some (some e.val) = _
  rw [h2]
def rIxDS (K : PySem.W.Frag) (w : World) : R2 := fun x y H Q => ∃ (p : Addr) (z : Str) (kvs : List (Str × Int)) (v : Int), x = .ref p ∧ y = .str z ∧ KDS K w p kvs ∧ lookS kvs z = some v ∧ Q (.int v) H
theorem ix_DS {X : Cx} {K : PySem.W.Frag} {w : World} (hK : X.K = K := by rfl) (hw : X.w = w := by rfl) : IxR X (rIxDS K w) := by
  subst hK hw
  intro value slice pins s σ H x y v u Q I rx ry h hs
  obtain ⟨p, z, kvs, r, e1, e2, D, e, q⟩ := h
  exact ix_kdict value slice pins s σ H x y v u Q I rx ry ⟨p, z, .int r, e1, e2, D.at e, q⟩ hs
def dictS (kvs : List (Str × Int)) (i : Str) : Int := (lookS kvs i).getD 0
def hasS (kvs : List (Str × Int)) (i : Str) : Bool := (lookS kvs i).isSome
theorem lookS_at {kvs : List (Str × Int)} {i : Str} (h : hasS kvs i = true) : lookS kvs i = some (dictS kvs i) := by
  unfold hasS at h
  unfold dictS
  cases e : lookS kvs i with
  | none => rw [e] at h; cases h
  | some v => rfl
/-! ### for the mathematics -/
theorem eqv_enc {α : Type} [DecidableEq α] {n : Nat} {f : α → PyData} (ok : EncOk n f) (x y : α) : PyData.eqv (f x) (f y) = decide (x = y) := ok.eqv x y
end Vx
namespace Vx
open PySem PySem.Spec PyProof.Rows L2
theorem sm_str {x : Str} (h : (reprText x).length ≤ 20) : Sm 1 0 (.str x) := ⟨by simp only [smallD, decide_eq_true_eq]; exact h, by simp [nodes], by simp [PyData.depth]⟩
theorem sm_none : Sm 1 0 (encN ()) := sm_non
theorem sm_T1 {α : Type} {f : α → PyData} {n k : Nat} {p : α} (h1 : Sm n k (f p)) : Sm (1 + n) (k + 1) (encT1 f p) := by
  obtain ⟨a1, a2, a3⟩ := h1
  refine ⟨by simp [encT1, smallD, smallAll, a1], ?_, ?_⟩
  · simp only [encT1, nodes, nodesAll]
    omega
  · simp only [encT1, PyData.depth, PyData.depthAll]
    omega
theorem sm_T4 {α β γ δ : Type} {f : α → PyData} {g : β → PyData} {h : γ → PyData} {e : δ → PyData} {n k m j l i o q : Nat} {p : α × β × γ × δ} (h1 : Sm n k (f p.1)) (h2 : Sm m j (g p.2.1)) (h3 : Sm l i (h p.2.2.1)) (h4 : Sm o q (e p.2.2.2)) : Sm (1 + n + m + l + o) (max k (max j (max i q)) + 1) (encT4 f g h e p) := by
  obtain ⟨a1, a2, a3⟩ := h1
  obtain ⟨b1, b2, b3⟩ := h2
  obtain ⟨c1, c2, c3⟩ := h3
  obtain ⟨d1, d2, d3⟩ := h4
  refine ⟨by simp [encT4, smallD, smallAll, a1, b1, c1, d1], ?_, ?_⟩
  · simp only [encT4, nodes, nodesAll]
    omega
  · simp only [encT4, PyData.depth, PyData.depthAll]
    omega
theorem Sm.enc {n k : Nat} {d : PyData} (h : Sm n k d) : Sm n k (encD d) := h
end Vx
namespace Vx
theorem len8 {α : Type} {l : List α} (h : l.length = 8) : ∃ x0 x1 x2 x3 x4 x5 x6 x7, l = [x0, x1, x2, x3, x4, x5, x6, x7] := by
  obtain ⟨x0, r, rfl, h2⟩ := len_s h
  obtain ⟨x1, x2, x3, x4, x5, x6, x7, rfl⟩ := len7 h2
  exact ⟨x0, x1, x2, x3, x4, x5, x6, x7, rfl⟩
theorem len9 {α : Type} {l : List α} (h : l.length = 9) : ∃ x0 x1 x2 x3 x4 x5 x6 x7 x8, l = [x0, x1, x2, x3, x4, x5, x6, x7, x8] := by
  obtain ⟨x0, r, rfl, h2⟩ := len_s h
  obtain ⟨x1, x2, x3, x4, x5, x6, x7, x8, rfl⟩ := len8 h2
  exact ⟨x0, x1, x2, x3, x4, x5, x6, x7, x8, rfl⟩
theorem len10 {α : Type} {l : List α} (h : l.length = 10) : ∃ x0 x1 x2 x3 x4 x5 x6 x7 x8 x9, l = [x0, x1, x2, x3, x4, x5, x6, x7, x8, x9] := by
  obtain ⟨x0, r, rfl, h2⟩ := len_s h
  obtain ⟨x1, x2, x3, x4, x5, x6, x7, x8, x9, rfl⟩ := len9 h2
  exact ⟨x0, x1, x2, x3, x4, x5, x6, x7, x8, x9, rfl⟩
theorem len11 {α : Type} {l : List α} (h : l.length = 11) : ∃ x0 x1 x2 x3 x4 x5 x6 x7 x8 x9 x10, l = [x0, x1, x2, x3, x4, x5, x6, x7, x8, x9, x10] := by
  obtain ⟨x0, r, rfl, h2⟩ := len_s h
  obtain ⟨x1, x2, x3, x4, x5, x6, x7, x8, x9, x10, rfl⟩ := len10 h2
  exact ⟨x0, x1, x2, x3, x4, x5, x6, x7, x8, x9, x10, rfl⟩
theorem len12 {α : Type} {l : List α} (h : l.length = 12) : ∃ x0 x1 x2 x3 x4 x5 x6 x7 x8 x9 x10 x11, l = [x0, x1, x2, x3, x4, x5, x6, x7, x8, x9, x10, x11] := by
  obtain ⟨x0, r, rfl, h2⟩ := len_s h
  obtain ⟨x1, x2, x3, x4, x5, x6, x7, x8, x9, x10, x11, rfl⟩ := len11 h2
  exact ⟨x0, x1, x2, x3, x4, x5, x6, x7, x8, x9, x10, x11, rfl⟩
end Vx
namespace Vx
open PySem PySem.Spec PyProof.Rows L2
theorem Sep.mutnews {M : List Addr} {H0 G0 G H H' : Hp} {O : List Addr} (S : Sep M H0 G0 G H O) {L : List Addr} (x : SameXs L H H') (hL : ∀ a ∈ L, a ∈ O) (hs : ∀ a ∈ L, H' a ≠ none) (N : List Addr) (hN : ∀ a ∈ N, H a = none ∧ H' a ≠ none ∧ H0 a = none) : Sep M H0 G0 G H' (N ++ O) := by
  have S1 := S.mut x hL hs
  refine ⟨S1.base, S1.pm, S1.sG, S1.g0, S1.gn, fun a ha => ?_⟩
  rcases List.mem_append.mp ha with z | z
  · obtain ⟨h1, h2, h3⟩ := hN a z
    exact ⟨S.gfree h1, h2, .inr h3⟩
  · exact S1.ow a z
end Vx
/-! # sorted(set(xs)), xs a list of numbers -/
namespace Vs
open PySem PySem.Spec PyProof.Rows L2
section
variable {prog : Program} {wo : World} {Ar : Around} {Er : Value → Shared → Prop} {st : Shared}
/-- the object that set.__new__ lays -/
abbrev bare (wo : World) : Obj := { cls := .type "set", dict := none, data := .set #[] 0 (.fresh 0 0 (!wo.params.followText "set-order")) }
theorem get_bare (h : Heap) : (h.push (bare wo)).get? h.objs.size = some (bare wo) := Heap.get?_push_size _ rfl
/-- set.__init__ of a new, empty set over a list of numbers -/
theorem init_list {lst : Addr} {arr : Array Value} {ks : List Int} (calm : Ar.handled = none) (isl : st.heap.IsList lst arr) (hin : IntsAre arr.toList ks) (few : ks.length + 1 < scanBound)
    (R : Result → Shared → Prop)
    (fin : ∀ (g : Heap) (tk c : Nat), SetR wo g st.heap.objs.size (fun j => decide (j ∈ ks)) c → c ≤ ks.length → (∀ b o, st.heap.get? b = some o → g.get? b = some o) → R (.ok (.ret .none)) { st with heap := g, toks := tk }) :
    codeAny (model prog wo) Ar (.call (.builtin "set.__init__") ⟨[.ref st.heap.objs.size, .ref lst], []⟩) R { st with heap := st.heap.push (bare wo) } := by
  have typ : Shared.TypeIs { st with heap := st.heap.push (bare wo) } (.ref st.heap.objs.size) "set" := ⟨_, get_bare _, rfl⟩
  have len : arr.size = ks.length := by
    have z := hin.length
    rwa [Array.length_toList] at z
  refine codeAny_call_builtin F.called_set.init.plain F.entry_set_init (check_set_init_1 typ ?_)
  obtain ⟨⟨k1, k2, k3, k4⟩, ho, e1, m, e2⟩ := isl
  simp only at e1 e2
  subst e1 e2
  have below : lst < st.heap.objs.size := Heap.lt_size ho
  have il : (st.heap.push (bare wo)).IsList lst arr := ⟨_, Heap.get?_push_of_some _ ho, rfl, m, rfl⟩
  have a1 := F.sub_list_set
  have a2 := F.sub_list_frozenset
  have a3 : (Value.type "list" == Value.type "dict") = false := by decide
  have a4 := Heap.get?_push_of_some (bare wo) ho
  unfold Builtin.«set.__init__» noKeywords Builtin.Frozenset.updateFrom
  generalize hw : pyIter = WK
  wp_walk
  subst hw
  refine wpAny_pyIter_list il (wpAny_bind (wpAny_runValue ?_))
  have sz : (st.heap.push (bare wo)).objs.size = st.heap.objs.size + 1 := Heap.size_push ..
  have c3 : Ar.in1.in1.handled = none := by simp [calm]
  have far : lst ≠ (st.heap.push (bare wo)).objs.size := by rw [sz]; exact Nat.ne_of_lt (Nat.lt_succ_of_lt below)
  have out : st.heap.objs.size ∉ [(st.heap.push (bare wo)).objs.size, lst] := by
    intro z
    rcases List.mem_cons.mp z with z | z
    · rw [sz] at z; exact absurd z (Nat.ne_of_lt (Nat.lt_succ_self _))
    · exact absurd (List.mem_singleton.mp z) (Nat.ne_of_gt below)
  refine set_update_ints ((Walks.list c3 _ lst far arr).toS) st.heap.objs.size out ks len few (fun i v hv => ?_) (arr.size - 0) 0 _ (by omega) (Nat.zero_le _) ?_ ?_ ?_
  · have hi : i < ks.length := by rw [← len]; exact (Array.getElem?_eq_some_iff.mp hv).1
    obtain ⟨t, e⟩ := PyProof.Rows.IntsAre.int_at hin i v (by rw [Array.getElem?_toList]; exact hv)
    refine ⟨ks[i], t, List.getElem?_eq_getElem hi, ?_⟩
    rw [e, List.getD_eq_getElem?_getD, List.getElem?_eq_getElem hi] <;> rfl
  · exact ⟨⟨_, Heap.get?_push_size _ rfl, rfl, rfl⟩, il.push _⟩
  · exact ⟨0, Nat.le_refl 0, setR_new_at (Heap.get?_push_of_some _ (get_bare _))⟩
  · rintro ⟨g, q1, q2, q3, q4⟩ c mv hc hs
    have b1 : q1 = st.gens := mv.gens
    have b2 : q2 = st.drawn := mv.drawn
    have b3 : q4 = st.os := mv.os
    subst b1 b2 b3
    refine wpAny_pure ?_
    refine wpAny_pure ?_
    rw [len] at hc
    refine fin g q3 c hs hc fun b o e => ?_
    have hb : b < st.heap.objs.size := Heap.lt_size e
    refine mv.heap b o (fun z => ?_) (Heap.get?_push_of_some _ (Heap.get?_push_of_some _ e))
    rcases List.mem_cons.mp z with z | z
    · exact absurd z (Nat.ne_of_lt hb)
    · have z := List.mem_singleton.mp z
      rw [sz] at z
      exact absurd z (Nat.ne_of_lt (Nat.lt_succ_of_lt hb))
end
end Vs
namespace Vs
open PySem PySem.Spec PyProof.Rows L2
section
variable {prog : Program} {wo : World} {Ar : Around} {Er : Value → Shared → Prop} {st : Shared}
/-- set(xs): a new set of the numbers of a list -/
theorem make_list {lst : Addr} {arr : Array Value} {ks : List Int} {Q : Value → Shared → Prop} (calm : Ar.handled = none) (isl : st.heap.IsList lst arr) (hin : IntsAre arr.toList ks) (few : ks.length + 1 < scanBound)
    (fin : ∀ (g : Heap) (tk c : Nat), SetR wo g st.heap.objs.size (fun j => decide (j ∈ ks)) c → c ≤ ks.length → (∀ b o, st.heap.get? b = some o → g.get? b = some o) → Q (.ref st.heap.objs.size) { st with heap := g, toks := tk }) :
    wpAny (model prog wo) Ar (call (.type "set") [.ref lst]) Q Er st := by
  obtain ⟨cc, tl, hmro⟩ := F.called_set.mro
  have m1 := F.called_set.made
  have m2 := F.called_set.sub
  have m3 := F.called_set.notType
  have m4 := F.called_set.canCreate
  have m5 := F.typeCall_set_1 (.ref lst)
  refine wpAny_call (codeAny_of_tree ?_)
  show wpAny _ _ (callAny (.type "set") _) _ _ _
  refine wpAny_pure ⟨Code.quiet_builtin _ (by decide +kernel), codeAny_builtin F.entry_type_call ?_⟩
  rw [Around.under_plain (weight_type_call_type "set" [.ref lst] []) rfl]
  repeat (any_goals (first | assumption | wp_step))
  refine codeAny_mono (code_set_led1 (.ref lst) (E := Er) (Q₁ := fun obj z => obj = .ref st.heap.objs.size ∧ z = { st with heap := st.heap.push (bare wo) }) ⟨rfl, rfl⟩) fun r z hr => ?_
  match r, hr with
  | .error e, hr => exact hr
  | .ok (.ret obj), hr =>
    obtain ⟨rfl, rfl⟩ := hr
    have m6 := F.called_set.init.lookup
    have m7 := F.called_set.init.bind (.ref st.heap.objs.size)
    have typ : Shared.TypeIs { st with heap := st.heap.push (bare wo) } (.ref st.heap.objs.size) "set" := ⟨_, get_bare _, rfl⟩
    repeat (any_goals (first | assumption | wp_step))
    refine codeAny_mono (init_list (R := wants (fun r z => r = .none ∧ ∃ g tk c, z = { st with heap := g, toks := tk } ∧ SetR wo g st.heap.objs.size (fun j => decide (j ∈ ks)) c ∧ c ≤ ks.length ∧ ∀ b o, st.heap.get? b = some o → g.get? b = some o) Er)
      (by simp [calm]) isl hin few fun g tk c a b k => ⟨rfl, g, tk, c, rfl, a, b, k⟩) fun r z hr => ?_
    match r, hr with
    | .error e, hr => exact hr
    | .ok (.ret v), hr =>
      obtain ⟨rfl, g, tk, c, rfl, a, b, k⟩ := hr
      repeat (any_goals (first | assumption | wp_step))
      exact fin _ _ _ a b k
end
section
variable {X : Cx}
/-- set(xs) -/
def rSetI (w : World) : List V → Hp → VK → Prop := fun xs H Q => ∃ (l : Addr) (ks : List Int), xs = [V.ref l] ∧ (∃ K, SqL K H l (ks.map V.int)) ∧ ks.length ≤ 50 ∧
  ∀ (p : Addr) (n : Nat), n ≤ ks.length → H p = none → Q (.ref p) (upd H p (SetO w p (fun j => decide (j ∈ ks)) n))
end
end Vs
namespace Vx
open PySem PySem.Spec PyProof.Rows L2
section
variable {X : Cx}
def rSetI (K : PySem.W.Frag) (w : World) : List V → Hp → VK → Prop := fun xs H Q => ∃ (l : Addr) (ks : List Int), xs = [V.ref l] ∧ SqL K H l (ks.map V.int) ∧ ks.length ≤ 50 ∧
  ∀ (p : Addr) (n : Nat), n ≤ ks.length → H p = none → Q (.ref p) (upd H p (SetO w p (fun j => decide (j ∈ ks)) n))
theorem cr_setI {K : PySem.W.Frag} {w : World} (hc : X.calm = true) (hK : X.K = K := by rfl) (hw : X.w = w := by rfl) : CallR X (.type "set") (rSetI K w) := by
  subst hK hw
  intro pins s σ H xs us Q I r h
  obtain ⟨l, ks, rfl, hl, hf, q⟩ := h
  rw [Vals.ref1 r]
  obtain ⟨its, rv, pl, hz⟩ := I.list hl
  have hb : scanBound = 4096 := rfl
  refine Vs.make_list (I.ok.hd hc) pl.isList (by simpa using ints_of_vals rv) (by omega) fun g tk c R hcn k => ?_
  exact ⟨.ref _, upd H _ (SetO X.w _ (fun j => decide (j ∈ ks)) c), I.laid (t' := tk) k (Nat.le_refl _) (setO_new R), rfl, q _ c hcn (I.hok.fresh (Nat.le_refl _))⟩
def rSortSet (w : World) : List V → Hp → VK → Prop := fun vs H Q => ∃ (a : Addr) (ks : List Int) (n : Nat), vs = [V.ref a] ∧ H a = some (SetO w a (fun j => decide (j ∈ ks)) n) ∧ n ≤ 50 ∧
  ∀ (ns : List Int) (p : Addr), ns.Pairwise (· < ·) → (∀ k : Int, k ∈ ns ↔ k ∈ ks) → H p = none → Q (.ref p) (upd H p (.lst (ns.map V.int)))
theorem cr_sortSet {w : World} (hc : X.calm = true) (hw : X.w = w := by rfl) : CallR X (.builtin "sorted") (rSortSet w) := by
  subst hw
  intro pins s σ H vs us Q I r h
  obtain ⟨a, ks, n, rfl, ha, h64, q⟩ := h
  exact cr_sortedSet hc pins s σ H _ us Q I r ⟨a, _, n, rfl, ha, by omega, fun ns p pw hm hl hn => q ns p pw (fun k => (hm k).trans decide_eq_true_iff) hn⟩
end
/-! ### numbers in order, each once -/
def insS (x : Int) : List Int → List Int
  | [] => [x]
  | y :: r => if x < y then x :: y :: r else if x = y then y :: r else y :: insS x r
def sortSet (xs : List Int) : List Int := xs.foldr insS []
theorem insS_mem {x k : Int} : ∀ {l : List Int}, k ∈ insS x l ↔ k = x ∨ k ∈ l
  | [] => by simp [insS]
  | y :: r => by
    unfold insS
    split
    · simp
    · split
      · next h => subst h; simp
      · rw [List.mem_cons, insS_mem (l := r), List.mem_cons]
        constructor <;> (intro h; rcases h with h | h | h <;> simp [h])
theorem insS_pw {x : Int} : ∀ {l : List Int}, l.Pairwise (· < ·) → (insS x l).Pairwise (· < ·)
  | [], _ => by simp [insS]
  | y :: r, h => by
    have hy := List.pairwise_cons.mp h
    unfold insS
    split
    · next c =>
      refine List.pairwise_cons.mpr ⟨fun z hz => ?_, h⟩
      rcases List.mem_cons.mp hz with rfl | hz
      · exact c
      · exact Int.lt_trans c (hy.1 z hz)
    · next c =>
      split
      · exact h
      · refine List.pairwise_cons.mpr ⟨fun z hz => ?_, insS_pw hy.2⟩
        rcases insS_mem.mp hz with rfl | hz
        · omega
        · exact hy.1 z hz
theorem sortSet_mem {k : Int} : ∀ {l : List Int}, k ∈ sortSet l ↔ k ∈ l
  | [] => Iff.rfl
  | y :: r => by
    show k ∈ insS y (sortSet r) ↔ _
    rw [insS_mem, sortSet_mem (l := r), List.mem_cons]
theorem sortSet_pw : ∀ l : List Int, (sortSet l).Pairwise (· < ·)
  | [] => List.Pairwise.nil
  | y :: r => insS_pw (sortSet_pw r)
theorem pw_uniq : ∀ {a b : List Int}, a.Pairwise (· < ·) → b.Pairwise (· < ·) → (∀ k : Int, k ∈ a ↔ k ∈ b) → a = b
  | [], [], _, _, _ => rfl
  | [], y :: r, _, _, h => absurd ((h y).mpr List.mem_cons_self) (by simp)
  | x :: r, [], _, _, h => absurd ((h x).mp List.mem_cons_self) (by simp)
  | x :: r, y :: t, p, q, h => by
    have p := List.pairwise_cons.mp p
    have q := List.pairwise_cons.mp q
    have e : x = y := by
      rcases List.mem_cons.mp ((h x).mp List.mem_cons_self) with e | e
      · exact e
      · rcases List.mem_cons.mp ((h y).mpr List.mem_cons_self) with e2 | e2
        · exact e2.symm
        · have := q.1 x e
          have := p.1 y e2
          omega
    subst e
    rw [pw_uniq p.2 q.2 fun k => ?_]
    have hk := h k
    rw [List.mem_cons, List.mem_cons] at hk
    constructor
    · intro z
      rcases hk.mp (.inr z) with e | e
      · have := p.1 k z; omega
      · exact e
    · intro z
      rcases hk.mpr (.inr z) with e | e
      · have := q.1 k z; omega
      · exact e
theorem sortSet_of {ks ns : List Int} (p : ns.Pairwise (· < ·)) (h : ∀ k : Int, k ∈ ns ↔ k ∈ ks) : ns = sortSet ks := pw_uniq p (sortSet_pw ks) fun k => (h k).trans sortSet_mem.symm
theorem gen_new2 {H H' : Hp} {p q : Addr} {o u : HO} (n : H p = none) (m : upd H p o q = none) (h : upd (upd H p o) q u = H') : Same H H' ∧ H' q = some u ∧ H q = none := by
  have hne : q ≠ p := fun z => by rw [z, upd_same] at m; cases m
  have hq : H q = none := by rwa [upd_ne hne] at m
  subst h
  refine ⟨fun b x e => ?_, upd_same, hq⟩
  rw [upd_ne (fun z => by rw [z, hq] at e; cases e), upd_ne (fun z => by rw [z, n] at e; cases e)]
  exact e
/-! ### texts in tuples and lists -/
theorem map_getF {α : Type} {f : α → V} {xs : List α} {i : Nat} {x : V} (h : (xs.map f)[i]? = some x) : ∃ o, xs[i]? = some o ∧ x = f o := by
  rw [List.getElem?_map] at h
  cases e : xs[i]? with
  | none => rw [e] at h; cases h
  | some o => rw [e] at h; exact ⟨o, rfl, (Option.some.inj h).symm⟩
theorem inV_strs (x : Str) : ∀ xs : List Str, inV (V.str x) (xs.map V.str) = decide (x ∈ xs)
  | [] => by simp [inV]
  | y :: r => by
    have h := inV_strs x r
    unfold inV at h ⊢
    rw [List.map_cons, List.any_cons, h]
    by_cases c : x = y
    · subst c
      simp [eqV]
    · simp [eqV, c, Ne.symm c]
theorem flat_strs : ∀ xs : List Str, (xs.map V.str).all flatV = true
  | [] => rfl
  | _ :: r => flat_strs r
section
variable {X : Cx} {K : PySem.W.Frag}
def rInS (K : PySem.W.Frag) : R2 := fun x y H Q => ∃ (i : Str) (p : Addr) (xs : List Str), x = .str i ∧ y = .ref p ∧ (SqL K H p (xs.map V.str) ∨ SqT K H p (xs.map V.str)) ∧ Q (.bl (decide (i ∈ xs))) H
theorem op_inS (hK : X.K = K := by rfl) : OpR X (compareOp .In) (rInS K) := by
  subst hK
  intro pins s σ H x y v u Q I rx ry h
  obtain ⟨i, p, xs, e1, e2, hs, q⟩ := h
  refine op_in_seq pins s σ H _ _ v u Q I rx ry ⟨p, _, e2, hs, by rw [e1]; rfl, flat_strs xs, ?_⟩
  rw [if_neg Bool.false_ne_true, e1, inV_strs]
  exact q
/-- a list or a tuple of numbers -/
def SeqI (K : PySem.W.Frag) (H : Hp) (v : V) (xs : List Int) : Prop := ∃ a, v = .ref a ∧ (H a = some (.lst (xs.map V.int)) ∨ H a = some (.tup (xs.map V.int)) ∨ ∀ H, SqT K H a (xs.map V.int))
def rListSI (K : PySem.W.Frag) : List V → Hp → VK → Prop := fun xs H Q => ∃ (v : V) (ks : List Int), xs = [v] ∧ SeqI K H v ks ∧ ∀ l, H l = none → Q (.ref l) (upd H l (.lst (ks.map V.int)))
theorem call_listSI (hK : X.K = K := by rfl) : CallR X (.type "list") (rListSI K) := by
  subst hK
  intro pins s σ H xs us Q I r h
  obtain ⟨v, ks, rfl, ⟨a, rfl, h2⟩, q⟩ := h
  refine call_list_of pins s σ H _ us Q I r ⟨a, _, rfl, ?_, q⟩
  rcases h2 with z | z | z
  · exact .inl (SqL.of z)
  · exact .inr (SqT.of z)
  · exact .inr (z H)
theorem SeqI.mono {H H' : Hp} {v : V} {xs : List Int} (e : Same H H') (h : SeqI K H v xs) : SeqI K H' v xs := by
  obtain ⟨a, e1, h⟩ := h
  refine ⟨a, e1, ?_⟩
  rcases h with z | z | z
  · exact .inl (e _ _ z)
  · exact .inr (.inl (e _ _ z))
  · exact .inr (.inr z)
def rTupLK (K : PySem.W.Frag) : List V → Hp → VK → Prop := fun xs H Q => ∃ (p : Addr) (ks : List Int), xs = [.ref p] ∧ SqL K H p (ks.map V.int) ∧ ∀ l, H l = none → Q (.ref l) (upd H l (.tup (ks.map V.int)))
theorem call_tupLK (hK : X.K = K := by rfl) : CallR X (.type "tuple") (rTupLK K) := by
  subst hK
  intro pins s σ H xs us Q I r h
  obtain ⟨p, ks, rfl, hs, q⟩ := h
  exact call_tuple_of pins s σ H _ us Q I r ⟨p, _, rfl, .inl ⟨hs, q⟩⟩
end
/-! ### written dicts of tuples with text keys -/
def lookG {α : Type} : List (Str × α) → Str → Option α
  | [], _ => none
  | (k, v) :: r, i => if k = i then some v else lookG r i
def dictG {α : Type} [Inhabited α] (kvs : List (Str × α)) (i : Str) : α := (lookG kvs i).getD default
def hasG {α : Type} (kvs : List (Str × α)) (i : Str) : Bool := (lookG kvs i).isSome
theorem lookG_at {α : Type} [Inhabited α] {kvs : List (Str × α)} {i : Str} (h : hasG kvs i = true) : lookG kvs i = some (dictG kvs i) := by
  unfold hasG at h
  unfold dictG
  cases e : lookG kvs i with
  | none => rw [e] at h; cases h
  | some v => rfl
inductive EA (P : Params) : List (Str × Addr) → List DictEntry → Prop
  | nil : EA P [] []
  | cons {h k a} {t : Tok} {r : List (Str × Addr)} {es : List DictEntry} (e : h = PyData.keyHash P k) (x : EA P r es) : EA P ((k, a) :: r) (⟨h, .str k t, .ref a⟩ :: es)
def KDA (K : PySem.W.Frag) (w : World) (a : Addr) (kvs : List (Str × Addr)) : Prop :=
  ∃ es n, K.lookup a = some ⟨.type "dict", none, .dict es n, #[]⟩ ∧ EA w.params kvs es.toList
theorem EA.lit {P : Params} : ∀ {kvs : List (Str × Addr)} {es : List DictEntry}, EA P kvs es → PySem.W.KeysLit P es
  | _, _, .nil => trivial
  | _, _, .cons e x => ⟨⟨_, _, rfl, e⟩, EA.lit x⟩
theorem EA.find {P : Params} {i : Str} {a : Addr} : ∀ {kvs : List (Str × Addr)} {es : List DictEntry}, EA P kvs es → lookG kvs i = some a → ∃ e, es.find? (fun e => e.key.isStr i) = some e ∧ e.val = .ref a
  | _, _, .nil, h => by cases h
  | _, _, .cons (k := k) e x, h => by
    unfold lookG at h
    by_cases q : k = i
    · rw [if_pos q] at h
      subst q
      cases h
      refine ⟨_, List.find?_cons_of_pos ?_, rfl⟩
      simp [Value.isStr]
    · rw [if_neg q] at h
      obtain ⟨e', h1, h2⟩ := EA.find x h
      refine ⟨e', ?_, h2⟩
      rw [List.find?_cons_of_neg]
      · exact h1
      · simp [Value.isStr, q]
def rIxDA (K : PySem.W.Frag) (w : World) : R2 := fun x y H Q => ∃ (p : Addr) (z : Str) (kvs : List (Str × Addr)) (a : Addr), x = .ref p ∧ y = .str z ∧ KDA K w p kvs ∧ lookG kvs z = some a ∧ Q (.ref a) H
theorem ix_DA {X : Cx} {K : PySem.W.Frag} {w : World} (hK : X.K = K := by rfl) (hw : X.w = w := by rfl) : IxR X (rIxDA K w) := by
  subst hK hw
  intro value slice pins s σ H x y v u Q I rx ry h hs
  obtain ⟨p, z, kvs, a, e1, e2, ⟨es, n, hl, xx⟩, e, q⟩ := h
  obtain ⟨en, h1, h2⟩ := xx.find e
  refine ix_kdict value slice pins s σ H x y v u Q I rx ry ⟨p, z, .ref a, e1, e2, ⟨es, n, .ref a, hl, xx.lit, ?_, rfl⟩, q⟩ hs
  unfold PySem.W.nsIn
  rw [hl]
  show (match es.toList.find? (fun e => e.key.isStr z) with
      | some e => some (some e.val)
      | none => if es.toList.any (·.refKey) then none else some none) = _
  rw [h1]
  show some (some en.val) = _
  rw [h2]
theorem F2.look {α β : Type} [Inhabited α] [Inhabited β] {P : α → β → Prop} {z : Str} : ∀ {l : List (Str × α)} {m : List (Str × β)}, F2 (fun p q => p.1 = q.1 ∧ P p.2 q.2) l m → hasG m z = true → P (dictG l z) (dictG m z)
  | _, _, .nil, h => by cases h
  | (k, a) :: l, (k2, b) :: m, .cons h r, hz => by
    obtain ⟨e, hp⟩ := h
    have e : k = k2 := e
    subst e
    unfold hasG lookG at hz
    unfold dictG lookG
    by_cases q : k = z
    · rw [if_pos q, if_pos q]; exact hp
    · rw [if_neg q] at hz
      rw [if_neg q, if_neg q]
      exact F2.look r hz
theorem F2.hasK {α β : Type} {P : α → β → Prop} {z : Str} : ∀ {l : List (Str × α)} {m : List (Str × β)}, F2 (fun p q => p.1 = q.1 ∧ P p.2 q.2) l m → hasG m z = true → hasG l z = true
  | _, _, .nil, h => by cases h
  | (k, a) :: l, (k2, b) :: m, .cons h r, hz => by
    have e : k = k2 := h.1
    subst e
    unfold hasG lookG at hz ⊢
    by_cases q : k = z
    · rw [if_pos q]; rfl
    · rw [if_neg q] at hz ⊢
      exact F2.hasK r hz
end Vx
/-! # fourth part: reckoning with functions that may refuse -/
namespace Vx
open PySem PySem.Spec PyProof.Rows L2
section
variable {α β σ ρ τ : Type}
theorem bind_ok (a : α) (f : α → Rx β) : (Rx.ok a).bind f = f a := rfl
theorem bind_er (e : Nat) (f : α → Rx β) : (Rx.er e : Rx α).bind f = .er e := rfl
theorem grd_pos {p : Prop} {dp : Decidable p} {m : Rx α} (h : p) : grd p m = m := if_pos h
theorem bnd_eq (a : α) (f : α → Rx β) : bnd a f = f a := rfl
theorem noEr_ok (a : α) : noEr (.ok a : Rx α) = .ok a := rfl
theorem tryR_ok {cs : List Nat} (a : α) (f : α → Rx β) (g : Nat → Rx β) : tryR (.ok a) cs f g = f a := rfl
theorem tryR_er {cs : List Nat} {e : Nat} (h : e ∈ cs) (f : α → Rx β) (g : Nat → Rx β) : tryR (.er e) cs f g = g e := if_pos h
theorem aft_go (s : σ) (kr : ρ → Rx τ) (k : σ → Rx τ) : (Lp.go s : Lp σ ρ).aft kr k = k s := rfl
theorem aft_rt (r : ρ) (kr : ρ → Rx τ) (k : σ → Rx τ) : (Lp.rt r : Lp σ ρ).aft kr k = kr r := rfl
/-- gives a value of which P holds -/
def Gv (m : Rx α) (P : α → Prop) : Prop := ∃ v, m = .ok v ∧ P v
theorem Gv.ok {a : α} {P : α → Prop} (h : P a) : Gv (.ok a) P := ⟨a, rfl, h⟩
theorem Gv.of_eq {m : Rx α} {a : α} {P : α → Prop} (e : m = .ok a) (h : P a) : Gv m P := ⟨a, e, h⟩
theorem Gv.bind {m : Rx α} {f : α → Rx β} {P : α → Prop} {Q : β → Prop} (h : Gv m P) (k : ∀ v, P v → Gv (f v) Q) : Gv (m.bind f) Q := by
  obtain ⟨v, rfl, p⟩ := h
  exact k v p
theorem Gv.bind_eq {m : Rx α} {f : α → Rx β} {a : α} {Q : β → Prop} (h : m = .ok a) (k : Gv (f a) Q) : Gv (m.bind f) Q := by
  subst h
  exact k
theorem Gv.grd {p : Prop} {dp : Decidable p} {m : Rx α} {Q : α → Prop} (h : p) (k : Gv m Q) : Gv (Vx.grd p m) Q := by
  rw [grd_pos h]
  exact k
theorem Gv.bnd {a : α} {f : α → Rx β} {Q : β → Prop} (k : ∀ x, x = a → Gv (f x) Q) : Gv (Vx.bnd a f) Q := k a rfl
theorem Gv.ite {p : Prop} {dp : Decidable p} {a b : Rx α} {Q : α → Prop} (h1 : p → Gv a Q) (h2 : ¬ p → Gv b Q) : Gv (if p then a else b) Q := by
  split
  · exact h1 ‹_›
  · exact h2 ‹_›
theorem Gv.pos {p : Prop} {dp : Decidable p} {a b : Rx α} {Q : α → Prop} (h : p) (k : Gv a Q) : Gv (if p then a else b) Q := by rwa [if_pos h]
theorem Gv.neg {p : Prop} {dp : Decidable p} {a b : Rx α} {Q : α → Prop} (h : ¬ p) (k : Gv b Q) : Gv (if p then a else b) Q := by rwa [if_neg h]
theorem Gv.imp {m : Rx α} {P Q : α → Prop} (h : Gv m P) (k : ∀ v, P v → Q v) : Gv m Q := by
  obtain ⟨v, e, p⟩ := h
  exact ⟨v, e, k v p⟩
theorem Gv.noEr {m : Rx α} {P : α → Prop} (h : Gv m P) : Gv (Vx.noEr m) P := by
  obtain ⟨v, rfl, p⟩ := h
  exact ⟨v, rfl, p⟩
theorem Gv.tryOk {m : Rx α} {cs : List Nat} {f : α → Rx β} {g : Nat → Rx β} {P : α → Prop} {Q : β → Prop} (h : Gv m P) (k : ∀ v, P v → Gv (f v) Q) : Gv (tryR m cs f g) Q := by
  obtain ⟨v, rfl, p⟩ := h
  exact k v p
theorem Gv.tryEr {m : Rx α} {cs : List Nat} {e : Nat} {f : α → Rx β} {g : Nat → Rx β} {Q : β → Prop} (h : m = .er e) (hm : e ∈ cs) (k : Gv (g e) Q) : Gv (tryR m cs f g) Q := by
  subst h
  rw [tryR_er hm]
  exact k
theorem Gv.get {m : Rx α} {a : α} (h : Gv m (fun v => v = a)) : m = .ok a := by
  obtain ⟨v, e, rfl⟩ := h
  exact e
theorem Gv.eq {m : Rx α} {P : α → Prop} (h : Gv m P) : ∃ v, m = .ok v ∧ P v := h
/-- a loop that keeps P -/
theorem Gv.forS {P : Nat → σ → Prop} {xs : List α} {s : σ} {f : σ → α → Rx σ} (h0 : P 0 s) (hs : ∀ i x s, xs[i]? = some x → P i s → Gv (f s x) (P (i + 1))) : Gv (Vx.forS xs s f) (P xs.length) := by
  induction xs generalizing s P with
  | nil => exact .ok h0
  | cons x r ih =>
    refine Gv.bind (hs 0 x s rfl h0) fun s' p => ?_
    exact ih (P := fun i => P (i + 1)) p fun i y s hy q => hs (i + 1) y s (by simpa using hy) q
theorem Gv.forR {P : Nat → σ → Prop} {xs : List α} {s : σ} {f : σ → α → Rx (Lp σ ρ)} (h0 : P 0 s) (hs : ∀ i x s, xs[i]? = some x → P i s → Gv (f s x) (fun l => ∃ s', l = .go s' ∧ P (i + 1) s')) : Gv (Vx.forR xs s f) (fun l => ∃ s', l = .go s' ∧ P xs.length s') := by
  induction xs generalizing s P with
  | nil => exact .ok ⟨s, rfl, h0⟩
  | cons x r ih =>
    refine Gv.bind (hs 0 x s rfl h0) ?_
    rintro _ ⟨s', rfl, p⟩
    exact ih (P := fun i => P (i + 1)) p fun i y s hy q => hs (i + 1) y s (by simpa using hy) q
/-- a loop that carries nothing -/
theorem forR_unit {xs : List α} {f : Unit → α → Rx (Lp Unit ρ)} (h : ∀ x ∈ xs, f () x = .ok (.go ())) : Vx.forR xs () f = .ok (.go ()) := by
  induction xs with
  | nil => rfl
  | cons x r ih =>
    show (f () x).bind _ = _
    rw [h x List.mem_cons_self]
    exact ih fun y hy => h y (List.mem_cons_of_mem _ hy)
theorem forS_pure {xs : List α} {s : σ} {f : σ → α → Rx σ} {g : σ → α → σ} (h : ∀ s x, x ∈ xs → f s x = .ok (g s x)) : Vx.forS xs s f = .ok (xs.foldl g s) := by
  induction xs generalizing s with
  | nil => rfl
  | cons x r ih =>
    show (f s x).bind _ = _
    rw [h s x List.mem_cons_self]
    exact ih fun s y hy => h s y (List.mem_cons_of_mem _ hy)
theorem mapA_pure {xs : List α} {acc : List β} {f : α → Rx β} {g : α → β} (h : ∀ x ∈ xs, f x = .ok (g x)) (hl : acc.length + xs.length ≤ 1000000) : mapA xs acc f = .ok (acc ++ xs.map g) := by
  induction xs generalizing acc with
  | nil => simp [mapA]
  | cons x r ih =>
    rw [List.length_cons] at hl
    unfold mapA
    rw [grd_pos (by omega), h x List.mem_cons_self, bind_ok, ih (fun y hy => h y (List.mem_cons_of_mem _ hy)) (by rw [List.length_append, List.length_cons, List.length_nil]; omega)]
    simp
theorem mapA_pure0 {xs : List α} {f : α → Rx β} {g : α → β} (h : ∀ x ∈ xs, f x = .ok (g x)) (hl : xs.length ≤ 1000000) : mapA xs [] f = .ok (xs.map g) := by
  rw [mapA_pure h (by simpa using hl)]
  rfl
theorem mapF_pure {xs : List α} {acc : List β} {f : α → Rx (Option β)} {g : α → Option β} (h : ∀ x ∈ xs, f x = .ok (g x)) (hl : acc.length + xs.length ≤ 1000000) : mapF xs acc f = .ok (acc ++ xs.filterMap g) := by
  induction xs generalizing acc with
  | nil => simp [mapF]
  | cons x r ih =>
    rw [List.length_cons] at hl
    unfold mapF
    rw [grd_pos (by omega), h x List.mem_cons_self, bind_ok]
    cases e : g x with
    | none =>
      show mapF r acc f = _
      rw [ih (fun y hy => h y (List.mem_cons_of_mem _ hy)) (by omega), List.filterMap_cons, e]
    | some z =>
      show mapF r (acc ++ [z]) f = _
      rw [ih (fun y hy => h y (List.mem_cons_of_mem _ hy)) (by rw [List.length_append, List.length_cons, List.length_nil]; omega), List.filterMap_cons, e]
      simp
/-- a while that ends: m falls -/
theorem Gv.whileR {P : σ → Prop} {R : σ → Prop} (m : σ → Nat) {f : σ → Rx (Lp σ ρ)} (hs : ∀ s, P s → Gv (f s) (fun l => (∃ s', l = .go s' ∧ P s' ∧ m s' < m s) ∨ ∃ s', l = .bk s' ∧ R s')) : ∀ {n : Nat} {s : σ}, P s → m s < n → Gv (Vx.whileR n s f) (fun l => ∃ s', l = .go s' ∧ R s') := by
  intro n
  induction n with
  | zero => intro s _ h; exact absurd h (Nat.not_lt_zero _)
  | succ n ih =>
    intro s p h
    refine Gv.bind (hs s p) ?_
    rintro _ (⟨s', rfl, p', l⟩ | ⟨s', rfl, r⟩)
    · exact ih p' (by omega)
    · exact .ok ⟨s', rfl, r⟩
end
/-- a loop that may return -/
theorem Gv.forRR {α σ ρ : Type} {P : Nat → σ → Prop} {Q : ρ → Prop} {xs : List α} {s : σ} {f : σ → α → Rx (Lp σ ρ)} (h0 : P 0 s) (hs : ∀ i x s, xs[i]? = some x → P i s → Gv (f s x) (fun l => (∃ s', l = .go s' ∧ P (i + 1) s') ∨ ∃ r, l = .rt r ∧ Q r)) : Gv (Vx.forR xs s f) (fun l => (∃ s', l = .go s' ∧ P xs.length s') ∨ ∃ r, l = .rt r ∧ Q r) := by
  induction xs generalizing s P with
  | nil => exact .ok (.inl ⟨s, rfl, h0⟩)
  | cons x r ih =>
    refine Gv.bind (hs 0 x s rfl h0) ?_
    rintro _ (⟨s', rfl, p⟩ | ⟨r, rfl, q⟩)
    · exact ih (P := fun i => P (i + 1)) p fun i y s hy q => hs (i + 1) y s (by simpa using hy) q
    · exact .ok (.inr ⟨r, rfl, q⟩)
theorem rng_mem {lo x : Int} {n : Nat} (h : x ∈ rng lo n) : lo ≤ x ∧ x < lo + n := by
  unfold rng at h
  obtain ⟨j, hj, rfl⟩ := List.mem_map.mp h
  have := List.mem_range.mp hj
  omega
theorem rng_at {lo x : Int} {n i : Nat} (h : (rng lo n)[i]? = some x) : x = lo + i ∧ i < n := by
  have hl := get_len h
  rw [rng_len] at hl
  rw [rng_get hl] at h
  exact ⟨(Option.some.inj h).symm, hl⟩
end Vx
namespace Vx
open PySem PySem.Spec PyProof.Rows L2
structure St_BitWriter where
  full : (List Int)
  rest : Int
  bits : Int
deriving DecidableEq
structure St_BitReader where
  octs : (List Int)
  place : Int
  stop : Int
deriving DecidableEq
structure St_Format where
  width : Int
  height : Int
  depth : Int
  chroma : Int
deriving DecidableEq
structure St_Settings where
  fmt : St_Format
  slots : Int
  rows : Int
  deblock : Bool
  offset : Bool
  layers : Int
deriving DecidableEq
def F__law_draws_b1 (free_15 : Bool) (found_33 : (List Int)) (rest_34 : Int) (state_35 : Int) (it38 : Int) : Rx ((List Int) × Int × Int) :=
  (if free_15 = true then (if 1 < rest_34 then grd (0 < (it38 : Int)) <| grd ((found_33).length ≤ 1000000) <| bnd ((found_33) ++ [(rest_34 % it38)]) fun y49 => grd (0 < (it38 : Int) ∧ (it38 : Int) < 2 ^ 128) <| bnd ((rest_34 / it38)) fun rest_51 => .ok ((y49), (rest_51), (state_35)) else bnd ((((state_35 * 48271) + 11) % 2147483647)) fun state_52 => bnd ((((state_52 * 69621) + 7) % 2147483647)) fun state_53 => grd (0 < (it38 : Int)) <| grd ((found_33).length ≤ 1000000) <| bnd ((found_33) ++ [((state_53 / 13) % it38)]) fun y62 => .ok ((y62), (rest_34), (state_53))) else bnd ((((state_35 * 48271) + 11) % 2147483647)) fun state_63 => bnd ((((state_63 * 69621) + 7) % 2147483647)) fun state_64 => grd (0 < (it38 : Int)) <| grd ((found_33).length ≤ 1000000) <| bnd ((found_33) ++ [((state_64 / 13) % it38)]) fun y73 => .ok ((y73), (rest_34), (state_64)))

def F__law_draws_r1 (found_79 : (List Int)) (rest_80 : Int) (state_81 : Int) : Rx (List Int) :=
  .ok (found_79)

def F__law_draws (cell' : Int) (limits' : (List Int)) : Rx (List Int) :=
  bnd ((if cell' < 0 then -cell' else cell')) fun rest_10 => bnd ((rest_10 % 2147483647)) fun state_11 => bnd ((decide (cell' < 0) || decide (((10 : Int) ^ Int.toNat 18) ≤ cell'))) fun free_14 => Rx.bind (forS (limits') ((([] : (List Int))), (rest_10), (state_11)) (fun s x => F__law_draws_b1 (free_14) (s.1) (s.2.1) (s.2.2) x)) fun s => F__law_draws_r1  (s.1) (s.2.1) (s.2.2)

def F__law_between (first' : Int) (second' : Int) (low' : Int) (high' : Int) : Rx Int :=
  (if (first' : Int) = 0 then .ok (low') else (if (first' : Int) = 1 then .ok (high') else (if (first' : Int) = 2 then .ok ((if high' < (low' + 1) then high' else (low' + 1))) else grd (0 < (((high' - low') + 1) : Int)) <| .ok ((low' + (second' % ((high' - low') + 1)))))))

def F__law_numbers (cell' : Int) : Rx (List Int) :=
  Rx.bind (F__law_draws cell' ([6, 256, 6, 256, 5, 3, 4, 6, 32, 2, 2, 4])) fun v95 => grd (-((v95 : (List Int)).length : Int) ≤ 0 ∧ 0 < ((v95 : (List Int)).length : Int)) <| grd (-((v95 : (List Int)).length : Int) ≤ 1 ∧ 1 < ((v95 : (List Int)).length : Int)) <| Rx.bind (F__law_between ((itD (v95) (0))) ((itD (v95) (1))) 1 256) fun v106 => grd (-((v95 : (List Int)).length : Int) ≤ 2 ∧ 2 < ((v95 : (List Int)).length : Int)) <| grd (-((v95 : (List Int)).length : Int) ≤ 3 ∧ 3 < ((v95 : (List Int)).length : Int)) <| Rx.bind (F__law_between ((itD (v95) (2))) ((itD (v95) (3))) 1 256) fun v109 => grd (-((v95 : (List Int)).length : Int) ≤ 7 ∧ 7 < ((v95 : (List Int)).length : Int)) <| grd (-((v95 : (List Int)).length : Int) ≤ 8 ∧ 8 < ((v95 : (List Int)).length : Int)) <| Rx.bind (F__law_between ((itD (v95) (7))) ((itD (v95) (8))) 1 32) fun v112 => grd (-((v95 : (List Int)).length : Int) ≤ 4 ∧ 4 < ((v95 : (List Int)).length : Int)) <| grd (-((v95 : (List Int)).length : Int) ≤ 5 ∧ 5 < ((v95 : (List Int)).length : Int)) <| grd (-((v95 : (List Int)).length : Int) ≤ 6 ∧ 6 < ((v95 : (List Int)).length : Int)) <| grd (-((v95 : (List Int)).length : Int) ≤ 9 ∧ 9 < ((v95 : (List Int)).length : Int)) <| grd (-((v95 : (List Int)).length : Int) ≤ 10 ∧ 10 < ((v95 : (List Int)).length : Int)) <| grd (-((v95 : (List Int)).length : Int) ≤ 11 ∧ 11 < ((v95 : (List Int)).length : Int)) <| .ok ([v106, v109, (8 + (itD (v95) (4))), (itD (v95) (5)), (1 + (itD (v95) (6))), v112, (itD (v95) (9)), (itD (v95) (10)), (1 + (itD (v95) (11)))])

def F_Format___init__ (width' : Int) (height' : Int) (depth' : Int) (chroma' : Int) : Rx St_Format :=
  (if 1 ≤ width' then (if width' ≤ 256 then (if 1 ≤ height' then (if height' ≤ 256 then (if 8 ≤ depth' then (if depth' ≤ 12 then (if 0 ≤ chroma' then (if chroma' ≤ 2 then .ok (⟨width', height', depth', chroma'⟩ : St_Format) else .er 1) else .er 1) else .er 1) else .er 1) else .er 1) else .er 1) else .er 1) else .er 1)

def F__require (holds' : Bool) (text' : Str) : Rx Unit :=
  (if holds' = true then .ok (()) else .er 5)

def F_Settings___init__ (fmt' : St_Format) (slots' : Int) (rows' : Int) (deblock' : Bool) (offset' : Bool) (layers' : Int) : Rx St_Settings :=
  Rx.bind (F__require ((decide (1 ≤ slots') && decide (slots' ≤ 4))) (("there are 1 to 4 slots" : Str))) fun v164 => Rx.bind (F__require ((decide (1 ≤ rows') && decide (rows' ≤ 32))) (("a slice has 1 to 32 rows of blocks" : Str))) fun v168 => Rx.bind (F__require ((decide (1 ≤ layers') && decide (layers' ≤ 4))) (("there are 1 to 4 layers" : Str))) fun v172 => .ok (⟨fmt', slots', rows', deblock', offset', layers'⟩ : St_Settings)

def F__law_settings (n' : (List Int)) : Rx St_Settings :=
  grd (-((n' : (List Int)).length : Int) ≤ 0 ∧ 0 < ((n' : (List Int)).length : Int)) <| grd (-((n' : (List Int)).length : Int) ≤ 1 ∧ 1 < ((n' : (List Int)).length : Int)) <| grd (-((n' : (List Int)).length : Int) ≤ 2 ∧ 2 < ((n' : (List Int)).length : Int)) <| grd (-((n' : (List Int)).length : Int) ≤ 3 ∧ 3 < ((n' : (List Int)).length : Int)) <| Rx.bind (F_Format___init__ ((itD (n') (0))) ((itD (n') (1))) ((itD (n') (2))) ((itD (n') (3)))) fun v224 => grd (-((n' : (List Int)).length : Int) ≤ 4 ∧ 4 < ((n' : (List Int)).length : Int)) <| grd (-((n' : (List Int)).length : Int) ≤ 5 ∧ 5 < ((n' : (List Int)).length : Int)) <| grd (-((n' : (List Int)).length : Int) ≤ 6 ∧ 6 < ((n' : (List Int)).length : Int)) <| grd (-((n' : (List Int)).length : Int) ≤ 7 ∧ 7 < ((n' : (List Int)).length : Int)) <| grd (-((n' : (List Int)).length : Int) ≤ 8 ∧ 8 < ((n' : (List Int)).length : Int)) <| Rx.bind (F_Settings___init__ (v224) ((itD (n') (4))) ((itD (n') (5))) (decide (((itD (n') (6)) : Int) = 1)) (decide (((itD (n') (7)) : Int) = 1)) ((itD (n') (8)))) fun v246 => .ok (⟨v224, v246.slots, v246.rows, v246.deblock, v246.offset, v246.layers⟩ : St_Settings)

def F_BitWriter___init__  : Rx St_BitWriter :=
  .ok (⟨([] : (List Int)), 0, 0⟩ : St_BitWriter)

def F_BitWriter__add_r1 (self_315 : St_BitWriter) (rest_316 : Int) (left_317 : Int) : Rx St_BitWriter :=
  .ok (⟨self_315.full, rest_316, left_317⟩ : St_BitWriter)

def F_BitWriter__add_b1 (self_296 : St_BitWriter) (rest_297 : Int) (left_298 : Int) : Rx (Lp (St_BitWriter × Int × Int) St_BitWriter) :=
  (if 8 ≤ left_298 then bnd ((left_298 - 8)) fun left_302 => grd ((0 : Int) ≤ left_302) <| grd ((self_296.full).length ≤ 1000000) <| bnd ((self_296.full) ++ [(rest_297 / 2 ^ Int.toNat (left_302))]) fun y311 => grd ((0 : Int) ≤ left_302 ∧ (left_302 : Int) ≤ 4096 ∧ -(2 ^ 4096) < (1 : Int) ∧ (1 : Int) < 2 ^ 4096) <| bnd ((PySem.Builtin.bitAnd (rest_297) (((1 * 2 ^ Int.toNat (left_302)) - 1)))) fun rest_313 => .ok (.go (((⟨y311, self_296.rest, self_296.bits⟩ : St_BitWriter)), (rest_313), (left_302))) else .ok (.bk ((self_296), (rest_297), (left_298))))

def F_BitWriter__add (self' : St_BitWriter) (value' : Int) (count' : Int) : Rx St_BitWriter :=
  grd ((0 : Int) ≤ count' ∧ (count' : Int) ≤ 4096 ∧ -(2 ^ 4096) < (self'.rest : Int) ∧ (self'.rest : Int) < 2 ^ 4096) <| bnd ((PySem.Builtin.bitOr ((self'.rest * 2 ^ Int.toNat (count'))) (value'))) fun rest_282 => bnd ((self'.bits + count')) fun left_283 => Rx.bind ((whileR 1000000 ((self'), (rest_282), (left_283)) (fun s => F_BitWriter__add_b1  (s.1) (s.2.1) (s.2.2)) : Rx (Lp (St_BitWriter × Int × Int) St_BitWriter))) fun l => l.aft Rx.ok fun s => F_BitWriter__add_r1  (s.1) (s.2.1) (s.2.2)

def F_BitWriter_put (self' : St_BitWriter) (value' : Int) (count' : Int) : Rx St_BitWriter :=
  (if 0 ≤ count' then (if count' ≤ 64 then (if 0 ≤ value' then grd ((0 : Int) ≤ count' ∧ (count' : Int) ≤ 4096 ∧ -(2 ^ 4096) < (1 : Int) ∧ (1 : Int) < 2 ^ 4096) <| (if value' < (1 * 2 ^ Int.toNat (count')) then Rx.bind (F_BitWriter__add (self') value' count') fun v336 => .ok v336 else .er 2) else .er 2) else .er 2) else .er 2)

def F__put_switch (writer' : St_BitWriter) (switch' : Bool) : Rx St_BitWriter :=
  Rx.bind (F_BitWriter_put (writer') ((if switch' = true then 1 else 0)) 1) fun v349 => .ok v349

def F_BitWriter_put_ue (self' : St_BitWriter) (value' : Int) : Rx St_BitWriter :=
  (if 0 ≤ value' then (if value' ≤ 4294967296 then bnd (((PySem.Builtin.Int.intBits ((value' + 1)) : Nat) : Int)) fun digits_361 => Rx.bind (F_BitWriter__add (self') ((value' + 1)) (((2 * digits_361) - 1))) fun v362 => .ok v362 else .er 2) else .er 2)

def F_BitWriter_octets (self' : St_BitWriter) : Rx (List Int) :=
  bnd ((7 - self'.bits)) fun free_372 => grd ((0 : Int) ≤ free_372 ∧ (free_372 : Int) ≤ 4096 ∧ -(2 ^ 4096) < (((2 * self'.rest) + 1) : Int) ∧ (((2 * self'.rest) + 1) : Int) < 2 ^ 4096) <| grd ((self'.full).length + ([(((2 * self'.rest) + 1) * 2 ^ Int.toNat (free_372))]).length ≤ 1000000) <| .ok ((self'.full) ++ ([(((2 * self'.rest) + 1) * 2 ^ Int.toNat (free_372))]))

def F_write_settings_b1 (writer_455 : St_BitWriter) (it458 : Int) : Rx (St_BitWriter) :=
  Rx.bind (F_BitWriter_put_ue (writer_455) it458) fun v459 => .ok (v459)

def F_write_settings_r1 (settings_435 : St_Settings) (writer_475 : St_BitWriter) : Rx (List Int) :=
  Rx.bind (F_BitWriter_put_ue (writer_475) ((settings_435.slots - 1))) fun v476 => Rx.bind (F_BitWriter_put_ue (v476) ((settings_435.rows - 1))) fun v486 => Rx.bind (F__put_switch (v486) settings_435.deblock) fun v496 => Rx.bind (F__put_switch (v496) settings_435.offset) fun v506 => Rx.bind (F_BitWriter_put_ue (v506) ((settings_435.layers - 1))) fun v516 => Rx.bind (F_BitWriter_octets (v516)) fun v526 => .ok (v526)

def F_write_settings (settings' : St_Settings) : Rx (List Int) :=
  Rx.bind F_BitWriter___init__ fun v404 => Rx.bind (F_BitWriter_put (v404) 1 8) fun v413 => Rx.bind (forS ([(settings'.fmt.width - 1), (settings'.fmt.height - 1), (settings'.fmt.depth - 8), settings'.fmt.chroma]) (v413) (fun s x => F_write_settings_b1  s x)) fun s => F_write_settings_r1 (settings') s

def F__last_bit_r1 (bits_550 : Int) : Rx Int :=
  .ok (bits_550)

def F__last_bit_b1 (octet_535 : Int) (bits_544 : Int) : Rx (Lp (Int) Int) :=
  grd ((0 : Int) ≤ (bits_544 - 1)) <| (if ((PySem.Builtin.bitAnd ((octet_535 / 2 ^ Int.toNat ((bits_544 - 1)))) (1)) : Int) = 0 then bnd ((bits_544 + 1)) fun bits_549 => .ok (.go (bits_549)) else .ok (.bk (bits_544)))

def F__last_bit (octet' : Int) : Rx Int :=
  Rx.bind ((whileR 1000000 (1) (fun s => F__last_bit_b1 (octet') s) : Rx (Lp (Int) Int))) fun l => l.aft Rx.ok fun s => F__last_bit_r1  s

def F_BitReader___init__ (octets' : (List Int)) : Rx St_BitReader :=
  (if (octets' : (List Int)) = [] then .er 4 else grd (-((octets' : (List Int)).length : Int) ≤ (-1) ∧ (-1) < ((octets' : (List Int)).length : Int)) <| (if ((itD (octets') ((-1))) : Int) = 0 then .er 4 else grd (-((octets' : (List Int)).length : Int) ≤ (-1) ∧ (-1) < ((octets' : (List Int)).length : Int)) <| Rx.bind (F__last_bit ((itD (octets') ((-1))))) fun v577 => bnd (((8 * (((octets') : (List Int)).length : Int)) - v577)) fun _end_582 => .ok (⟨octets', 0, _end_582⟩ : St_BitReader)))

def F_BitReader__look_b1 (value_618 : Int) (it621 : Int) : Rx (Int) :=
  grd ((0 : Int) ≤ 8 ∧ (8 : Int) ≤ 4096 ∧ -(2 ^ 4096) < (value_618 : Int) ∧ (value_618 : Int) < 2 ^ 4096) <| bnd ((PySem.Builtin.bitOr ((value_618 * 2 ^ Int.toNat (8))) (it621))) fun value_623 => .ok (value_623)

def F_BitReader__look_r1 (count_601 : Int) (end_602 : Int) (value_629 : Int) : Rx Int :=
  grd ((0 : Int) ≤ (PySem.Builtin.bitAnd ((-end_602)) (7))) <| grd ((0 : Int) ≤ count_601 ∧ (count_601 : Int) ≤ 4096 ∧ -(2 ^ 4096) < (1 : Int) ∧ (1 : Int) < 2 ^ 4096) <| .ok ((PySem.Builtin.bitAnd ((value_629 / 2 ^ Int.toNat ((PySem.Builtin.bitAnd ((-end_602)) (7))))) (((1 * 2 ^ Int.toNat (count_601)) - 1))))

def F_BitReader__look (self' : St_BitReader) (place' : Int) (count' : Int) : Rx Int :=
  bnd ((place' + count')) fun end_590 => (if self'.stop < end_590 then .er 3 else Rx.bind (forS (cutL (self'.octs) (some ((place' / 8))) (some (((end_590 + 7) / 8)))) (0) (fun s x => F_BitReader__look_b1  s x)) fun s => F_BitReader__look_r1 (count') (end_590) s)

def F_BitReader__take (self' : St_BitReader) (count' : Int) : Rx (Int × St_BitReader) :=
  Rx.bind (F_BitReader__look (self') self'.place count') fun v632 => bnd ((self'.place + count')) fun _place_637 => .ok (v632, (⟨self'.octs, _place_637, self'.stop⟩ : St_BitReader))

def F_BitReader_get (self' : St_BitReader) (count' : Int) : Rx (Int × St_BitReader) :=
  (if 0 ≤ count' then (if count' ≤ 64 then Rx.bind (F_BitReader__take (self') count') fun v647 => .ok (v647.1, v647.2) else .er 2) else .er 2)

def F__get_switch (reader' : St_BitReader) : Rx (Bool × St_BitReader) :=
  Rx.bind (F_BitReader_get (reader') 1) fun v657 => .ok (decide ((v657.1 : Int) = 1), v657.2)

def F_BitReader__zeros_r1 (zeros_686 : Int) : Rx Int :=
  .ok (zeros_686)

def F_BitReader__zeros_b1 (self_667 : St_BitReader) (zeros_676 : Int) : Rx (Lp (Int) Int) :=
  Rx.bind (F_BitReader__look (self_667) ((self_667.place + zeros_676)) 1) fun v679 => (if (v679 : Int) = 0 then bnd ((zeros_676 + 1)) fun zeros_684 => (if 32 < zeros_684 then .er 4 else .ok (.go (zeros_684))) else .ok (.bk (zeros_676)))

def F_BitReader__zeros (self' : St_BitReader) : Rx Int :=
  Rx.bind ((whileR 1000000 (0) (fun s => F_BitReader__zeros_b1 (self') s) : Rx (Lp (Int) Int))) fun l => l.aft Rx.ok fun s => F_BitReader__zeros_r1  s

def F_BitReader_get_ue (self' : St_BitReader) : Rx (Int × St_BitReader) :=
  Rx.bind (F_BitReader__zeros (self')) fun v687 => Rx.bind (F_BitReader__take (self') (((2 * v687) + 1))) fun v693 => .ok ((v693.1 - 1), v693.2)

def F__get_settings_k1 (reader_703 : St_BitReader) : Rx (St_Settings × St_BitReader) :=
  Rx.bind (noEr (F_BitReader_get_ue (reader_703))) fun v724 => bnd ((v724.1 + 1)) fun width_734 => Rx.bind (noEr (F_BitReader_get_ue (v724.2))) fun v735 => bnd ((v735.1 + 1)) fun height_745 => Rx.bind (noEr (F_BitReader_get_ue (v735.2))) fun v746 => bnd ((v746.1 + 8)) fun depth_756 => Rx.bind (noEr (F_BitReader_get_ue (v746.2))) fun v757 => Rx.bind (noEr (F_Format___init__ width_734 height_745 depth_756 v757.1)) fun v778 => Rx.bind (noEr (F_BitReader_get_ue (v757.2))) fun v785 => bnd ((v785.1 + 1)) fun slots_795 => Rx.bind (noEr (F_BitReader_get_ue (v785.2))) fun v796 => bnd ((v796.1 + 1)) fun rows_806 => Rx.bind (noEr (F__get_switch (v796.2))) fun v807 => Rx.bind (noEr (F__get_switch (v807.2))) fun v817 => Rx.bind (noEr (F_BitReader_get_ue (v817.2))) fun v827 => bnd ((v827.1 + 1)) fun layers_837 => Rx.bind (noEr (F_Settings___init__ (v778) slots_795 rows_806 v807.1 v817.1 layers_837)) fun v850 => .ok ((⟨v778, v850.slots, v850.rows, v850.deblock, v850.offset, v850.layers⟩ : St_Settings), v827.2)

def F__get_settings (reader' : St_BitReader) : Rx (St_Settings × St_BitReader) :=
  Rx.bind ((Rx.bind (F_BitReader_get (reader') 8) fun v707 => Rx.bind (noEr (F__require (decide ((v707.1 : Int) = 1)) (("the version is unknown" : Str)))) fun v717 => .ok (v707.2) : Rx (St_BitReader))) fun s => F__get_settings_k1  s

def F_BitReader_left (self' : St_BitReader) : Rx Int :=
  .ok ((self'.stop - self'.place))

def F_read_settings_k1 (settings_895 : St_Settings) : Rx St_Settings :=
  .ok settings_895

def F_read_settings (payload' : (List Int)) : Rx St_Settings :=
  Rx.bind (noEr (F_BitReader___init__ (payload'))) fun v869 => Rx.bind (noEr (F__get_settings (v869))) fun v878 => Rx.bind ((Rx.bind (noEr (F_BitReader_left (v878.2))) fun v898 => Rx.bind (F__require (decide ((v898 : Int) = 0)) (("bits are left over" : Str))) fun v902 => .ok () : Rx Unit)) fun s => F_read_settings_k1 (v878.1) 

def F__law_same_b1 (it982 : Bool) : Rx (Lp Unit Bool) :=
  .ok (.go ())

def F__law_same_r1 (settings_964 : St_Settings) (n_965 : (List Int)) : Rx Bool :=
  .ok (decide (([(if settings_964.deblock = true then 1 else 0), (if settings_964.offset = true then 1 else 0)] : (List Int)) = cutL (n_965) (some (6)) (some (8))))

def F__law_same (settings' : St_Settings) (n' : (List Int)) : Rx Bool :=
  grd ((cutL (n') none (some (6))).length + (cutL (n') (some (8)) none).length ≤ 1000000) <| (if ([settings'.fmt.width, settings'.fmt.height, settings'.fmt.depth, settings'.fmt.chroma, settings'.slots, settings'.rows, settings'.layers] : (List Int)) = (cutL (n') none (some (6))) ++ (cutL (n') (some (8)) none) then Rx.bind (forR ([settings'.deblock, settings'.offset]) () (fun s x => F__law_same_b1   x)) fun l => l.aft Rx.ok fun s => F__law_same_r1 (settings') (n')  else .ok (false))

def F__law_cell (script' : (List Int)) (k' : Int) : Rx Int :=
  (if k' < (((script') : (List Int)).length : Int) then grd (-((script' : (List Int)).length : Int) ≤ k' ∧ k' < ((script' : (List Int)).length : Int)) <| .ok ((itD (script') (k'))) else .ok (0))

def F__law_packed_c2 (bits_1092 : (List Int)) (k_1093 : Int) (it1126 : Int) : Rx Int :=
  grd (-((bits_1092 : (List Int)).length : Int) ≤ ((8 * k_1093) + it1126) ∧ ((8 * k_1093) + it1126) < ((bits_1092 : (List Int)).length : Int)) <| grd ((0 : Int) ≤ (7 - it1126) ∧ ((7 - it1126) : Int) ≤ 4096 ∧ -(2 ^ 4096) < ((itD (bits_1092) (((8 * k_1093) + it1126))) : Int) ∧ ((itD (bits_1092) (((8 * k_1093) + it1126))) : Int) < 2 ^ 4096) <| .ok (((itD (bits_1092) (((8 * k_1093) + it1126))) * 2 ^ Int.toNat ((7 - it1126))))

def F__law_packed_c1 (bits_1060 : (List Int)) (it1091 : Int) : Rx Int :=
  Rx.bind (mapA (rng (0) (Int.toNat (8))) [] (fun x => noEr (F__law_packed_c2 (bits_1060) (it1091) x))) fun v1094 => .ok ((List.sum (v1094)))

def F__law_packed (bits' : (List Int)) : Rx (List Int) :=
  grd ((bits' : (List Int)).length + ([1] : (List Int)).length ≤ 1000000) <| grd (-(2 ^ 63) ≤ (((8 - (((((bits') ++ ([1])) : (List Int)).length : Int) % 8)) % 8) : Int) ∧ (((8 - (((((bits') ++ ([1])) : (List Int)).length : Int) % 8)) % 8) : Int) < 2 ^ 63 ∧ ([0]).length * Int.toNat (((8 - (((((bits') ++ ([1])) : (List Int)).length : Int) % 8)) % 8)) ≤ 1000000) <| grd (((bits') ++ ([1]) : (List Int)).length + (repL ([0]) (((8 - (((((bits') ++ ([1])) : (List Int)).length : Int) % 8)) % 8)) : (List Int)).length ≤ 1000000) <| grd (-(2 ^ 62) ≤ (((((((bits') ++ ([1])) ++ (repL ([0]) (((8 - (((((bits') ++ ([1])) : (List Int)).length : Int) % 8)) % 8)))) : (List Int)).length : Int) / 8) : Int) ∧ (((((((bits') ++ ([1])) ++ (repL ([0]) (((8 - (((((bits') ++ ([1])) : (List Int)).length : Int) % 8)) % 8)))) : (List Int)).length : Int) / 8) : Int) < 2 ^ 62) <| Rx.bind (mapA (rng (0) (Int.toNat (((((((bits') ++ ([1])) ++ (repL ([0]) (((8 - (((((bits') ++ ([1])) : (List Int)).length : Int) % 8)) % 8)))) : (List Int)).length : Int) / 8)))) [] (fun x => noEr (F__law_packed_c1 (((bits') ++ ([1])) ++ (repL ([0]) (((8 - (((((bits') ++ ([1])) : (List Int)).length : Int) % 8)) % 8)))) x))) fun v1061 => .ok (v1061)

def F__law_bits_c1 (value_1172 : Int) (count_1173 : Int) (it1202 : Int) : Rx Int :=
  grd ((0 : Int) ≤ ((count_1173 - 1) - it1202)) <| .ok ((PySem.Builtin.bitAnd ((value_1172 / 2 ^ Int.toNat (((count_1173 - 1) - it1202)))) (1)))

def F__law_bits (value' : Int) (count' : Int) : Rx (List Int) :=
  grd (-(2 ^ 62) ≤ (count' : Int) ∧ (count' : Int) < 2 ^ 62) <| Rx.bind (mapA (rng (0) (Int.toNat (count'))) [] (fun x => noEr (F__law_bits_c1 (value') (count') x))) fun v1174 => .ok (v1174)

def F__law_ue (value' : Int) : Rx (List Int) :=
  bnd (((PySem.Builtin.Int.intBits ((value' + 1)) : Nat) : Int)) fun size_1222 => grd (-(2 ^ 63) ≤ ((size_1222 - 1) : Int) ∧ ((size_1222 - 1) : Int) < 2 ^ 63 ∧ ([0]).length * Int.toNat ((size_1222 - 1)) ≤ 1000000) <| Rx.bind (F__law_bits ((value' + 1)) size_1222) fun v1242 => grd ((repL ([0]) ((size_1222 - 1)) : (List Int)).length + (v1242 : (List Int)).length ≤ 1000000) <| .ok ((repL ([0]) ((size_1222 - 1))) ++ (v1242))

def F__law_settings_payload (n' : (List Int)) : Rx (List Int) :=
  Rx.bind (F__law_bits 1 8) fun v1262 => grd (-((n' : (List Int)).length : Int) ≤ 0 ∧ 0 < ((n' : (List Int)).length : Int)) <| Rx.bind (F__law_ue (((itD (n') (0)) - 1))) fun v1272 => grd ((v1262).length + (v1272).length ≤ 1000000) <| grd (-((n' : (List Int)).length : Int) ≤ 1 ∧ 1 < ((n' : (List Int)).length : Int)) <| Rx.bind (F__law_ue (((itD (n') (1)) - 1))) fun v1293 => grd (((v1262) ++ (v1272)).length + (v1293).length ≤ 1000000) <| grd (-((n' : (List Int)).length : Int) ≤ 2 ∧ 2 < ((n' : (List Int)).length : Int)) <| Rx.bind (F__law_ue (((itD (n') (2)) - 8))) fun v1314 => grd ((((v1262) ++ (v1272)) ++ (v1293)).length + (v1314).length ≤ 1000000) <| grd (-((n' : (List Int)).length : Int) ≤ 3 ∧ 3 < ((n' : (List Int)).length : Int)) <| Rx.bind (F__law_ue ((itD (n') (3)))) fun v1335 => grd (((((v1262) ++ (v1272)) ++ (v1293)) ++ (v1314)).length + (v1335).length ≤ 1000000) <| grd (-((n' : (List Int)).length : Int) ≤ 4 ∧ 4 < ((n' : (List Int)).length : Int)) <| Rx.bind (F__law_ue (((itD (n') (4)) - 1))) fun v1356 => grd ((((((v1262) ++ (v1272)) ++ (v1293)) ++ (v1314)) ++ (v1335)).length + (v1356).length ≤ 1000000) <| grd (-((n' : (List Int)).length : Int) ≤ 5 ∧ 5 < ((n' : (List Int)).length : Int)) <| Rx.bind (F__law_ue (((itD (n') (5)) - 1))) fun v1377 => grd (((((((v1262) ++ (v1272)) ++ (v1293)) ++ (v1314)) ++ (v1335)) ++ (v1356)).length + (v1377).length ≤ 1000000) <| grd (-((n' : (List Int)).length : Int) ≤ 6 ∧ 6 < ((n' : (List Int)).length : Int)) <| grd (-((n' : (List Int)).length : Int) ≤ 7 ∧ 7 < ((n' : (List Int)).length : Int)) <| grd ((((((((v1262) ++ (v1272)) ++ (v1293)) ++ (v1314)) ++ (v1335)) ++ (v1356)) ++ (v1377)).length + ([(itD (n') (6)), (itD (n') (7))]).length ≤ 1000000) <| grd (-((n' : (List Int)).length : Int) ≤ 8 ∧ 8 < ((n' : (List Int)).length : Int)) <| Rx.bind (F__law_ue (((itD (n') (8)) - 1))) fun v1420 => grd (((((((((v1262) ++ (v1272)) ++ (v1293)) ++ (v1314)) ++ (v1335)) ++ (v1356)) ++ (v1377)) ++ ([(itD (n') (6)), (itD (n') (7))])).length + (v1420).length ≤ 1000000) <| Rx.bind (F__law_packed (((((((((v1262) ++ (v1272)) ++ (v1293)) ++ (v1314)) ++ (v1335)) ++ (v1356)) ++ (v1377)) ++ ([(itD (n') (6)), (itD (n') (7))])) ++ (v1420))) fun v1440 => .ok (v1440)

def F_Format___eq__ (self' : St_Format) (other' : St_Format) : Rx Bool :=
  (if decide ((self'.width : Int) = other'.width) = true then (if decide ((self'.height : Int) = other'.height) = true then (if decide ((self'.depth : Int) = other'.depth) = true then .ok (decide ((self'.chroma : Int) = other'.chroma)) else .ok (false)) else .ok (false)) else .ok (false))

def F_Settings___eq__ (self' : St_Settings) (other' : St_Settings) : Rx Bool :=
  Rx.bind (noEr (F_Format___eq__ (self'.fmt) (other'.fmt))) fun v1452 => (if v1452 = true then (if decide ((self'.slots : Int) = other'.slots) = true then (if decide ((self'.rows : Int) = other'.rows) = true then (if decide (V.bl (self'.deblock) = V.bl (other'.deblock)) = true then (if decide (V.bl (self'.offset) = V.bl (other'.offset)) = true then .ok (decide ((self'.layers : Int) = other'.layers)) else .ok (false)) else .ok (false)) else .ok (false)) else .ok (false)) else .ok (false))

def F_law (script' : (List Int)) : Rx Bool :=
  Rx.bind (F__law_cell (script') 0) fun v1461 => Rx.bind (F__law_numbers v1461) fun v1462 => Rx.bind (F__law_settings (v1462)) fun v1471 => Rx.bind (F__law_same (v1471) (v1462)) fun v1487 => (if v1487 = true then Rx.bind (F_write_settings (v1471)) fun v1494 => Rx.bind (F__law_settings_payload (v1462)) fun v1504 => (if (v1494 : (List Int)) = v1504 then Rx.bind (F_read_settings (v1494)) fun v1525 => Rx.bind (F__law_same (v1525) (v1462)) fun v1541 => (if v1541 = true then Rx.bind (noEr (F_Settings___eq__ (v1525) (v1471))) fun v1550 => (if (!(v1550)) = true then .ok (false) else (if (v1494 : (List Int)) = v1494 then grd ((v1494).length ≤ 1000000) <| bnd ((v1494) ++ [9]) fun y1565 => Rx.bind (F_write_settings (v1471)) fun v1568 => (if (v1568 : (List Int)) = v1494 then Rx.bind (F_read_settings (v1494)) fun v1579 => Rx.bind (F__law_same (v1579) (v1462)) fun v1595 => (if v1595 = true then Rx.bind (F__law_cell (script') 1) fun v1600 => Rx.bind (F__law_numbers v1600) fun v1601 => Rx.bind (F__law_cell (script') 2) fun v1610 => Rx.bind (F__law_draws v1610 ([9])) fun v1620 => grd (-((v1620 : (List Int)).length : Int) ≤ 0 ∧ 0 < ((v1620 : (List Int)).length : Int)) <| grd (-((v1620 : (List Int)).length : Int) ≤ 0 ∧ 0 < ((v1620 : (List Int)).length : Int)) <| grd (-((v1601 : (List Int)).length : Int) ≤ (itD (v1620) (0)) ∧ (itD (v1620) (0)) < ((v1601 : (List Int)).length : Int)) <| grd ((cutL (v1462) none (some ((itD (v1620) (0))))).length + ([(itD (v1601) ((itD (v1620) (0))))]).length ≤ 1000000) <| grd (-((v1620 : (List Int)).length : Int) ≤ 0 ∧ 0 < ((v1620 : (List Int)).length : Int)) <| grd (((cutL (v1462) none (some ((itD (v1620) (0))))) ++ ([(itD (v1601) ((itD (v1620) (0))))])).length + (cutL (v1462) (some (((itD (v1620) (0)) + 1))) none).length ≤ 1000000) <| Rx.bind (F__law_settings (((cutL (v1462) none (some ((itD (v1620) (0))))) ++ ([(itD (v1601) ((itD (v1620) (0))))])) ++ (cutL (v1462) (some (((itD (v1620) (0)) + 1))) none))) fun v1687 => Rx.bind (noEr (F_Settings___eq__ (v1687) (v1471))) fun v1704 => (if V.bl (v1704) = V.bl (decide ((((cutL (v1462) none (some ((itD (v1620) (0))))) ++ ([(itD (v1601) ((itD (v1620) (0))))])) ++ (cutL (v1462) (some (((itD (v1620) (0)) + 1))) none) : (List Int)) = v1462)) then Rx.bind (F_write_settings (v1687)) fun v1713 => Rx.bind (F__law_settings_payload (((cutL (v1462) none (some ((itD (v1620) (0))))) ++ ([(itD (v1601) ((itD (v1620) (0))))])) ++ (cutL (v1462) (some (((itD (v1620) (0)) + 1))) none))) fun v1723 => (if (v1713 : (List Int)) = v1723 then grd (-((v1462 : (List Int)).length : Int) ≤ 0 ∧ 0 < ((v1462 : (List Int)).length : Int)) <| grd (-((v1462 : (List Int)).length : Int) ≤ 1 ∧ 1 < ((v1462 : (List Int)).length : Int)) <| grd (-((v1462 : (List Int)).length : Int) ≤ 2 ∧ 2 < ((v1462 : (List Int)).length : Int)) <| grd (-((v1462 : (List Int)).length : Int) ≤ 3 ∧ 3 < ((v1462 : (List Int)).length : Int)) <| Rx.bind (F_Format___init__ ((itD (v1462) (0))) ((itD (v1462) (1))) ((itD (v1462) (2))) ((itD (v1462) (3)))) fun v1750 => Rx.bind (F_Settings___init__ (v1750) 1 1 false false 1) fun v1767 => grd ((cutL (v1462) none (some (4))).length + ([1, 1, 0, 0, 1]).length ≤ 1000000) <| Rx.bind (F__law_same ((⟨v1750, v1767.slots, v1767.rows, v1767.deblock, v1767.offset, v1767.layers⟩ : St_Settings)) ((cutL (v1462) none (some (4))) ++ ([1, 1, 0, 0, 1]))) fun v1804 => .ok (v1804) else .ok (false)) else .ok (false)) else .ok (false)) else .ok (false)) else .ok (false))) else .ok (false)) else .ok (false)) else .ok (false))
theorem cell_gv (s : List Int) (k : Int) (h : 0 ≤ k) : Gv (F__law_cell s k) (fun _ => True) := by
  unfold F__law_cell
  exact Gv.ite (fun c => Gv.grd ⟨by omega, c⟩ (.ok trivial)) fun _ => .ok trivial
def Inb : List Int → List Int → Prop
  | [], [] => True
  | v :: vs, l :: ls => 0 ≤ v ∧ v < l ∧ Inb vs ls
  | _, _ => False
theorem Inb.snoc : ∀ {vs ls : List Int} {y l : Int}, Inb vs ls → 0 ≤ y → y < l → Inb (vs ++ [y]) (ls ++ [l])
  | [], [], _, _, _, h0, h1 => ⟨h0, h1, trivial⟩
  | _ :: _, _ :: _, _, _, h, h0, h1 => ⟨h.1, h.2.1, Inb.snoc h.2.2 h0 h1⟩
  | [], _ :: _, _, _, h, _, _ => h.elim
  | _ :: _, [], _, _, h, _, _ => h.elim
theorem Inb.len : ∀ {vs ls : List Int}, Inb vs ls → vs.length = ls.length
  | [], [], _ => rfl
  | _ :: _, _ :: _, h => congrArg Nat.succ (Inb.len h.2.2)
  | [], _ :: _, h => h.elim
  | _ :: _, [], h => h.elim
theorem Inb.cons {v ls : List Int} {l : Int} (h : Inb v (l :: ls)) : ∃ a r, v = a :: r ∧ 0 ≤ a ∧ a < l ∧ Inb r ls := by
  cases v with
  | nil => exact h.elim
  | cons a r => exact ⟨a, r, rfl, h.1, h.2.1, h.2.2⟩
theorem Inb.nil {v : List Int} (h : Inb v []) : v = [] := by
  cases v with
  | nil => rfl
  | cons a r => exact h.elim
theorem draws_gv (cell : Int) (limits : List Int) (hl : ∀ l ∈ limits, 0 < l ∧ l < 18446744073709551616) (hn : limits.length ≤ 1000000) : Gv (F__law_draws cell limits) (fun v => Inb v limits) := by
  unfold F__law_draws
  refine Gv.bnd fun rest _ => Gv.bnd fun state _ => Gv.bnd fun free _ => Gv.bind (Gv.forS (P := fun i s => Inb s.1 (limits.take i)) ?_ fun i x s hx p => ?_) fun s p => .ok ?_
  · rw [List.take_zero]
    trivial
  · have hb0 := hl x (List.mem_of_getElem? hx)
    have hb : 0 < x ∧ x < 2 ^ 128 := ⟨hb0.1, by omega⟩
    have hlen := p.len
    have hi := get_len hx
    rw [List.length_take] at hlen
    have nx : ∀ y : Int, 0 ≤ y → y < x → Inb (s.1 ++ [y]) (limits.take (i + 1)) := fun y h0 h1 => by
      rw [take_succ_get hx]
      exact p.snoc h0 h1
    unfold F__law_draws_b1
    refine Gv.ite (fun _ => Gv.ite (fun _ => Gv.grd hb.1 (Gv.grd (by omega) (Gv.bnd fun y hy => Gv.grd ⟨hb.1, hb.2⟩ (Gv.bnd fun _ _ => .ok ?_)))) fun _ => Gv.bnd fun _ _ => Gv.bnd fun _ _ => Gv.grd hb.1 (Gv.grd (by omega) (Gv.bnd fun y hy => .ok ?_))) fun _ => Gv.bnd fun _ _ => Gv.bnd fun _ _ => Gv.grd hb.1 (Gv.grd (by omega) (Gv.bnd fun y hy => .ok ?_))
    · subst hy
      exact nx _ (Int.emod_nonneg _ (by omega)) (Int.emod_lt_of_pos _ hb.1)
    · subst hy
      exact nx _ (Int.emod_nonneg _ (by omega)) (Int.emod_lt_of_pos _ hb.1)
    · subst hy
      exact nx _ (Int.emod_nonneg _ (by omega)) (Int.emod_lt_of_pos _ hb.1)
  · rw [List.take_length] at p
    exact p
theorem ixg {xs : List Int} {k : Int} {n : Nat} (e : xs.length = n) (h : -(n : Int) ≤ k ∧ k < n) : -(xs.length : Int) ≤ k ∧ k < xs.length := by
  rw [e]
  exact h
theorem itD_lit {xs : List Int} {a k : Int} (n : Nat) (e : k = (n : Int)) (h : xs[n]? = some a) : itD xs k = a := by
  subst e
  have hl := get_len h
  unfold itD atI ixN
  rw [if_pos (by omega), if_pos (by omega)]
  show (xs[n]?).getD default = a
  rw [h]
  rfl
theorem between_gv (f s lo hi : Int) (h : lo ≤ hi) : Gv (F__law_between f s lo hi) (fun v => lo ≤ v ∧ v ≤ hi) := by
  unfold F__law_between
  refine Gv.ite (fun _ => .ok (by omega)) fun _ => Gv.ite (fun _ => .ok (by omega)) fun _ => Gv.ite (fun _ => .ok ?_) fun _ => Gv.grd (by omega) (.ok ?_)
  · split <;> omega
  · have a := Int.emod_nonneg s (show hi - lo + 1 ≠ 0 by omega)
    have b := Int.emod_lt_of_pos s (show 0 < hi - lo + 1 by omega)
    omega
theorem numbers_gv (cell : Int) : Gv (F__law_numbers cell) (fun n => ∃ w h d c s r a b l : Int, n = [w, h, d, c, s, r, a, b, l] ∧ (1 ≤ w ∧ w ≤ 256) ∧ (1 ≤ h ∧ h ≤ 256) ∧ (8 ≤ d ∧ d ≤ 12) ∧ (0 ≤ c ∧ c ≤ 2) ∧ (1 ≤ s ∧ s ≤ 4) ∧ (1 ≤ r ∧ r ≤ 32) ∧ (1 ≤ l ∧ l ≤ 4) ∧ (0 ≤ a ∧ a ≤ 1) ∧ (0 ≤ b ∧ b ≤ 1)) := by
  unfold F__law_numbers
  refine Gv.bind (draws_gv _ _ (by decide +kernel) (by decide +kernel)) fun v hv => ?_
  obtain ⟨a0, r0, rfl, _, _, hv⟩ := hv.cons
  obtain ⟨a1, r1, rfl, _, _, hv⟩ := hv.cons
  obtain ⟨a2, r2, rfl, _, _, hv⟩ := hv.cons
  obtain ⟨a3, r3, rfl, _, _, hv⟩ := hv.cons
  obtain ⟨a4, r4, rfl, b4, c4, hv⟩ := hv.cons
  obtain ⟨a5, r5, rfl, b5, c5, hv⟩ := hv.cons
  obtain ⟨a6, r6, rfl, b6, c6, hv⟩ := hv.cons
  obtain ⟨a7, r7, rfl, _, _, hv⟩ := hv.cons
  obtain ⟨a8, r8, rfl, _, _, hv⟩ := hv.cons
  obtain ⟨a9, r9, rfl, b9, c9, hv⟩ := hv.cons
  obtain ⟨a10, r10, rfl, b10, c10, hv⟩ := hv.cons
  obtain ⟨a11, r11, rfl, b11, c11, hv⟩ := hv.cons
  obtain rfl := hv.nil
  refine Gv.grd (ixg (n := 12) rfl (by decide)) (Gv.grd (ixg (n := 12) rfl (by decide)) (Gv.bind (between_gv _ _ 1 256 (by decide)) fun w hw => Gv.grd (ixg (n := 12) rfl (by decide)) (Gv.grd (ixg (n := 12) rfl (by decide)) (Gv.bind (between_gv _ _ 1 256 (by decide)) fun h hh => ?_))))
  refine Gv.grd (ixg (n := 12) rfl (by decide)) (Gv.grd (ixg (n := 12) rfl (by decide)) (Gv.bind (between_gv _ _ 1 32 (by decide)) fun r hr => Gv.grd (ixg (n := 12) rfl (by decide)) (Gv.grd (ixg (n := 12) rfl (by decide)) (Gv.grd (ixg (n := 12) rfl (by decide)) (Gv.grd (ixg (n := 12) rfl (by decide)) (Gv.grd (ixg (n := 12) rfl (by decide)) (Gv.grd (ixg (n := 12) rfl (by decide)) (.ok ?_))))))))
  rw [itD_lit (k := 4) (a := a4) 4 rfl rfl, itD_lit (k := 5) (a := a5) 5 rfl rfl, itD_lit (k := 6) (a := a6) 6 rfl rfl, itD_lit (k := 9) (a := a9) 9 rfl rfl, itD_lit (k := 10) (a := a10) 10 rfl rfl, itD_lit (k := 11) (a := a11) 11 rfl rfl]
  exact ⟨w, h, 8 + a4, a5, 1 + a6, r, a9, a10, 1 + a11, rfl, hw, hh, ⟨by omega, by omega⟩, ⟨by omega, by omega⟩, ⟨by omega, by omega⟩, hr, ⟨by omega, by omega⟩, ⟨by omega, by omega⟩, ⟨by omega, by omega⟩⟩
def setv (w h d c s r a b l : Int) : St_Settings := ⟨⟨w, h, d, c⟩, s, r, decide (a = 1), decide (b = 1), l⟩
theorem require_ok {p q : Prop} [Decidable p] [Decidable q] (t : Str) (h1 : p) (h2 : q) : F__require (decide p && decide q) t = .ok () := by
  unfold F__require
  rw [decide_eq_true h1, decide_eq_true h2]
  rfl
theorem settings_ok {w h d c s r a b l : Int} (hw : 1 ≤ w ∧ w ≤ 256) (hh : 1 ≤ h ∧ h ≤ 256) (hd : 8 ≤ d ∧ d ≤ 12) (hc : 0 ≤ c ∧ c ≤ 2) (hs : 1 ≤ s ∧ s ≤ 4) (hr : 1 ≤ r ∧ r ≤ 32) (hl : 1 ≤ l ∧ l ≤ 4) :
    F__law_settings [w, h, d, c, s, r, a, b, l] = .ok (setv w h d c s r a b l) := by
  unfold F__law_settings
  have e : F_Format___init__ w h d c = .ok ⟨w, h, d, c⟩ := by
    unfold F_Format___init__
    rw [if_pos hw.1, if_pos hw.2, if_pos hh.1, if_pos hh.2, if_pos hd.1, if_pos hd.2, if_pos hc.1, if_pos hc.2]
  have e2 : F_Settings___init__ ⟨w, h, d, c⟩ s r (decide (a = 1)) (decide (b = 1)) l = .ok (setv w h d c s r a b l) := by
    unfold F_Settings___init__
    rw [require_ok _ hs.1 hs.2, bind_ok, require_ok _ hr.1 hr.2, bind_ok, require_ok _ hl.1 hl.2, bind_ok]
    rfl
  refine Gv.get ?_
  refine Gv.grd (ixg (n := 9) rfl (by decide)) (Gv.grd (ixg (n := 9) rfl (by decide)) (Gv.grd (ixg (n := 9) rfl (by decide)) (Gv.grd (ixg (n := 9) rfl (by decide)) (Gv.bind_eq e (Gv.grd (ixg (n := 9) rfl (by decide)) (Gv.grd (ixg (n := 9) rfl (by decide)) (Gv.grd (ixg (n := 9) rfl (by decide)) (Gv.grd (ixg (n := 9) rfl (by decide)) (Gv.grd (ixg (n := 9) rfl (by decide)) (Gv.bind_eq e2 (.ok rfl)))))))))))
namespace Pb
theorem len_rep1 {α : Type} (a : α) (k : Int) : (repL [a] k).length = k.toNat := by
  unfold repL
  simp
theorem itD_nat {α : Type} [Inhabited α] {e : List α} {k : Nat} {x : α} (h : e[k]? = some x) : itD e (k : Int) = x := by
  unfold itD atI ixN
  have hk := (List.getElem?_eq_some_iff.mp h).1
  rw [if_pos (by omega), if_pos (by omega)]
  simp [h]
theorem itD_mem {α : Type} [Inhabited α] {e : List α} {k : Int} (h : -(e.length : Int) ≤ k ∧ k < e.length) : itD e k ∈ e := by
  obtain ⟨j, hj, hl⟩ := ixN_some h
  unfold itD atI
  rw [hj]
  show (e[j]?).getD default ∈ e
  rw [List.getElem?_eq_getElem hl]
  exact List.getElem_mem hl
def num (xs : List Int) : Int := xs.foldl (fun a x => a * 256 + x) 0
theorem num_snoc (xs : List Int) (x : Int) : num (xs ++ [x]) = num xs * 256 + x := by
  unfold num
  rw [List.foldl_append] <;> rfl
theorem snocInd {α : Type} {motive : List α → Prop} (nil : motive []) (snoc : ∀ xs x, motive xs → motive (xs ++ [x])) (xs : List α) : motive xs := by
  have : ∀ l : List α, motive l.reverse := by
    intro l
    induction l with
    | nil => exact nil
    | cons x r ih =>
      rw [List.reverse_cons]
      exact snoc _ _ ih
  have h := this xs.reverse
  rwa [List.reverse_reverse] at h
theorem last_in {xs : List Int} (h : xs ≠ []) : -(xs.length : Int) ≤ -1 ∧ -1 < (xs.length : Int) := by
  have := List.length_pos_iff.mpr h
  omega
theorem itD_last {xs : List Int} (h : xs ≠ []) : itD xs (-1) = xs.getLast h := by
  unfold itD atI ixN
  have := List.length_pos_iff.mpr h
  rw [if_neg (by omega), if_pos (by omega)]
  have e : (-1 + (xs.length : Int)).toNat = xs.length - 1 := by omega
  show (xs[(-1 + (xs.length : Int)).toNat]?).getD default = _
  rw [e, ← List.getLast?_eq_getElem?, List.getLast?_eq_some_getLast h] <;> rfl
theorem itD_end {e : List Int} {a : Int} : itD (e ++ [a]) (-1) = a := by
  rw [itD_last (by simp), List.getLast_append] <;> simp
def digs (n : Int) (k : Nat) : List Int := (List.range k).map fun j => n / 2 ^ (8 * (k - 1 - j)) % 256
theorem digs_snoc (n x : Int) (k : Nat) (hx : 0 ≤ x ∧ x ≤ 255) : digs (n * 256 + x) (k + 1) = digs n k ++ [x] := by
  unfold digs
  rw [List.range_succ, List.map_append]
  congr 1
  · apply List.map_congr_left
    intro j hj
    have hj := List.mem_range.mp hj
    show (n * 256 + x) / 2 ^ (8 * (k + 1 - 1 - j)) % 256 = n / 2 ^ (8 * (k - 1 - j)) % 256
    rw [show 8 * (k + 1 - 1 - j) = 8 + 8 * (k - 1 - j) from by omega, Int.pow_add, ← Int.ediv_ediv_of_nonneg (by decide)]
    rw [show (n * 256 + x) / 2 ^ 8 = n from by omega]
  · show [(n * 256 + x) / 2 ^ (8 * (k + 1 - 1 - k)) % 256] = [x]
    rw [show 8 * (k + 1 - 1 - k) = 0 from by omega]
    congr 1
    simp
    omega
theorem digs_num : ∀ {xs : List Int}, (∀ x ∈ xs, 0 ≤ x ∧ x ≤ 255) → digs (num xs) xs.length = xs := by
  intro xs
  refine snocInd (motive := fun xs => (∀ x ∈ xs, 0 ≤ x ∧ x ≤ 255) → digs (num xs) xs.length = xs) (fun _ => rfl) (fun ys y ih h => ?_) xs
  rw [num_snoc, List.length_append]
  show digs _ (ys.length + 1) = _
  rw [digs_snoc _ _ _ (h y (by simp)), ih fun x hx => h x (by simp [hx])]
theorem mem_cutL {α : Type} {xs : List α} {lo hi : Option Int} {x : α} (h : x ∈ cutL xs lo hi) : x ∈ xs := by
  unfold cutL at h
  exact List.mem_of_mem_drop (List.mem_of_mem_take h)
abbrev BwS := St_BitWriter
abbrev BrS := St_BitReader
structure BwG (w : BwS) : Prop where
  bits : 0 ≤ w.bits ∧ w.bits ≤ 7
  rest : 0 ≤ w.rest ∧ w.rest < 2 ^ w.bits.toNat
structure BrG (s : BrS) : Prop where
  oct : ∀ x ∈ s.octs, 0 ≤ x ∧ x ≤ 255
  place : 0 ≤ s.place
  stop : s.stop ≤ 8 * (s.octs.length : Int)
def bwAdd (w : BwS) (v c : Int) : BwS :=
  ⟨w.full ++ digs ((w.rest * 2 ^ c.toNat + v) / 2 ^ ((w.bits + c) % 8).toNat) ((w.bits + c) / 8).toNat, (w.rest * 2 ^ c.toNat + v) % 2 ^ ((w.bits + c) % 8).toNat, (w.bits + c) % 8⟩
def bwUe (w : BwS) (v : Int) : BwS := bwAdd w (v + 1) (2 * ((PySem.Builtin.Int.intBits (v + 1) : Nat) : Int) - 1)
def seCode (v : Int) : Int := if 0 < v then 2 * v - 1 else -2 * v
def seBack (c : Int) : Int := if (PySem.Builtin.bitAnd c 1 != 0) = true then (c + 1) / 2 else -(c / 2)
theorem pow7 {b : Int} (h : 0 ≤ b ∧ b ≤ 7) : (2 : Int) ^ b.toNat ≤ 128 := by
  have : b.toNat ≤ 7 := by omega
  have h2 := Nat.pow_le_pow_right (n := 2) (by decide) this
  exact_mod_cast h2
theorem small_rest {w : BwS} (h : BwG w) : 0 ≤ w.rest ∧ w.rest < 128 := by
  have a := pow7 h.bits
  have b := h.rest
  omega
theorem pow_pos2 (n : Nat) : (0 : Int) < 2 ^ n := by
  have : (0 : Nat) < 2 ^ n := Nat.pow_pos (by decide)
  exact_mod_cast this
theorem or_lowN {v o : Int} {n : Nat} (h : 0 ≤ v) (h0 : 0 ≤ o) (h1 : o < 2 ^ n) : PySem.Builtin.bitOr (v * 2 ^ n) o = v * 2 ^ n + o := by
  obtain ⟨a, rfl⟩ := Int.eq_ofNat_of_zero_le h
  obtain ⟨b, rfl⟩ := Int.eq_ofNat_of_zero_le h0
  have hb : b < 2 ^ n := by exact_mod_cast h1
  have z : (a * 2 ^ n) &&& b = 0 := by
    apply Nat.eq_of_testBit_eq
    intro i
    rw [Nat.testBit_and, Nat.zero_testBit, Nat.testBit_mul_two_pow]
    by_cases hi : n ≤ i
    · have e : b.testBit i = false := Nat.testBit_lt_two_pow (Nat.lt_of_lt_of_le hb (Nat.pow_le_pow_right (by decide) hi))
      rw [e, Bool.and_false]
    · simp [hi]
  have c1 : ((a : Int) * 2 ^ n) = ((a * 2 ^ n : Nat) : Int) := by
    push_cast
    rfl
  rw [c1, PyProof.Rows.bitOr_and, PyProof.Rows.bitAnd_pp (by omega) (by omega)]
  rw [show (((a * 2 ^ n : Nat) : Int)).toNat = a * 2 ^ n from rfl, show ((b : Int)).toNat = b from rfl, z]
  exact Int.sub_zero _
structure AddR (T L : Int) (full0 full : List Int) (rest left : Int) : Prop where
  nn : 0 ≤ left
  ex : ∃ j : Nat, left + 8 * (j : Int) = L ∧ full = full0 ++ digs (T / 2 ^ left.toNat) j
  rest : rest = T % 2 ^ left.toNat
theorem mask_pow (x : Int) (n : Nat) : PySem.Builtin.bitAnd x (1 * 2 ^ n - 1) = x % 2 ^ n := by
  rw [Int.one_mul]
  exact PySem.W.kbt_mask x n
theorem mod_div (T : Int) {p : Int} (hp : 0 < p) : T % (p * 2 ^ 8) / p = T / p % 256 := by
  have h1 := Int.emod_def T (p * 2 ^ 8)
  rw [h1, show p * 2 ^ 8 * (T / (p * 2 ^ 8)) = p * (256 * (T / (p * 2 ^ 8))) from by rw [Int.mul_assoc]; rfl]
  rw [Int.sub_mul_ediv_left _ _ (by omega), Int.emod_def, ← Int.ediv_ediv_of_nonneg (Int.le_of_lt hp)]
  rfl
theorem mod_mod_mul (T p q : Int) : T % (p * q) % p = T % p := Int.emod_emod_of_dvd T (Int.dvd_mul_right p q)
theorem digs_len (n : Int) (k : Nat) : (digs n k).length = k := by
  unfold digs
  rw [List.length_map, List.length_range]
theorem AddR.len {T L : Int} {full0 full : List Int} {rest left : Int} (h : AddR T L full0 full rest left) : 8 * (full.length : Int) ≤ 8 * (full0.length : Int) + L := by
  obtain ⟨j, e1, e2⟩ := h.ex
  have := h.nn
  rw [e2, List.length_append, digs_len]
  omega
theorem AddR.le {T L : Int} {full0 full : List Int} {rest left : Int} (h : AddR T L full0 full rest left) : left ≤ L := by
  obtain ⟨j, e1, e2⟩ := h.ex
  omega
theorem total_in {w : BwS} {v c : Int} (h : BwG w) (hc : 0 ≤ c) (hv : 0 ≤ v ∧ v < 2 ^ c.toNat) : 0 ≤ w.rest * 2 ^ c.toNat + v ∧ w.rest * 2 ^ c.toNat + v < 2 ^ (w.bits + c).toNat := by
  have hb := h.bits
  have hr := h.rest
  have p := pow_pos2 c.toNat
  have a : 0 ≤ w.rest * 2 ^ c.toNat := Int.mul_nonneg hr.1 (Int.le_of_lt p)
  have b : (w.rest + 1) * 2 ^ c.toNat ≤ 2 ^ w.bits.toNat * 2 ^ c.toNat := Int.mul_le_mul_of_nonneg_right (by omega) (Int.le_of_lt p)
  rw [← Int.pow_add, show w.bits.toNat + c.toNat = (w.bits + c).toNat from by omega, Int.add_mul, Int.one_mul] at b
  exact ⟨by omega, by omega⟩
theorem add_start {w : BwS} {v c : Int} (h : BwG w) (hc : 0 ≤ c) (hv : 0 ≤ v ∧ v < 2 ^ c.toNat) : AddR (w.rest * 2 ^ c.toNat + v) (w.bits + c) w.full w.full (PySem.Builtin.bitOr (w.rest * 2 ^ c.toNat) v) (w.bits + c) := by
  have t := total_in h hc hv
  have hb := h.bits
  refine ⟨by omega, ⟨0, by omega, by rw [show digs _ 0 = [] from rfl, List.append_nil]⟩, ?_⟩
  rw [or_lowN h.rest.1 hv.1 hv.2, Int.emod_eq_of_lt t.1 t.2]
theorem add_turn {T L : Int} {full0 full : List Int} {rest left : Int} (h : AddR T L full0 full rest left) (h8 : 8 ≤ left) :
    AddR T L full0 (full ++ [rest / 2 ^ (left - 8).toNat]) (PySem.Builtin.bitAnd rest (1 * 2 ^ (left - 8).toNat - 1)) (left - 8) := by
  obtain ⟨j, e1, e2⟩ := h.ex
  have e3 := h.rest
  obtain ⟨k, hk⟩ := Int.eq_ofNat_of_zero_le (show 0 ≤ left - 8 by omega)
  have hl : left.toNat = k + 8 := by omega
  have hk2 : (left - 8).toNat = k := by omega
  rw [hl] at e2 e3
  rw [hk2]
  have hp := pow_pos2 k
  have hd : rest / 2 ^ k = T / 2 ^ k % 256 := by
    rw [e3, Int.pow_add]
    exact mod_div T hp
  have hm : rest % 2 ^ k = T % 2 ^ k := by
    rw [e3, Int.pow_add]
    exact mod_mod_mul _ _ _
  refine ⟨by omega, ⟨j + 1, by omega, ?_⟩, ?_⟩
  · rw [hk2, e2, hd, List.append_assoc]
    congr 1
    have hq : T / 2 ^ k = T / 2 ^ (k + 8) * 256 + T / 2 ^ k % 256 := by
      rw [Int.pow_add, ← Int.ediv_ediv_of_nonneg (Int.le_of_lt hp)]
      show _ = T / 2 ^ k / 256 * 256 + _
      omega
    rw [hq, digs_snoc _ _ _ (by omega)]
    congr 1
    congr 1
    omega
  · rw [mask_pow, hm, hk2]
theorem add_end {w : BwS} {v c : Int} {full : List Int} {rest left : Int} (h : AddR (w.rest * 2 ^ c.toNat + v) (w.bits + c) w.full full rest left) (h8 : left < 8) : (⟨full, rest, left⟩ : BwS) = bwAdd w v c := by
  obtain ⟨j, e1, e2⟩ := h.ex
  have e3 := h.rest
  have hl := h.nn
  have a : (w.bits + c) % 8 = left := by omega
  have b : ((w.bits + c) / 8).toNat = j := by omega
  unfold bwAdd
  rw [a, b, e2, e3]
theorem ib_spec {n : Int} (h : 0 < n) : ∃ k : Nat, PySem.Builtin.Int.intBits n = k + 1 ∧ (2 : Int) ^ k ≤ n ∧ n < 2 ^ (k + 1) := by
  obtain ⟨m, rfl⟩ := Int.eq_ofNat_of_zero_le (Int.le_of_lt h)
  have hm : m ≠ 0 := by omega
  refine ⟨m.log2, ?_, ?_, ?_⟩
  · unfold PySem.Builtin.Int.intBits
    rw [if_neg (by simp; omega)]
    rfl
  · exact_mod_cast Nat.log2_self_le hm
  · exact_mod_cast Nat.lt_log2_self
theorem pow_lt_of {k n : Nat} (h : (2 : Int) ^ k < 2 ^ n) : k < n := by
  have h2 : 2 ^ k < 2 ^ n := by exact_mod_cast h
  exact (Nat.pow_lt_pow_iff_right (by decide)).mp h2
theorem pow_mono {k n : Nat} (h : k ≤ n) : (2 : Int) ^ k ≤ 2 ^ n := by
  have := Nat.pow_le_pow_right (n := 2) (by decide) h
  exact_mod_cast this
theorem ue_in {v : Int} (h0 : 0 ≤ v) (h1 : v ≤ 4294967296) : (0 ≤ 2 * ((PySem.Builtin.Int.intBits (v + 1) : Nat) : Int) - 1 ∧ 2 * ((PySem.Builtin.Int.intBits (v + 1) : Nat) : Int) - 1 ≤ 130) ∧
    (0 ≤ v + 1 ∧ v + 1 < 2 ^ (2 * ((PySem.Builtin.Int.intBits (v + 1) : Nat) : Int) - 1).toNat) := by
  obtain ⟨k, e, lo, hi⟩ := ib_spec (n := v + 1) (by omega)
  have hk : k < 33 := pow_lt_of (Int.lt_of_le_of_lt lo (by show v + 1 < 8589934592; omega))
  rw [e]
  refine ⟨by omega, by omega, ?_⟩
  exact Int.lt_of_lt_of_le hi (pow_mono (by omega))
def lastBit (o : Int) : Int :=
  if o % 2 = 1 then 1 else if o % 4 = 2 then 2 else if o % 8 = 4 then 3 else if o % 16 = 8 then 4 else if o % 32 = 16 then 5 else if o % 64 = 32 then 6 else if o % 128 = 64 then 7 else 8
theorem eight {b : Int} (h1 : 1 ≤ b) (h8 : b ≤ 8) : b = 1 ∨ b = 2 ∨ b = 3 ∨ b = 4 ∨ b = 5 ∨ b = 6 ∨ b = 7 ∨ b = 8 := by omega
theorem bit_mod (x : Int) : PySem.Builtin.bitAnd x 1 = x % 2 := PySem.W.kbt_mask x 1
theorem lb_turn {o b : Int} (h : 0 < o ∧ o ≤ 255) (h1 : 1 ≤ b) (h8 : b ≤ 8) (hz : o % 2 ^ (b - 1).toNat = 0) (hc : PySem.Builtin.bitAnd (o / 2 ^ (b - 1).toNat) 1 = 0) : 1 ≤ b + 1 ∧ b + 1 ≤ 8 ∧ o % 2 ^ (b + 1 - 1).toNat = 0 := by
  rw [bit_mod] at hc
  rcases eight h1 h8 with rfl | rfl | rfl | rfl | rfl | rfl | rfl | rfl <;> simp at hz hc ⊢ <;> omega
theorem lb_end {o b : Int} (h : 0 < o ∧ o ≤ 255) (h1 : 1 ≤ b) (h8 : b ≤ 8) (hz : o % 2 ^ (b - 1).toNat = 0) (hc : ¬ PySem.Builtin.bitAnd (o / 2 ^ (b - 1).toNat) 1 = 0) : lastBit o = b := by
  rw [bit_mod] at hc
  unfold lastBit
  rcases eight h1 h8 with rfl | rfl | rfl | rfl | rfl | rfl | rfl | rfl <;> simp at hz hc <;> (repeat' split) <;> omega
theorem last_oct {xs : List Int} (h : xs ≠ []) (hz : ¬ itD xs (-1) = 0) (ho : ∀ x ∈ xs, 0 ≤ x ∧ x ≤ 255) : 0 < itD xs (-1) ∧ itD xs (-1) ≤ 255 := by
  have := ho _ (itD_mem (last_in h))
  omega
def brInit (o : List Int) : BrS := ⟨o, 0, 8 * (o.length : Int) - lastBit (itD o (-1))⟩
def brMove (s : BrS) (c : Int) : BrS := ⟨s.octs, s.place + c, s.stop⟩
def lookB (o : List Int) (p c : Int) : Int := num o / 2 ^ (8 * (o.length : Int) - p - c).toNat % 2 ^ c.toNat
def sliceB (o : List Int) (p c : Int) : List Int := cutL o (some (p / 8)) (some ((p + c + 7) / 8))
structure Zeros (s : BrS) (z : Nat) : Prop where
  most : (z : Int) ≤ 32
  fit : s.place + (z : Int) + 1 ≤ s.stop
  zero : ∀ k : Nat, k < z → lookB s.octs (s.place + (k : Int)) 1 = 0
  one : lookB s.octs (s.place + (z : Int)) 1 = 1
theorem zeros_ne {s : BrS} {z : Nat} {q : Int} (h : Zeros s z) (h0 : 0 ≤ q) (h1 : q ≤ (z : Int)) (hc : lookB s.octs (s.place + q) 1 = 0) : q < (z : Int) := by
  rcases (by omega : q < (z : Int) ∨ q = (z : Int)) with a | a
  · exact a
  · rw [a, h.one] at hc
    exact absurd hc (by decide)
theorem zeros_eq {s : BrS} {z : Nat} {q : Int} (h : Zeros s z) (h0 : 0 ≤ q) (h1 : q ≤ (z : Int)) (hc : ¬ lookB s.octs (s.place + q) 1 = 0) : q = (z : Int) := by
  obtain ⟨k, rfl⟩ := Int.eq_ofNat_of_zero_le h0
  rcases (by omega : k < z ∨ (k : Int) = (z : Int)) with a | a
  · exact absurd (h.zero k a) hc
  · exact a
theorem and7 (x : Int) : PySem.Builtin.bitAnd x 7 = x % 8 := PySem.W.kbt_mask x 3
theorem and7_nn (x : Int) : 0 ≤ PySem.Builtin.bitAnd x 7 := by
  rw [and7]
  omega
theorem num_app (xs ys : List Int) : num (xs ++ ys) = num xs * 256 ^ ys.length + num ys := by
  refine snocInd (motive := fun ys => num (xs ++ ys) = num xs * 256 ^ ys.length + num ys) ?_ (fun zs z ih => ?_) ys
  · rw [List.append_nil]
    show num xs = num xs * 1 + 0
    omega
  · rw [← List.append_assoc, num_snoc, num_snoc, ih, List.length_append]
    show _ = num xs * 256 ^ (zs.length + 1) + _
    rw [Int.pow_succ, ← Int.mul_assoc]
    omega
theorem pow256 (n : Nat) : (256 : Int) ^ n = 2 ^ (8 * n) := by
  rw [Int.pow_mul]
  rfl
theorem num_lt {xs : List Int} (h : ∀ x ∈ xs, 0 ≤ x ∧ x ≤ 255) : 0 ≤ num xs ∧ num xs < 256 ^ xs.length := by
  refine snocInd (motive := fun xs => (∀ x ∈ xs, 0 ≤ x ∧ x ≤ 255) → 0 ≤ num xs ∧ num xs < 256 ^ xs.length) (fun _ => ⟨by decide, by decide⟩) (fun ys y ih h => ?_) xs h
  have i := ih fun x hx => h x (by simp [hx])
  have hy := h y (by simp)
  rw [num_snoc, List.length_append]
  show _ ∧ _ < (256 : Int) ^ (ys.length + 1)
  rw [Int.pow_succ]
  omega
theorem slice_mem {o : List Int} {p c : Int} {x : Int} (h : x ∈ sliceB o p c) : x ∈ o := by
  unfold sliceB at h
  exact mem_cutL h
theorem slice_oct {o : List Int} {p c : Int} {i : Nat} {x : Int} (h : ∀ x ∈ o, 0 ≤ x ∧ x ≤ 255) (hi : (sliceB o p c)[i]? = some x) : 0 ≤ x ∧ x ≤ 255 := h x (slice_mem (List.mem_of_getElem? hi))
theorem num_take {xs : List Int} {i : Nat} {x : Int} (hi : xs[i]? = some x) : num (xs.take i) * 256 + x = num (xs.take (i + 1)) := by
  rw [take_succ_get hi, num_snoc]
theorem slice_split {o : List Int} {p c : Int} (hp : 0 ≤ p) (hc : 0 ≤ c) (h : p + c ≤ 8 * (o.length : Int)) :
    ∃ A C : List Int, o = A ++ sliceB o p c ++ C ∧ (A.length : Int) = p / 8 ∧ (C.length : Int) = o.length - (p + c + 7) / 8 ∧ ((sliceB o p c).length : Int) = (p + c + 7) / 8 - p / 8 := by
  obtain ⟨a, ha⟩ := Int.eq_ofNat_of_zero_le (show 0 ≤ p / 8 by omega)
  obtain ⟨b, hb⟩ := Int.eq_ofNat_of_zero_le (show 0 ≤ (p + c + 7) / 8 by omega)
  have hab : a ≤ b := by omega
  have hbl : b ≤ o.length := by omega
  unfold sliceB cutL
  rw [ha, hb, HT.sIx_nat, HT.sIx_nat, Nat.min_eq_left hbl, Nat.min_eq_left (by omega)]
  refine ⟨o.take a, o.drop b, ?_, ?_, ?_, ?_⟩
  · have e : List.drop b o = List.drop (b - a) (List.drop a o) := by
      rw [List.drop_drop]
      congr 1
      omega
    rw [e, List.append_assoc, List.take_append_drop, List.take_append_drop]
  · rw [List.length_take]
    omega
  · rw [List.length_drop]
    omega
  · rw [List.length_take, List.length_drop]
    omega
theorem slice_small {s : BrS} {p c : Int} (h : BrG s) (hp : 0 ≤ p) (hc : 0 ≤ c ∧ c ≤ 65) (hs : p + c ≤ s.stop) (i : Nat) : 0 ≤ num ((sliceB s.octs p c).take i) ∧ num ((sliceB s.octs p c).take i) < 2 ^ 4096 := by
  have hst := h.stop
  obtain ⟨A, C, e, hA, hC, hS⟩ := slice_split (o := s.octs) hp hc.1 (by omega)
  have hl : ((sliceB s.octs p c).take i).length ≤ 500 := by
    rw [List.length_take]
    omega
  have n := num_lt (xs := (sliceB s.octs p c).take i) fun x hx => h.oct x (slice_mem (List.mem_of_mem_take hx))
  refine ⟨n.1, Int.lt_of_lt_of_le n.2 ?_⟩
  rw [pow256]
  exact pow_mono (by omega)
theorem look_eq {s : BrS} {p c : Int} (h : BrG s) (hp : 0 ≤ p) (hc : 0 ≤ c ∧ c ≤ 65) (hs : p + c ≤ s.stop) :
    lookB s.octs p c = PySem.Builtin.bitAnd (num (sliceB s.octs p c) / 2 ^ (PySem.Builtin.bitAnd (-(p + c)) 7).toNat) (1 * 2 ^ c.toNat - 1) := by
  obtain ⟨cn, rfl⟩ := Int.eq_ofNat_of_zero_le hc.1
  have hst := h.stop
  obtain ⟨A, C, e, hA, hC, hS⟩ := slice_split (o := s.octs) hp hc.1 (by omega)
  have hCo : ∀ x ∈ C, 0 ≤ x ∧ x ≤ 255 := fun x hx => h.oct x (by rw [e]; exact List.mem_append_right _ hx)
  have nC := num_lt hCo
  rw [mask_pow, and7]
  unfold lookB
  obtain ⟨pad, hpad⟩ := Int.eq_ofNat_of_zero_le (show 0 ≤ -(p + (cn : Int)) % 8 by omega)
  have hlen : (8 * (s.octs.length : Int) - p - (cn : Int)).toNat = 8 * C.length + pad := by omega
  rw [hlen, hpad]
  have e1 : num s.octs / 2 ^ (8 * C.length + pad) = num (A ++ sliceB s.octs p (cn : Int)) / 2 ^ pad := by
    have e2 : num s.octs = num (A ++ sliceB s.octs p (cn : Int)) * 256 ^ C.length + num C := by
      rw [← num_app, ← e]
    rw [Int.pow_add, ← Int.ediv_ediv_of_nonneg (Int.le_of_lt (pow_pos2 _)), e2, pow256]
    rw [pow256] at nC
    congr 1
    rw [Int.add_comm, Int.add_mul_ediv_right _ _ (by have := pow_pos2 (8 * C.length); omega), Int.ediv_eq_zero_of_lt nC.1 nC.2]
    omega
  rw [e1, num_app, pow256]
  obtain ⟨d, hd⟩ : ∃ d : Nat, 8 * (sliceB s.octs p (cn : Int)).length = d + cn + pad := ⟨8 * (sliceB s.octs p (cn : Int)).length - cn - pad, by omega⟩
  rw [hd, Int.pow_add, Int.pow_add, ← Int.mul_assoc, ← Int.mul_assoc, Int.add_comm, Int.add_mul_ediv_right _ _ (by have := pow_pos2 pad; omega)]
  exact Int.add_mul_emod_self_right _ _ _

def nb (bs : List Int) : Int := bs.foldl (fun a x => a * 2 + x) 0
theorem nb_snoc (xs : List Int) (x : Int) : nb (xs ++ [x]) = nb xs * 2 + x := by
  unfold nb
  rw [List.foldl_append] <;> rfl
theorem nb_app (xs ys : List Int) : nb (xs ++ ys) = nb xs * 2 ^ ys.length + nb ys := by
  refine snocInd (motive := fun ys => nb (xs ++ ys) = nb xs * 2 ^ ys.length + nb ys) ?_ (fun zs z ih => ?_) ys
  · rw [List.append_nil]
    show nb xs = nb xs * 1 + 0
    omega
  · rw [← List.append_assoc, nb_snoc, nb_snoc, ih, List.length_append]
    show _ = nb xs * 2 ^ (zs.length + 1) + _
    rw [Int.pow_succ, ← Int.mul_assoc]
    omega
def B01 (bs : List Int) : Prop := ∀ b ∈ bs, 0 ≤ b ∧ b ≤ 1
theorem nb_lt {bs : List Int} (h : B01 bs) : 0 ≤ nb bs ∧ nb bs < 2 ^ bs.length := by
  refine snocInd (motive := fun bs => B01 bs → 0 ≤ nb bs ∧ nb bs < 2 ^ bs.length) (fun _ => ⟨by decide, by decide⟩) (fun ys y ih h => ?_) bs h
  have i := ih fun x hx => h x (by simp [hx])
  have hy := h y (by simp)
  rw [nb_snoc, List.length_append]
  show _ ∧ _ < (2 : Int) ^ (ys.length + 1)
  rw [Int.pow_succ]
  omega
theorem b01_app {xs ys : List Int} (h : B01 xs) (g : B01 ys) : B01 (xs ++ ys) := fun b hb => by
  rcases List.mem_append.mp hb with z | z
  · exact h b z
  · exact g b z
def bitsL (v c : Int) : List Int := (List.range c.toNat).map fun (j : Nat) => PySem.Builtin.bitAnd (v / 2 ^ Int.toNat (c - 1 - (0 + (j : Int)))) 1
theorem bitsL_len (v c : Int) : (bitsL v c).length = c.toNat := by
  unfold bitsL
  rw [List.length_map, List.length_range]
theorem bitsL_01 (v c : Int) : B01 (bitsL v c) := by
  intro b hb
  unfold bitsL at hb
  obtain ⟨j, _, e⟩ := List.mem_map.mp hb
  rw [← e]
  show 0 ≤ PySem.Builtin.bitAnd _ 1 ∧ PySem.Builtin.bitAnd _ 1 ≤ 1
  rw [bit_mod]
  omega
theorem bitsL_succ (v : Int) (n : Nat) : bitsL v ((n + 1 : Nat) : Int) = bitsL (v / 2) (n : Int) ++ [v % 2] := by
  unfold bitsL
  rw [show (((n + 1 : Nat) : Int)).toNat = n + 1 from rfl, show ((n : Int)).toNat = n from rfl, List.range_succ, List.map_append]
  congr 1
  · apply List.map_congr_left
    intro j hj
    have hj := List.mem_range.mp hj
    rw [bit_mod, bit_mod, show Int.toNat (((n + 1 : Nat) : Int) - 1 - (0 + (j : Int))) = 1 + Int.toNat ((n : Int) - 1 - (0 + (j : Int))) from by omega, Int.pow_add, ← Int.ediv_ediv_of_nonneg (by decide)]
    rfl
  · show [PySem.Builtin.bitAnd (v / 2 ^ Int.toNat (((n + 1 : Nat) : Int) - 1 - (0 + (n : Int)))) 1] = [v % 2]
    rw [bit_mod, show Int.toNat (((n + 1 : Nat) : Int) - 1 - (0 + (n : Int))) = 0 from by omega]
    show [v / 1 % 2] = _
    rw [Int.ediv_one]
theorem nb_bitsL : ∀ (n : Nat) {v : Int}, 0 ≤ v ∧ v < 2 ^ n → nb (bitsL v (n : Int)) = v
  | 0, v, h => by
    have : v = 0 := by
      have := h.2
      rw [Int.pow_zero] at this
      omega
    rw [this]
    rfl
  | n + 1, v, h => by
    rw [bitsL_succ, nb_snoc, nb_bitsL n (v := v / 2) (by have := h.2; rw [Int.pow_succ] at this; omega)]
    omega
def ueL (v : Int) : List Int := repL [0] (((PySem.Builtin.Int.intBits (v + 1) : Nat) : Int) - 1) ++ bitsL (v + 1) ((PySem.Builtin.Int.intBits (v + 1) : Nat) : Int)
def padL (bs : List Int) : List Int := (bs ++ [1]) ++ repL [0] ((8 - ((bs ++ [1]).length : Int) % 8) % 8)
def packL (bs : List Int) : List Int := (List.range (((padL bs).length : Int) / 8).toNat).map fun (i : Nat) => List.sum ((List.range 8).map fun (j : Nat) => itD (padL bs) (8 * (0 + (i : Int)) + (0 + (j : Int))) * 2 ^ Int.toNat (7 - (0 + (j : Int))))
theorem rep_zeros (k : Int) : repL [(0 : Int)] k = List.replicate k.toNat 0 := by
  unfold repL
  induction k.toNat with
  | zero => rfl
  | succ n ih =>
    rw [List.replicate_succ, List.flatten_cons, ih]
    rfl
theorem nb_zeros : ∀ n : Nat, nb (List.replicate n 0) = 0
  | 0 => rfl
  | n + 1 => nb_zeros n
theorem zeros_01 (n : Nat) : B01 (List.replicate n 0) := fun b hb => by
  rw [List.eq_of_mem_replicate hb]
  decide
theorem padL_len (bs : List Int) : ∃ m : Nat, ((padL bs).length : Int) = 8 * (m : Int) ∧ (m : Int) = bs.length / 8 + 1 := by
  refine ⟨bs.length / 8 + 1, ?_, by omega⟩
  unfold padL
  rw [List.length_append, len_rep1, List.length_append]
  simp only [List.length_cons, List.length_nil]
  omega
theorem padL_mem {bs : List Int} (h : B01 bs) : B01 (padL bs) := by
  unfold padL
  refine b01_app (b01_app h (fun b hb => ?_)) ?_
  · rw [List.mem_singleton.mp hb]
    decide
  · rw [rep_zeros]
    exact zeros_01 _
theorem ue_form {v : Int} (h : 0 ≤ v) : ∃ k : Nat, PySem.Builtin.Int.intBits (v + 1) = k + 1 ∧ (2 : Int) ^ k ≤ v + 1 ∧ v + 1 < 2 ^ (k + 1) ∧ ueL v = List.replicate k 0 ++ bitsL (v + 1) ((k + 1 : Nat) : Int) ∧ (ueL v).length = 2 * k + 1 ∧ nb (ueL v) = v + 1 ∧ B01 (ueL v) := by
  obtain ⟨k, e, lo, hi⟩ := ib_spec (n := v + 1) (by omega)
  have e2 : ueL v = List.replicate k 0 ++ bitsL (v + 1) ((k + 1 : Nat) : Int) := by
    unfold ueL
    rw [e, rep_zeros, show (((k + 1 : Nat) : Int) - 1).toNat = k from by omega]
  refine ⟨k, e, lo, hi, e2, ?_, ?_, ?_⟩
  · rw [e2, List.length_append, List.length_replicate, bitsL_len]
    omega
  · rw [e2, nb_app, nb_zeros, Int.zero_mul, Int.zero_add]
    exact nb_bitsL (k + 1) ⟨by omega, hi⟩
  · rw [e2]
    exact b01_app (zeros_01 _) (bitsL_01 _ _)
structure WR (w : BwS) (bs : List Int) : Prop where
  g : BwG w
  oct : ∀ x ∈ w.full, 0 ≤ x ∧ x ≤ 255
  b : B01 bs
  len : (bs.length : Int) = 8 * (w.full.length : Int) + w.bits
  val : nb bs = num w.full * 2 ^ w.bits.toNat + w.rest
theorem num_digs : ∀ (k : Nat) {M : Int}, 0 ≤ M ∧ M < 256 ^ k → num (digs M k) = M
  | 0, M, h => by
    have : M = 0 := by
      have := h.2
      rw [Int.pow_zero] at this
      omega
    rw [this]
    rfl
  | k + 1, M, h => by
    have e : M = M / 256 * 256 + M % 256 := by omega
    have h2 := h.2
    rw [Int.pow_succ] at h2
    have d := digs_snoc (M / 256) (M % 256) k (by omega)
    rw [← e] at d
    rw [d, num_snoc, num_digs k (M := M / 256) (by omega)]
    omega
theorem digs_oct {M : Int} {k : Nat} : ∀ x ∈ digs M k, 0 ≤ x ∧ x ≤ 255 := by
  intro x hx
  unfold digs at hx
  obtain ⟨j, _, e⟩ := List.mem_map.mp hx
  rw [← e]
  show 0 ≤ _ % 256 ∧ _ % 256 ≤ 255
  omega
theorem wr_add {w : BwS} {bs X : List Int} {v c : Int} (h : WR w bs) (hc : 0 ≤ c) (hx : B01 X) (hl : (X.length : Int) = c) (hv : nb X = v) : WR (bwAdd w v c) (bs ++ X) := by
  have hv2 := nb_lt hx
  have hcn : c.toNat = X.length := by omega
  rw [hv, ← hcn] at hv2
  have t := total_in h.g hc hv2
  have hb := h.g.bits
  have hval := h.val
  obtain ⟨r, hr⟩ := Int.eq_ofNat_of_zero_le (show 0 ≤ (w.bits + c) % 8 by omega)
  obtain ⟨k, hk⟩ := Int.eq_ofNat_of_zero_le (show 0 ≤ (w.bits + c) / 8 by omega)
  have hsum : (w.bits + c).toNat = 8 * k + r := by omega
  have hr2 : ((w.bits + c) % 8).toNat = r := by omega
  have hk2 : ((w.bits + c) / 8).toNat = k := by omega
  have pr := pow_pos2 r
  rw [hsum, Int.pow_add, ← pow256] at t
  have hM : 0 ≤ (w.rest * 2 ^ c.toNat + v) / 2 ^ r ∧ (w.rest * 2 ^ c.toNat + v) / 2 ^ r < 256 ^ k :=
    ⟨Int.ediv_nonneg t.1 (Int.le_of_lt pr), Int.ediv_lt_of_lt_mul pr t.2⟩
  unfold bwAdd
  rw [hr2, hk2]
  refine ⟨⟨by show 0 ≤ (w.bits + c) % 8 ∧ (w.bits + c) % 8 ≤ 7; omega, ?_⟩, ?_, b01_app h.b hx, ?_, ?_⟩
  · show 0 ≤ (w.rest * 2 ^ c.toNat + v) % 2 ^ r ∧ (w.rest * 2 ^ c.toNat + v) % 2 ^ r < 2 ^ ((w.bits + c) % 8).toNat
    rw [hr2]
    exact ⟨Int.emod_nonneg _ (by omega), Int.emod_lt_of_pos _ pr⟩
  · intro x hx
    rcases List.mem_append.mp hx with z | z
    · exact h.oct x z
    · exact digs_oct x z
  · have hlen := h.len
    show ((bs ++ X).length : Int) = 8 * ((w.full ++ digs _ k).length : Int) + (w.bits + c) % 8
    rw [List.length_append, List.length_append, digs_len]
    omega
  · show nb (bs ++ X) = num (w.full ++ digs _ k) * 2 ^ ((w.bits + c) % 8).toNat + (w.rest * 2 ^ c.toNat + v) % 2 ^ r
    rw [hr2, nb_app, num_app, digs_len, num_digs k hM, hv, hval, ← hcn]
    have q := Int.mul_ediv_add_emod (w.rest * 2 ^ c.toNat + v) (2 ^ r)
    rw [Int.add_mul, Int.add_mul, Int.mul_assoc, Int.mul_assoc, ← Int.pow_add, show w.bits.toNat + c.toNat = 8 * k + r from by omega, Int.pow_add, ← pow256]
    rw [Int.mul_comm (2 ^ r)] at q
    omega
theorem wr_nil : WR ⟨[], 0, 0⟩ [] := ⟨⟨by decide, by decide⟩, fun x h => (List.not_mem_nil h).elim, fun x h => (List.not_mem_nil h).elim, rfl, rfl⟩
def ItOk (it : Int × Int × Int) : Prop := (it.1 = 0 ∧ (0 ≤ it.2.2 ∧ it.2.2 ≤ 64) ∧ 0 ≤ it.2.1 ∧ it.2.1 < 2 ^ it.2.2.toNat) ∨ (it.1 = 1 ∧ 0 ≤ it.2.1 ∧ it.2.1 ≤ 4294967296) ∨ (it.1 = 2 ∧ -2147483648 ≤ it.2.1 ∧ it.2.1 ≤ 2147483648)
def itBits (it : Int × Int × Int) : List Int := if it.1 = 0 then bitsL it.2.1 it.2.2 else if it.1 = 1 then ueL it.2.1 else ueL (seCode it.2.1)
def itAdd (w : BwS) (it : Int × Int × Int) : BwS := if it.1 = 0 then bwAdd w it.2.1 it.2.2 else if it.1 = 1 then bwUe w it.2.1 else bwUe w (seCode it.2.1)
theorem se_in {v : Int} (h : -2147483648 ≤ v ∧ v ≤ 2147483648) : 0 ≤ seCode v ∧ seCode v ≤ 4294967296 := by
  unfold seCode
  split <;> omega
theorem wr_ue {w : BwS} {bs : List Int} {v : Int} (h : WR w bs) (hv : 0 ≤ v) : WR (bwUe w v) (bs ++ ueL v) := by
  obtain ⟨k, e, lo, hi, e2, hl, hn, hb⟩ := ue_form hv
  unfold bwUe
  rw [e]
  exact wr_add h (by omega) hb (by rw [hl]; omega) hn
theorem wr_put {w : BwS} {bs : List Int} {it : Int × Int × Int} (h : WR w bs) (hi : ItOk it) : WR (itAdd w it) (bs ++ itBits it) := by
  unfold itAdd itBits
  rcases hi with ⟨a, b, c⟩ | ⟨a, b⟩ | ⟨a, b⟩
  · rw [if_pos a, if_pos a]
    obtain ⟨n, hn⟩ := Int.eq_ofNat_of_zero_le b.1
    rw [hn] at c ⊢
    exact wr_add h (by omega) (bitsL_01 _ _) (by rw [bitsL_len]; omega) (nb_bitsL n c)
  · rw [if_neg (by omega), if_pos a, if_neg (by omega), if_pos a]
    exact wr_ue h b.1
  · rw [if_neg (by omega), if_neg (by omega), if_neg (by omega), if_neg (by omega)]
    exact wr_ue h (se_in b).1
theorem it_01 {it : Int × Int × Int} (hi : ItOk it) : B01 (itBits it) := by
  unfold itBits
  rcases hi with ⟨a, b, c⟩ | ⟨a, b⟩ | ⟨a, b⟩
  · rw [if_pos a]
    exact bitsL_01 _ _
  · rw [if_neg (by omega), if_pos a]
    obtain ⟨k, e, lo, hi, e2, hl, hn, hb⟩ := ue_form b.1
    exact hb
  · rw [if_neg (by omega), if_neg (by omega)]
    obtain ⟨k, e, lo, hi, e2, hl, hn, hb⟩ := ue_form (se_in b).1
    exact hb
theorem ue_len {v : Int} (h : 0 ≤ v) (h1 : v ≤ 4294967296) : (ueL v).length ≤ 130 := by
  obtain ⟨k, e, lo, hi, e2, hl, hn, hb⟩ := ue_form h
  have u := (ue_in h h1).1
  rw [e] at u
  omega
theorem it_len {it : Int × Int × Int} (hi : ItOk it) : (itBits it).length ≤ 130 := by
  unfold itBits
  rcases hi with ⟨a, b, c⟩ | ⟨a, b⟩ | ⟨a, b⟩
  · rw [if_pos a, bitsL_len]
    omega
  · rw [if_neg (by omega), if_pos a]
    exact ue_len b.1 b.2
  · rw [if_neg (by omega), if_neg (by omega)]
    exact ue_len (se_in b).1 (se_in b).2
theorem eight0 {b : Int} (h : 0 ≤ b ∧ b ≤ 7) : b = 0 ∨ b = 1 ∨ b = 2 ∨ b = 3 ∨ b = 4 ∨ b = 5 ∨ b = 6 ∨ b = 7 := by omega
theorem wr_mem {w : BwS} {bs : List Int} (h : WR w bs) : ∀ x ∈ w.full ++ [(2 * w.rest + 1) * 2 ^ (7 - w.bits).toNat], 0 ≤ x ∧ x ≤ 255 := by
  intro x hx
  rcases List.mem_append.mp hx with z | z
  · exact h.oct x z
  · rw [List.mem_singleton.mp z]
    have hb := h.g.bits
    have hr := h.g.rest
    rcases eight0 hb with e | e | e | e | e | e | e | e <;>
      (rw [e] at hr ⊢; simp at hr ⊢; omega)
theorem wr_last {w : BwS} {bs : List Int} (h : WR w bs) : 0 < (2 * w.rest + 1) * 2 ^ (7 - w.bits).toNat ∧ lastBit ((2 * w.rest + 1) * 2 ^ (7 - w.bits).toNat) = 8 - w.bits := by
  have hb := h.g.bits
  have hr := h.g.rest
  refine ⟨?_, ?_⟩
  · rcases eight0 hb with e | e | e | e | e | e | e | e <;> (rw [e] at hr ⊢; simp at hr ⊢; try omega)
  · unfold lastBit
    rcases eight0 hb with e | e | e | e | e | e | e | e <;> (rw [e] at hr ⊢; simp at hr ⊢ <;> (repeat' split) <;> omega)
theorem wr_num {w : BwS} {bs : List Int} (h : WR w bs) : num (w.full ++ [(2 * w.rest + 1) * 2 ^ (7 - w.bits).toNat]) = (nb bs * 2 + 1) * 2 ^ (7 - w.bits).toNat := by
  have hb := h.g.bits
  rw [num_snoc, h.val]
  rcases eight0 hb with e | e | e | e | e | e | e | e <;>
    (rw [e]; simp; omega)
theorem pad_nb {w : BwS} {bs : List Int} (h : WR w bs) : nb (padL bs) = (nb bs * 2 + 1) * 2 ^ (7 - w.bits).toNat := by
  have hb := h.g.bits
  have hl := h.len
  unfold padL
  rw [nb_app, rep_zeros, nb_zeros, nb_snoc, List.length_replicate, List.length_append]
  simp only [List.length_cons, List.length_nil]
  rw [show ((8 - ((bs.length + (0 + 1) : Nat) : Int) % 8) % 8).toNat = (7 - w.bits).toNat from by omega]
  omega
theorem take8 {B : List Int} {m : Nat} (h : 8 * (m + 1) ≤ B.length) : ∃ a b c d e f g i : Int, B.take (8 * (m + 1)) = B.take (8 * m) ++ [a] ++ [b] ++ [c] ++ [d] ++ [e] ++ [f] ++ [g] ++ [i] ∧
    itD B (8 * (0 + (m : Int)) + 0) = a ∧ itD B (8 * (0 + (m : Int)) + 1) = b ∧ itD B (8 * (0 + (m : Int)) + 2) = c ∧ itD B (8 * (0 + (m : Int)) + 3) = d ∧
    itD B (8 * (0 + (m : Int)) + 4) = e ∧ itD B (8 * (0 + (m : Int)) + 5) = f ∧ itD B (8 * (0 + (m : Int)) + 6) = g ∧ itD B (8 * (0 + (m : Int)) + 7) = i := by
  have ix : ∀ k : Nat, (hk : 8 * m + k < B.length) → B[8 * m + k]? = some (B[8 * m + k]'hk) := fun k hk => List.getElem?_eq_getElem hk
  have it : ∀ k : Nat, (hk : 8 * m + k < B.length) → itD B (8 * (0 + (m : Int)) + (k : Int)) = B[8 * m + k]'hk := fun k hk => by
    rw [show 8 * (0 + (m : Int)) + (k : Int) = ((8 * m + k : Nat) : Int) from by omega]
    exact itD_nat (ix k hk)
  refine ⟨_, _, _, _, _, _, _, _, ?_, it 0 (by omega), it 1 (by omega), it 2 (by omega), it 3 (by omega), it 4 (by omega), it 5 (by omega), it 6 (by omega), it 7 (by omega)⟩
  rw [show 8 * (m + 1) = 8 * m + 7 + 1 from by omega, take_succ_get (ix 7 (by omega)), take_succ_get (ix 6 (by omega)), take_succ_get (ix 5 (by omega)), take_succ_get (ix 4 (by omega)), take_succ_get (ix 3 (by omega)), take_succ_get (ix 2 (by omega)), take_succ_get (ix 1 (by omega)), take_succ_get (ix 0 (by omega))]
  rfl
def octB (B : List Int) (m : Nat) : Int := List.sum ((List.range 8).map fun (j : Nat) => itD B (8 * (0 + (m : Int)) + (0 + (j : Int))) * 2 ^ Int.toNat (7 - (0 + (j : Int))))
theorem octB_eq (B : List Int) (m : Nat) : octB B m = itD B (8 * (0 + (m : Int)) + 0) * 128 + itD B (8 * (0 + (m : Int)) + 1) * 64 + itD B (8 * (0 + (m : Int)) + 2) * 32 + itD B (8 * (0 + (m : Int)) + 3) * 16 +
    itD B (8 * (0 + (m : Int)) + 4) * 8 + itD B (8 * (0 + (m : Int)) + 5) * 4 + itD B (8 * (0 + (m : Int)) + 6) * 2 + itD B (8 * (0 + (m : Int)) + 7) := by
  unfold octB
  rw [show List.range 8 = [0, 1, 2, 3, 4, 5, 6, 7] from rfl]
  simp only [List.map_cons, List.map_nil, List.sum_cons, List.sum_nil]
  show itD B (8 * (0 + (m : Int)) + 0) * 128 + (itD B (8 * (0 + (m : Int)) + 1) * 64 + (itD B (8 * (0 + (m : Int)) + 2) * 32 + (itD B (8 * (0 + (m : Int)) + 3) * 16 + (itD B (8 * (0 + (m : Int)) + 4) * 8 + (itD B (8 * (0 + (m : Int)) + 5) * 4 + (itD B (8 * (0 + (m : Int)) + 6) * 2 + (itD B (8 * (0 + (m : Int)) + 7) * 1 + 0))))))) = _
  omega
theorem oct_turn8 {B : List Int} (hB : B01 B) {m : Nat} (h : 8 * (m + 1) ≤ B.length) : nb (B.take (8 * (m + 1))) = nb (B.take (8 * m)) * 256 + octB B m ∧ 0 ≤ octB B m ∧ octB B m ≤ 255 := by
  obtain ⟨a, b, c, d, e, f, g, i, ht, ea, eb, ec, ed, ee, ef, eg, ei⟩ := take8 h
  have hb : ∀ x ∈ [a, b, c, d, e, f, g, i], 0 ≤ x ∧ x ≤ 1 := fun x hx => by
    apply hB x
    apply List.mem_of_mem_take (i := 8 * (m + 1))
    rw [ht]
    simp only [List.mem_cons, List.not_mem_nil, or_false] at hx
    simp only [List.mem_append, List.mem_singleton]
    rcases hx with z | z | z | z | z | z | z | z <;> simp [z]
  simp only [List.mem_cons, List.not_mem_nil, or_false, forall_eq_or_imp, forall_eq] at hb
  rw [octB_eq, ea, eb, ec, ed, ee, ef, eg, ei, ht]
  simp only [nb_snoc]
  omega
theorem num_pack {B : List Int} (hB : B01 B) : ∀ m : Nat, 8 * m ≤ B.length → num ((List.range m).map (octB B)) = nb (B.take (8 * m)) ∧ ∀ x ∈ (List.range m).map (octB B), 0 ≤ x ∧ x ≤ 255
  | 0, _ => ⟨rfl, fun x hx => (List.not_mem_nil hx).elim⟩
  | m + 1, h => by
    have ih := num_pack hB m (by omega)
    have t := oct_turn8 hB h
    rw [List.range_succ, List.map_append]
    refine ⟨?_, fun x hx => ?_⟩
    · show num (_ ++ [octB B m]) = _
      rw [num_snoc, ih.1, t.1]
    · rcases List.mem_append.mp hx with z | z
      · exact ih.2 x z
      · rw [show x = octB B m from by simpa using z]
        exact t.2
theorem wr_octets {w : BwS} {bs : List Int} (h : WR w bs) : w.full ++ [(2 * w.rest + 1) * 2 ^ (7 - w.bits).toNat] = packL bs := by
  obtain ⟨m, h1, h2⟩ := padL_len bs
  have hm : (((padL bs).length : Int) / 8).toNat = m := by omega
  have hB := padL_mem h.b
  have p := num_pack hB m (by omega)
  have hpk : packL bs = (List.range m).map (octB (padL bs)) := by
    unfold packL
    rw [hm]
    rfl
  have hl : (packL bs).length = m := by rw [hpk, List.length_map, List.length_range]
  have hl2 : (w.full ++ [(2 * w.rest + 1) * 2 ^ (7 - w.bits).toNat]).length = m := by
    have := h.len
    have := h.g.bits
    rw [List.length_append]
    simp only [List.length_cons, List.length_nil]
    omega
  have a := digs_num (wr_mem h)
  have b := digs_num p.2
  rw [← hpk] at b
  rw [hl] at b
  rw [hl2] at a
  rw [← a, ← b, hpk, p.1, List.take_of_length_le (by omega), pad_nb h, wr_num h]
structure RR (s : BrS) (bs : List Int) : Prop where
  g : BrG s
  b : B01 bs
  len : s.place + (bs.length : Int) = s.stop
  val : num s.octs / 2 ^ (8 * (s.octs.length : Int) - s.stop).toNat % 2 ^ bs.length = nb bs
theorem rr_look {s : BrS} {Z X Y : List Int} (h : RR s (Z ++ X ++ Y)) : lookB s.octs (s.place + (Z.length : Int)) (X.length : Int) = nb X := by
  have hl := h.len
  have hs := h.g.stop
  have hv := h.val
  have hX := nb_lt (bs := X) fun b hb => h.b b (by simp [hb])
  have hY := nb_lt (bs := Y) fun b hb => h.b b (by simp [hb])
  rw [List.length_append, List.length_append] at hl hv
  unfold lookB
  rw [show (8 * (s.octs.length : Int) - (s.place + (Z.length : Int)) - (X.length : Int)).toNat = (8 * (s.octs.length : Int) - s.stop).toNat + Y.length from by omega, Int.pow_add, ← Int.ediv_ediv_of_nonneg (Int.le_of_lt (pow_pos2 _))]
  generalize num s.octs / 2 ^ (8 * (s.octs.length : Int) - s.stop).toNat = q at *
  show q / 2 ^ Y.length % 2 ^ X.length = nb X
  have pY := pow_pos2 Y.length
  have pX := pow_pos2 X.length
  have e : q = 2 ^ (Z.length + X.length + Y.length) * (q / 2 ^ (Z.length + X.length + Y.length)) + nb (Z ++ X ++ Y) := by
    rw [← hv]
    exact (Int.mul_ediv_add_emod _ _).symm
  generalize q / 2 ^ (Z.length + X.length + Y.length) = t at e
  rw [e, nb_app, nb_app, Int.pow_add, Int.pow_add]
  rw [show 2 ^ Z.length * 2 ^ X.length * 2 ^ Y.length * t + ((nb Z * 2 ^ X.length + nb X) * 2 ^ Y.length + nb Y) = nb Y + (nb X + (2 ^ Z.length * t + nb Z) * 2 ^ X.length) * 2 ^ Y.length from by
    simp only [Int.add_mul]
    rw [show 2 ^ Z.length * 2 ^ X.length * 2 ^ Y.length * t = 2 ^ Z.length * t * 2 ^ X.length * 2 ^ Y.length from by ac_rfl]
    omega]
  rw [Int.add_mul_ediv_right _ _ (by omega), Int.ediv_eq_zero_of_lt hY.1 hY.2, Int.zero_add, Int.add_mul_emod_self_right, Int.emod_eq_of_lt hX.1 hX.2]
theorem rr_move {s : BrS} {X Y : List Int} (h : RR s (X ++ Y)) : RR (brMove s (X.length : Int)) Y := by
  have hl := h.len
  have hv := h.val
  rw [List.length_append] at hl hv
  have hY := nb_lt (bs := Y) fun b hb => h.b b (by simp [hb])
  have g := h.g
  refine ⟨⟨g.oct, by show 0 ≤ s.place + (X.length : Int); have := g.place; omega, g.stop⟩, fun b hb => h.b b (by simp [hb]), by show s.place + (X.length : Int) + (Y.length : Int) = s.stop; omega, ?_⟩
  show num s.octs / 2 ^ (8 * (s.octs.length : Int) - s.stop).toNat % 2 ^ Y.length = nb Y
  generalize num s.octs / 2 ^ (8 * (s.octs.length : Int) - s.stop).toNat = q at *
  have hq := mod_mod_mul q (2 ^ Y.length) (2 ^ X.length)
  rw [Int.mul_comm, ← Int.pow_add, hv, nb_app, Int.add_comm, Int.add_mul_emod_self_right, Int.emod_eq_of_lt hY.1 hY.2] at hq
  exact hq.symm
theorem rr_init {w : BwS} {bs : List Int} (h : WR w bs) : RR (brInit (w.full ++ [(2 * w.rest + 1) * 2 ^ (7 - w.bits).toNat])) bs := by
  have hb := h.g.bits
  have hl := h.len
  have lb := wr_last h
  have hn := nb_lt h.b
  have hlen : ((w.full ++ [(2 * w.rest + 1) * 2 ^ (7 - w.bits).toNat]).length : Int) = w.full.length + 1 := by
    rw [List.length_append]
    rfl
  have hst : (brInit (w.full ++ [(2 * w.rest + 1) * 2 ^ (7 - w.bits).toNat])).stop = bs.length := by
    show 8 * ((w.full ++ [(2 * w.rest + 1) * 2 ^ (7 - w.bits).toNat]).length : Int) - lastBit (itD (w.full ++ [(2 * w.rest + 1) * 2 ^ (7 - w.bits).toNat]) (-1)) = _
    rw [itD_end, lb.2, hlen]
    omega
  refine ⟨⟨wr_mem h, Int.le_refl 0, by rw [hst]; show _ ≤ 8 * ((w.full ++ [(2 * w.rest + 1) * 2 ^ (7 - w.bits).toNat]).length : Int); omega⟩, h.b, by rw [hst]; show (0 : Int) + _ = _; omega, ?_⟩
  rw [hst]
  show num (w.full ++ [(2 * w.rest + 1) * 2 ^ (7 - w.bits).toNat]) / 2 ^ (8 * ((w.full ++ [(2 * w.rest + 1) * 2 ^ (7 - w.bits).toNat]).length : Int) - (bs.length : Int)).toNat % 2 ^ bs.length = nb bs
  rw [wr_num h, hlen, show (8 * ((w.full.length : Int) + 1) - (bs.length : Int)).toNat = (7 - w.bits).toNat + 1 from by omega, Int.pow_add, ← Int.ediv_ediv_of_nonneg (Int.le_of_lt (pow_pos2 _)), Int.mul_ediv_cancel _ (by have := pow_pos2 (7 - w.bits).toNat; omega)]
  rw [show (nb bs * 2 + 1) / 2 ^ 1 = nb bs from by omega, Int.emod_eq_of_lt hn.1 hn.2]
theorem rr_zeros {s : BrS} {v : Int} {Y : List Int} (hv : 0 ≤ v) (hv1 : v ≤ 4294967296) (h : RR s (ueL v ++ Y)) :
    ∃ z : Nat, Zeros s z ∧ s.place + (2 * (z : Int) + 1) ≤ s.stop ∧ lookB s.octs s.place (2 * (z : Int) + 1) - 1 = v ∧ 2 * (z : Int) + 1 = ((ueL v).length : Int) := by
  obtain ⟨k, e, lo, hi, e2, hl, hn, hb⟩ := ue_form hv
  have hk : k < 33 := pow_lt_of (Int.lt_of_le_of_lt lo (by show v + 1 < 8589934592; omega))
  have hlen := h.len
  rw [List.length_append, hl] at hlen
  refine ⟨k, ⟨by omega, by omega, fun j hj => ?_, ?_⟩, by omega, ?_, by omega⟩
  · have h2 : RR s (List.replicate j 0 ++ [0] ++ (List.replicate (k - j - 1) 0 ++ bitsL (v + 1) ((k + 1 : Nat) : Int) ++ Y)) := by
      have e3 : List.replicate k (0 : Int) = List.replicate j 0 ++ ([0] ++ List.replicate (k - j - 1) 0) := by
        rw [show [(0 : Int)] = List.replicate 1 0 from rfl, List.replicate_append_replicate, List.replicate_append_replicate]
        congr 1
        omega
      rw [e2, e3] at h
      simpa using h
    have r := rr_look h2
    rw [List.length_replicate] at r
    exact r
  · have e4 : ∃ T : List Int, bitsL (v + 1) ((k + 1 : Nat) : Int) = [1] ++ T := by
      refine ⟨(bitsL (v + 1) ((k + 1 : Nat) : Int)).drop 1, ?_⟩
      unfold bitsL
      rw [show (((k + 1 : Nat) : Int)).toNat = k + 1 from rfl, List.range_succ_eq_map, List.map_cons, List.drop_one, List.tail_cons, List.singleton_append]
      congr 1
      rw [bit_mod, show Int.toNat (((k + 1 : Nat) : Int) - 1 - (0 + ((0 : Nat) : Int))) = k from by omega]
      have p := pow_pos2 k
      rw [Int.pow_succ] at hi
      have q1 : (v + 1) / 2 ^ k = 1 := by
        apply Int.le_antisymm
        · have : (v + 1) / 2 ^ k < 2 := Int.ediv_lt_of_lt_mul p (by omega)
          omega
        · exact Int.le_ediv_of_mul_le p (by omega)
      rw [q1]
      rfl
    obtain ⟨T, e5⟩ := e4
    have h2 : RR s (List.replicate k 0 ++ [1] ++ (T ++ Y)) := by
      rw [e2, e5] at h
      simpa using h
    have r := rr_look h2
    rw [List.length_replicate] at r
    exact r
  · have h2 : RR s ([] ++ ueL v ++ Y) := by
      rw [List.nil_append]
      exact h
    have r := rr_look h2
    rw [hl, hn] at r
    rw [show s.place + (([] : List Int).length : Int) = s.place from Int.add_zero _] at r
    rw [show (2 * (k : Int) + 1) = ((2 * k + 1 : Nat) : Int) from by omega, r]
    omega
theorem se_back (v : Int) : seBack (seCode v) = v := by
  unfold seBack seCode
  rw [bit_mod]
  by_cases h : 0 < v
  · rw [if_pos h, if_pos (by rw [show (2 * v - 1) % 2 = 1 from by omega]; rfl)]
    omega
  · rw [if_neg h, if_neg (by rw [show -2 * v % 2 = 0 from by omega]; decide)]
    omega
structure GetOk (s : BrS) (it : Int × Int × Int) : Prop where
  g : BrG s
  get0 : it.1 = 0 → (0 ≤ it.2.2 ∧ it.2.2 ≤ 64) ∧ s.place + it.2.2 ≤ s.stop ∧ lookB s.octs s.place it.2.2 = it.2.1 ∧ it.2.2 = ((itBits it).length : Int)
  get1 : it.1 = 1 → ∃ z : Nat, Zeros s z ∧ s.place + (2 * (z : Int) + 1) ≤ s.stop ∧ lookB s.octs s.place (2 * (z : Int) + 1) - 1 = it.2.1 ∧ 2 * (z : Int) + 1 = ((itBits it).length : Int)
  get2 : ¬ it.1 = 0 → ¬ it.1 = 1 → ∃ z : Nat, Zeros s z ∧ s.place + (2 * (z : Int) + 1) ≤ s.stop ∧ seBack (lookB s.octs s.place (2 * (z : Int) + 1) - 1) = it.2.1 ∧ 2 * (z : Int) + 1 = ((itBits it).length : Int)
theorem rr_get {s : BrS} {it : Int × Int × Int} {Y : List Int} (hi : ItOk it) (h : RR s (itBits it ++ Y)) : GetOk s it := by
  refine ⟨h.g, fun a => ?_, fun a => ?_, fun a b => ?_⟩
  · have e : itBits it = bitsL it.2.1 it.2.2 := if_pos a
    rw [e] at h ⊢
    rcases hi with ⟨_, b, c⟩ | ⟨z, _⟩ | ⟨z, _⟩
    · obtain ⟨n, hn⟩ := Int.eq_ofNat_of_zero_le b.1
      have hl := h.len
      rw [List.length_append, bitsL_len] at hl
      rw [bitsL_len]
      refine ⟨b, by omega, ?_, by omega⟩
      have h2 : RR s ([] ++ bitsL it.2.1 it.2.2 ++ Y) := by
        rw [List.nil_append]
        exact h
      have r := rr_look h2
      rw [bitsL_len, show ((it.2.2.toNat : Nat) : Int) = it.2.2 from by omega, show s.place + (([] : List Int).length : Int) = s.place from Int.add_zero _] at r
      rw [r]
      rw [hn] at c ⊢
      exact nb_bitsL n c
    · omega
    · omega
  · have e : itBits it = ueL it.2.1 := by
      unfold itBits
      rw [if_neg (by omega), if_pos a]
    rw [e] at h ⊢
    rcases hi with ⟨z, _⟩ | ⟨_, b⟩ | ⟨z, _⟩
    · omega
    · exact rr_zeros b.1 b.2 h
    · omega
  · have e : itBits it = ueL (seCode it.2.1) := by
      unfold itBits
      rw [if_neg a, if_neg b]
    rw [e] at h ⊢
    rcases hi with ⟨z, _⟩ | ⟨z, _⟩ | ⟨_, c⟩
    · omega
    · omega
    · obtain ⟨z, z1, z2, z3, z4⟩ := rr_zeros (se_in c).1 (se_in c).2 h
      exact ⟨z, z1, z2, by rw [z3]; exact se_back _, z4⟩
end Pb
namespace Pb
theorem big_in {x : Int} (h0 : -1000000 ≤ x) (h1 : x ≤ 1000000) : -(2 ^ 4096) < x ∧ x < 2 ^ 4096 := by
  have k : (2 : Int) ^ 20 ≤ 2 ^ 4096 := pow_mono (by omega)
  have k2 : (2 : Int) ^ 20 = 1048576 := rfl
  generalize (2 : Int) ^ 4096 = b at *
  omega
theorem add_eq {w : BwS} {v c : Int} (h : BwG w) (hc : 0 ≤ c ∧ c ≤ 130) (hv : 0 ≤ v ∧ v < 2 ^ c.toNat) (hf : w.full.length ≤ 900000) : F_BitWriter__add w v c = .ok (bwAdd w v c) := by
  have hb := h.bits
  have hr := small_rest h
  unfold F_BitWriter__add
  have hi := big_in (x := w.rest) (by omega) (by omega)
  refine Gv.get (Gv.grd ⟨hc.1, by omega, hi.1, hi.2⟩ (Gv.bnd fun rest e1 => Gv.bnd fun left e2 => Gv.bind (Gv.whileR (P := fun s : St_BitWriter × Int × Int => s.1.rest = w.rest ∧ s.1.bits = w.bits ∧ AddR (w.rest * 2 ^ c.toNat + v) (w.bits + c) w.full s.1.full s.2.1 s.2.2) (R := fun s => (⟨s.1.full, s.2.1, s.2.2⟩ : BwS) = bwAdd w v c) (fun s => s.2.2.toNat) (fun s p => ?_) ?_ ?_) fun l hl => ?_))
  · obtain ⟨p1, p2, p⟩ := p
    have hl := p.len
    have hle := p.le
    have hi1 := big_in (x := 1) (by omega) (by omega)
    unfold F_BitWriter__add_b1
    refine Gv.ite (fun h8 => ?_) (fun h8 => .ok (Or.inr ⟨(s.1, s.2.1, s.2.2), rfl, add_end p (Int.not_le.mp h8)⟩))
    refine Gv.bnd fun l hl2 => ?_
    subst hl2
    refine Gv.grd (by omega) (Gv.grd (by omega) (Gv.bnd fun y hy => Gv.grd ⟨by omega, by omega, hi1.1, hi1.2⟩ (Gv.bnd fun r hr => .ok (Or.inl ⟨_, rfl, ⟨p1, p2, ?_⟩, ?_⟩))))
    · subst hy hr
      exact add_turn p h8
    · show (s.2.2 - 8).toNat < s.2.2.toNat
      omega
  · subst e1 e2
    exact ⟨rfl, rfl, add_start h hc.1 hv⟩
  · show left.toNat < 1000000
    subst e2
    omega
  · obtain ⟨s, rfl, hs⟩ := hl
    rw [aft_go]
    exact .ok hs
theorem put_eq {w : BwS} {v c : Int} (h : BwG w) (hc : 0 ≤ c ∧ c ≤ 64) (hv : 0 ≤ v ∧ v < 2 ^ c.toNat) (hf : w.full.length ≤ 900000) : F_BitWriter_put w v c = .ok (bwAdd w v c) := by
  unfold F_BitWriter_put
  have hi1 := big_in (x := 1) (by omega) (by omega)
  rw [if_pos hc.1, if_pos hc.2, if_pos hv.1, grd_pos ⟨hc.1, by omega, hi1.1, hi1.2⟩, if_pos (by rw [Int.one_mul]; exact hv.2), add_eq h ⟨hc.1, by omega⟩ hv hf]
  rfl
theorem put_ue_eq {w : BwS} {v : Int} (h : BwG w) (hv : 0 ≤ v ∧ v ≤ 4294967296) (hf : w.full.length ≤ 900000) : F_BitWriter_put_ue w v = .ok (bwUe w v) := by
  have u := ue_in hv.1 hv.2
  unfold F_BitWriter_put_ue
  rw [if_pos hv.1, if_pos hv.2, bnd_eq, add_eq h u.1 u.2 hf]
  rfl
theorem octets_eq {w : BwS} (h : BwG w) (hf : w.full.length ≤ 900000) : F_BitWriter_octets w = .ok (w.full ++ [(2 * w.rest + 1) * 2 ^ (7 - w.bits).toNat]) := by
  have hb := h.bits
  have hr := small_rest h
  have hi := big_in (x := 2 * w.rest + 1) (by omega) (by omega)
  unfold F_BitWriter_octets
  rw [bnd_eq, grd_pos ⟨by omega, by omega, hi.1, hi.2⟩, grd_pos (by simp; omega)]
theorem wr_put_gv {w : BwS} {bs : List Int} {v c : Int} (h : WR w bs) (hc : 0 ≤ c ∧ c ≤ 64) (hv : 0 ≤ v ∧ v < 2 ^ c.toNat) (hl : bs.length ≤ 900000) : Gv (F_BitWriter_put w v c) (fun w' => WR w' (bs ++ bitsL v c)) := by
  have hlen := h.len
  have hb := h.g.bits
  refine .of_eq (put_eq h.g hc hv (by omega)) ?_
  obtain ⟨n, rfl⟩ := Int.eq_ofNat_of_zero_le hc.1
  exact wr_add h (by omega) (bitsL_01 _ _) (by rw [bitsL_len]; omega) (nb_bitsL n hv)
theorem wr_ue_gv {w : BwS} {bs : List Int} {v : Int} (h : WR w bs) (hv : 0 ≤ v ∧ v ≤ 4294967296) (hl : bs.length ≤ 900000) : Gv (F_BitWriter_put_ue w v) (fun w' => WR w' (bs ++ ueL v)) := by
  have hlen := h.len
  have hb := h.g.bits
  exact .of_eq (put_ue_eq h.g hv (by omega)) (wr_ue h hv.1)
theorem wr_octets_eq {w : BwS} {bs : List Int} (h : WR w bs) (hl : bs.length ≤ 900000) : F_BitWriter_octets w = .ok (packL bs) := by
  have hlen := h.len
  have hb := h.g.bits
  rw [octets_eq h.g (by omega), wr_octets h]
theorem last_eq {o : Int} (h : 0 < o ∧ o ≤ 255) : F__last_bit o = .ok (lastBit o) := by
  unfold F__last_bit
  refine Gv.get (Gv.bind (Gv.whileR (P := fun b : Int => (1 ≤ b ∧ b ≤ 8) ∧ o % 2 ^ (b - 1).toNat = 0) (R := fun b => lastBit o = b) (fun b => (9 - b).toNat) (fun b p => ?_) ⟨by decide, by show o % 1 = 0; omega⟩ (by decide)) fun l hl => ?_)
  · unfold F__last_bit_b1
    refine Gv.grd (by omega) (Gv.ite (fun hc => Gv.bnd fun b2 hb2 => .ok (Or.inl ⟨_, rfl, ?_, ?_⟩)) fun hc => .ok (Or.inr ⟨_, rfl, lb_end h p.1.1 p.1.2 p.2 hc⟩))
    · subst hb2
      have t := lb_turn h p.1.1 p.1.2 p.2 hc
      exact ⟨⟨t.1, t.2.1⟩, t.2.2⟩
    · omega
  · obtain ⟨s, rfl, hs⟩ := hl
    exact .ok hs.symm
theorem init_eq {o : List Int} (h : o ≠ []) (hz : ¬ itD o (-1) = 0) (ho : ∀ x ∈ o, 0 ≤ x ∧ x ≤ 255) : F_BitReader___init__ o = .ok (brInit o) := by
  have hin := last_in h
  unfold F_BitReader___init__
  rw [if_neg h, grd_pos hin, if_neg hz, grd_pos hin, last_eq (last_oct h hz ho)]
  rfl
theorem look_ok {s : BrS} {p c : Int} (h : BrG s) (hp : 0 ≤ p) (hc : 0 ≤ c ∧ c ≤ 65) (hs : p + c ≤ s.stop) : F_BitReader__look s p c = .ok (lookB s.octs p c) := by
  unfold F_BitReader__look
  have hi1 := big_in (x := 1) (by omega) (by omega)
  refine Gv.get (Gv.bnd fun e he => ?_)
  subst he
  refine Gv.neg (by omega) (Gv.bind (Gv.forS (P := fun i v => v = num ((sliceB s.octs p c).take i)) rfl fun i x v hx pv => ?_) fun v hv => ?_)
  · have sm := slice_small h hp hc hs i
    have hb : -(2 ^ 4096) < v ∧ v < 2 ^ 4096 := by
      rw [pv]
      refine ⟨?_, sm.2⟩
      have k : (0 : Int) < 2 ^ 4096 := pow_pos2 4096
      have := sm.1
      generalize (2 : Int) ^ 4096 = b at *
      omega
    have ox := slice_oct h.oct hx
    have e : PySem.Builtin.bitOr (v * 2 ^ Int.toNat 8) x = v * 256 + x := or_lowN (n := 8) (by rw [pv]; exact sm.1) ox.1 (by omega)
    unfold F_BitReader__look_b1
    refine Gv.grd ⟨by decide, by decide, hb.1, hb.2⟩ (Gv.bnd fun y hy => .ok ?_)
    rw [hy, e, pv]
    exact num_take (xs := sliceB s.octs p c) hx
  · unfold F_BitReader__look_r1
    refine Gv.grd (and7_nn _) (Gv.grd ⟨hc.1, by omega, hi1.1, hi1.2⟩ (.ok ?_))
    rw [hv, look_eq h hp hc hs]
    unfold sliceB
    rw [List.take_length]
theorem take_ok {s : BrS} {c : Int} (h : BrG s) (hc : 0 ≤ c ∧ c ≤ 65) (hs : s.place + c ≤ s.stop) : F_BitReader__take s c = .ok (lookB s.octs s.place c, brMove s c) := by
  unfold F_BitReader__take
  rw [look_ok h h.place hc hs]
  rfl
theorem get_ok {s : BrS} {c : Int} (h : BrG s) (hc : 0 ≤ c ∧ c ≤ 64) (hs : s.place + c ≤ s.stop) : F_BitReader_get s c = .ok (lookB s.octs s.place c, brMove s c) := by
  unfold F_BitReader_get
  rw [if_pos hc.1, if_pos hc.2, take_ok h ⟨hc.1, by omega⟩ hs]
  rfl
theorem zeros_ok {s : BrS} {z : Nat} (h : BrG s) (hz : Zeros s z) : F_BitReader__zeros s = .ok (z : Int) := by
  have hm := hz.most
  have hf := hz.fit
  have hp := h.place
  unfold F_BitReader__zeros
  refine Gv.get (Gv.bind (Gv.whileR (P := fun q : Int => 0 ≤ q ∧ q ≤ (z : Int)) (R := fun q => q = (z : Int)) (fun q => (33 - q).toNat) (fun q p => ?_) ⟨by omega, by omega⟩ (by decide)) fun l hl => ?_)
  · unfold F_BitReader__zeros_b1
    refine Gv.bind_eq (look_ok h (by omega) ⟨by decide, by decide⟩ (by omega)) (Gv.ite (fun hc => ?_) fun hc => .ok (Or.inr ⟨_, rfl, zeros_eq hz p.1 p.2 hc⟩))
    have ne := zeros_ne hz p.1 p.2 hc
    refine Gv.bnd fun q2 hq => ?_
    subst hq
    exact Gv.neg (by omega) (.ok (Or.inl ⟨_, rfl, ⟨by omega, by omega⟩, by omega⟩))
  · obtain ⟨s, rfl, hs⟩ := hl
    exact .ok hs
theorem rr_get_ok {s : BrS} {v c : Int} {Y : List Int} (hc : 0 ≤ c ∧ c ≤ 64) (hv : 0 ≤ v ∧ v < 2 ^ c.toNat) (h : RR s (bitsL v c ++ Y)) : ∃ s', F_BitReader_get s c = .ok (v, s') ∧ RR s' Y := by
  obtain ⟨n, rfl⟩ := Int.eq_ofNat_of_zero_le hc.1
  have hl := h.len
  have hn : (bitsL v (n : Int)).length = n := bitsL_len _ _
  rw [List.length_append, hn] at hl
  have m := rr_move h
  have r := rr_look (Z := []) (X := bitsL v (n : Int)) (Y := Y) (by rw [List.nil_append]; exact h)
  rw [hn] at m r
  rw [show s.place + (([] : List Int).length : Int) = s.place from Int.add_zero _, nb_bitsL n hv] at r
  refine ⟨_, ?_, m⟩
  rw [get_ok h.g hc (by omega), r]
theorem rr_ue_ok {s : BrS} {v : Int} {Y : List Int} (hv : 0 ≤ v ∧ v ≤ 4294967296) (h : RR s (ueL v ++ Y)) : ∃ s', F_BitReader_get_ue s = .ok (v, s') ∧ RR s' Y := by
  obtain ⟨z, hz, hs, e, hl⟩ := rr_zeros hv.1 hv.2 h
  have hm := hz.most
  have m := rr_move h
  rw [← hl] at m
  refine ⟨_, ?_, m⟩
  unfold F_BitReader_get_ue
  rw [zeros_ok h.g hz, bind_ok, take_ok h.g ⟨by omega, by omega⟩ hs, bind_ok]
  show Rx.ok (lookB s.octs s.place (2 * (z : Int) + 1) - 1, _) = _
  rw [e]
theorem rng_map {β : Type} (n : Nat) (g : Int → β) : (rng 0 n).map g = (List.range n).map fun (j : Nat) => g (0 + (j : Int)) := by
  unfold rng
  rw [List.map_map]
  rfl
theorem lbits_eq {v c : Int} (hc : 0 ≤ c ∧ c ≤ 1000) : F__law_bits v c = .ok (bitsL v c) := by
  unfold F__law_bits
  rw [grd_pos ⟨by omega, by omega⟩, mapA_pure0 (g := fun j => PySem.Builtin.bitAnd (v / 2 ^ Int.toNat (c - 1 - j)) 1) (fun j hj => ?_) (by rw [rng_len]; omega), bind_ok]
  · congr 1
    unfold bitsL
    exact rng_map _ _
  · have hj := rng_mem hj
    unfold F__law_bits_c1
    rw [grd_pos (by omega)]
    rfl
theorem lue_eq {v : Int} (hv : 0 ≤ v ∧ v ≤ 4294967296) : F__law_ue v = .ok (ueL v) := by
  have u := ue_in hv.1 hv.2
  have hl : (repL [(0 : Int)] (((PySem.Builtin.Int.intBits (v + 1) : Nat) : Int) - 1)).length ≤ 130 := by
    rw [len_rep1]
    omega
  have hb := bitsL_len (v + 1) ((PySem.Builtin.Int.intBits (v + 1) : Nat) : Int)
  unfold F__law_ue
  rw [bnd_eq, grd_pos ⟨by omega, by omega, by simp; omega⟩, lbits_eq ⟨by omega, by omega⟩, bind_ok, grd_pos (by rw [hb]; omega)]
  rfl
theorem lpacked_eq {bs : List Int} (h : B01 bs) (hl : bs.length ≤ 900000) : F__law_packed bs = .ok (packL bs) := by
  obtain ⟨m, h1, h2⟩ := padL_len bs
  have hB := padL_mem h
  have hr : (repL [(0 : Int)] ((8 - ((bs ++ [1]).length : Int) % 8) % 8)).length ≤ 8 := by
    rw [len_rep1]
    omega
  have ha : (bs ++ [(1 : Int)]).length = bs.length + 1 := by simp
  unfold F__law_packed
  rw [grd_pos (by simp; omega), grd_pos ⟨by omega, by omega, by simp; omega⟩, grd_pos (by omega)]
  show grd (-(2 ^ 62) ≤ ((padL bs).length : Int) / 8 ∧ ((padL bs).length : Int) / 8 < 2 ^ 62) ((mapA (rng 0 (Int.toNat (((padL bs).length : Int) / 8))) [] fun x => noEr (F__law_packed_c1 (padL bs) x)).bind fun v => .ok v) = _
  rw [grd_pos ⟨by omega, by omega⟩, mapA_pure0 (g := fun i => List.sum ((List.range 8).map fun (j : Nat) => itD (padL bs) (8 * i + (0 + (j : Int))) * 2 ^ Int.toNat (7 - (0 + (j : Int))))) (fun i hi => ?_) (by rw [rng_len]; omega), bind_ok]
  · congr 1
    unfold packL
    exact rng_map _ _
  · have hi := rng_mem hi
    unfold F__law_packed_c1
    rw [mapA_pure0 (g := fun j => itD (padL bs) (8 * i + j) * 2 ^ Int.toNat (7 - j)) (fun j hj => ?_) (by rw [rng_len]; decide), bind_ok]
    · show Rx.ok (List.sum ((rng 0 8).map _)) = _
      rw [rng_map]
    · have hj := rng_mem hj
      have hj : 0 ≤ j ∧ j < 8 := ⟨hj.1, by have := hj.2; simp at this; omega⟩
      have hin : -((padL bs).length : Int) ≤ 8 * i + j ∧ 8 * i + j < ((padL bs).length : Int) := by omega
      have b := hB _ (itD_mem hin)
      have bi := big_in (x := itD (padL bs) (8 * i + j)) (by omega) (by omega)
      unfold F__law_packed_c2
      rw [grd_pos hin, grd_pos ⟨by omega, by omega, bi.1, bi.2⟩]
      rfl
structure WL (w : BwS) (bs : List Int) (n : Nat) : Prop where
  r : WR w bs
  l : bs.length ≤ n
theorem WL.nil : WL ⟨[], 0, 0⟩ [] 0 := ⟨wr_nil, Nat.le_refl 0⟩
theorem WL.put {w : BwS} {bs : List Int} {n : Nat} {v c : Int} (h : WL w bs n) (hn : n ≤ 900000) (hc : 0 ≤ c ∧ c ≤ 64) (hv : 0 ≤ v ∧ v < 2 ^ c.toNat) : Gv (F_BitWriter_put w v c) (fun w' => WL w' (bs ++ bitsL v c) (n + 64)) := by
  have hl := h.l
  refine (wr_put_gv h.r hc hv (by omega)).imp fun w' h' => ⟨h', ?_⟩
  rw [List.length_append, bitsL_len]
  omega
theorem WL.ue {w : BwS} {bs : List Int} {n : Nat} {v : Int} (h : WL w bs n) (hn : n ≤ 900000) (hv : 0 ≤ v ∧ v ≤ 4294967296) : Gv (F_BitWriter_put_ue w v) (fun w' => WL w' (bs ++ ueL v) (n + 130)) := by
  have hl := h.l
  have hu := ue_len hv.1 hv.2
  refine (wr_ue_gv h.r hv (by omega)).imp fun w' h' => ⟨h', ?_⟩
  rw [List.length_append]
  omega
theorem WL.oct {w : BwS} {bs : List Int} {n : Nat} (h : WL w bs n) (hn : n ≤ 900000) : F_BitWriter_octets w = .ok (packL bs) := wr_octets_eq h.r (Nat.le_trans h.l hn)
theorem WL.ues {f : BwS → Int → Rx BwS} : ∀ {xs : List Int} {w : BwS} {bs : List Int} {n : Nat}, WL w bs n → (∀ v ∈ xs, ∀ w bs n, WL w bs n → n ≤ 900000 → Gv (f w v) (fun w' => WL w' (bs ++ ueL v) (n + 130))) → n + 130 * xs.length ≤ 900000 → Gv (forS xs w f) (fun w' => WL w' (bs ++ (xs.map ueL).flatten) (n + 130 * xs.length))
  | [], w, bs, n, h, _, _ => .ok (by simpa using h)
  | x :: r, w, bs, n, h, hf, hn => by
    have hn' : n + 130 * (r.length + 1) ≤ 900000 := hn
    show Gv ((f w x).bind fun s => forS r s f) _
    refine Gv.bind (hf x (by simp) w bs n h (by omega)) fun w1 h1 => ?_
    refine (WL.ues h1 (fun v hv => hf v (by simp [hv])) (by omega)).imp fun w2 h2 => ?_
    have e : n + 130 + 130 * r.length = n + 130 * (x :: r).length := by simp; omega
    rw [← e]
    simpa [List.append_assoc] using h2
theorem bits_one {a : Int} (h : 0 ≤ a ∧ a ≤ 1) : bitsL a 1 = [a] := by
  rcases (by omega : a = 0 ∨ a = 1) with rfl | rfl <;> rfl
theorem wr_of {bs : List Int} (h : B01 bs) : ∃ w, WR w bs := by
  have := wr_add (X := bs) (v := nb bs) (c := (bs.length : Int)) wr_nil (by omega) h rfl rfl
  exact ⟨_, this⟩
theorem init_pack {bs : List Int} (h : B01 bs) : ∃ s, F_BitReader___init__ (packL bs) = .ok s ∧ RR s bs := by
  obtain ⟨w, hw⟩ := wr_of h
  have e := wr_octets hw
  have l := wr_last hw
  have m := wr_mem hw
  refine ⟨_, init_eq ?_ ?_ ?_, ?_⟩
  · rw [← e]
    simp
  · rw [← e, itD_end]
    omega
  · rw [← e]
    exact m
  · rw [← e]
    exact rr_init hw
theorem rr_end {s : BrS} (h : RR s []) : s.stop - s.place = 0 := by
  have := h.len
  simp at this
  omega
end Pb
open Pb in
section
structure SOk (w h d c s r a b l : Int) : Prop where
  pw : 1 ≤ w ∧ w ≤ 256
  ph : 1 ≤ h ∧ h ≤ 256
  pd : 8 ≤ d ∧ d ≤ 12
  pc : 0 ≤ c ∧ c ≤ 2
  ps : 1 ≤ s ∧ s ≤ 4
  pr : 1 ≤ r ∧ r ≤ 32
  pl : 1 ≤ l ∧ l ≤ 4
  pa : 0 ≤ a ∧ a ≤ 1
  pb : 0 ≤ b ∧ b ≤ 1
def NOk (n : List Int) : Prop := ∃ w h d c s r a b l : Int, n = [w, h, d, c, s, r, a, b, l] ∧ SOk w h d c s r a b l
theorem nums_gv (cell : Int) : Gv (F__law_numbers cell) NOk := (numbers_gv cell).imp fun n ⟨w, h, d, c, s, r, a, b, l, e, h1, h2, h3, h4, h5, h6, h7, h8, h9⟩ => ⟨w, h, d, c, s, r, a, b, l, e, ⟨h1, h2, h3, h4, h5, h6, h7, h8, h9⟩⟩
variable {w h d c s r a b l : Int}
theorem SOk.set (k : SOk w h d c s r a b l) : F__law_settings [w, h, d, c, s, r, a, b, l] = .ok (setv w h d c s r a b l) := settings_ok k.pw k.ph k.pd k.pc k.ps k.pr k.pl
theorem sw_eq {a : Int} (h : 0 ≤ a ∧ a ≤ 1) : (if decide (a = 1) = true then (1 : Int) else 0) = a := by
  rcases (by omega : a = 0 ∨ a = 1) with rfl | rfl <;> rfl
theorem same_ok (ha : 0 ≤ a ∧ a ≤ 1) (hb : 0 ≤ b ∧ b ≤ 1) : F__law_same (setv w h d c s r a b l) [w, h, d, c, s, r, a, b, l] = .ok true := by
  unfold F__law_same
  refine (grd_pos (by show 6 + 1 ≤ 1000000; decide)).trans ((if_pos (show [w, h, d, c, s, r, l] = [w, h, d, c, s, r] ++ [l] from rfl)).trans ?_)
  rw [forR_unit (fun x _ => rfl)]
  show Rx.ok (decide ([if decide (a = 1) = true then (1 : Int) else 0, if decide (b = 1) = true then (1 : Int) else 0] = [a, b])) = _
  rw [sw_eq ha, sw_eq hb, decide_eq_true rfl]
def sbits (w h d c s r a b l : Int) : List Int := bitsL 1 8 ++ ueL (w - 1) ++ ueL (h - 1) ++ ueL (d - 8) ++ ueL c ++ ueL (s - 1) ++ ueL (r - 1) ++ [a, b] ++ ueL (l - 1)
theorem switch_gv {wr : BwS} {bs : List Int} {n : Nat} {v : Int} (h : WL wr bs n) (hn : n ≤ 900000) (hv : 0 ≤ v ∧ v ≤ 1) : Gv (F__put_switch wr (decide (v = 1))) (fun w' => WL w' (bs ++ [v]) (n + 64)) := by
  unfold F__put_switch
  rw [sw_eq hv]
  refine Gv.bind (h.put hn (by decide) ⟨hv.1, by show v < 2; omega⟩) fun w' h' => .ok ?_
  rwa [bits_one hv] at h'
theorem write_ok (k : SOk w h d c s r a b l) : F_write_settings (setv w h d c s r a b l) = .ok (packL (sbits w h d c s r a b l)) := by
  have h1 := k.pw
  have h2 := k.ph
  have h3 := k.pd
  have h4 := k.pc
  have h5 := k.ps
  have h6 := k.pr
  have h7 := k.pl
  unfold F_write_settings
  refine Gv.get (Gv.bind_eq (a := (⟨[], 0, 0⟩ : BwS)) rfl (Gv.bind (WL.nil.put (by decide) (by decide) (by decide)) fun w0 W0 => ?_))
  refine Gv.bind (WL.ues W0 (fun v hv wr bs n W hn => ?_) (by show 64 + 130 * 4 ≤ 900000; decide)) fun w1 W1 => ?_
  · have hv2 : 0 ≤ v ∧ v ≤ 4294967296 := by
      have e : v = w - 1 ∨ v = h - 1 ∨ v = d - 8 ∨ v = c := by simpa [setv] using hv
      omega
    unfold F_write_settings_b1
    exact Gv.bind (W.ue hn hv2) fun w' h' => .ok h'
  · unfold F_write_settings_r1
    have W1 : WL w1 _ 584 := W1
    refine Gv.bind (W1.ue (by decide) (by show 0 ≤ s - 1 ∧ s - 1 ≤ 4294967296; omega)) fun w2 W2 => ?_
    refine Gv.bind (W2.ue (by decide) (by show 0 ≤ r - 1 ∧ r - 1 ≤ 4294967296; omega)) fun w3 W3 => ?_
    refine Gv.bind (switch_gv W3 (by decide) k.pa) fun w4 W4 => ?_
    refine Gv.bind (switch_gv W4 (by decide) k.pb) fun w5 W5 => ?_
    refine Gv.bind (W5.ue (by decide) (by show 0 ≤ l - 1 ∧ l - 1 ≤ 4294967296; omega)) fun w6 W6 => ?_
    refine Gv.bind_eq (W6.oct (by decide)) (.ok ?_)
    unfold sbits
    congr 1
    show _ ++ (ueL (w - 1) ++ (ueL (h - 1) ++ (ueL (d - 8) ++ (ueL c ++ [])))) ++ _ ++ _ ++ _ ++ _ ++ _ = _
    simp [List.append_assoc]
    rfl
theorem ue01 {v : Int} (h : 0 ≤ v) : B01 (ueL v) := by
  obtain ⟨k, e, lo, hi, e2, hl, hn, hb⟩ := ue_form h
  exact hb
theorem two01 (ha : 0 ≤ a ∧ a ≤ 1) (hb : 0 ≤ b ∧ b ≤ 1) : B01 [a, b] := fun x hx => by
  rcases (by simpa using hx : x = a ∨ x = b) with rfl | rfl
  · exact ha
  · exact hb
theorem sbits01 (k : SOk w h d c s r a b l) : B01 (sbits w h d c s r a b l) := by
  have h1 := k.pw
  have h2 := k.ph
  have h3 := k.pd
  have h4 := k.pc
  have h5 := k.ps
  have h6 := k.pr
  have h7 := k.pl
  unfold sbits
  exact b01_app (b01_app (b01_app (b01_app (b01_app (b01_app (b01_app (b01_app (bitsL_01 _ _) (ue01 (by omega))) (ue01 (by omega))) (ue01 (by omega))) (ue01 (by omega))) (ue01 (by omega))) (ue01 (by omega))) (two01 k.pa k.pb)) (ue01 (by omega))
theorem payload_ok (k : SOk w h d c s r a b l) : F__law_settings_payload [w, h, d, c, s, r, a, b, l] = .ok (packL (sbits w h d c s r a b l)) := by
  have h1 := k.pw
  have h2 := k.ph
  have h3 := k.pd
  have h4 := k.pc
  have h5 := k.ps
  have h6 := k.pr
  have h7 := k.pl
  have l1 := ue_len (v := w - 1) (by omega) (by omega)
  have l2 := ue_len (v := h - 1) (by omega) (by omega)
  have l3 := ue_len (v := d - 8) (by omega) (by omega)
  have l4 := ue_len (v := c) (by omega) (by omega)
  have l5 := ue_len (v := s - 1) (by omega) (by omega)
  have l6 := ue_len (v := r - 1) (by omega) (by omega)
  have l7 := ue_len (v := l - 1) (by omega) (by omega)
  have l0 : (bitsL 1 8).length = 8 := bitsL_len _ _
  unfold F__law_settings_payload
  refine Gv.get (Gv.bind_eq (lbits_eq (by decide)) (Gv.grd (ixg (n := 9) rfl (by decide)) ?_))
  refine Gv.bind_eq (a := ueL (w - 1)) (lue_eq (v := w - 1) (by omega)) (Gv.grd (by omega) (Gv.grd (ixg (n := 9) rfl (by decide)) ?_))
  refine Gv.bind_eq (a := ueL (h - 1)) (lue_eq (v := h - 1) (by omega)) (Gv.grd (by simp only [List.length_append]; omega) (Gv.grd (ixg (n := 9) rfl (by decide)) ?_))
  refine Gv.bind_eq (a := ueL (d - 8)) (lue_eq (v := d - 8) (by omega)) (Gv.grd (by simp only [List.length_append]; omega) (Gv.grd (ixg (n := 9) rfl (by decide)) ?_))
  refine Gv.bind_eq (a := ueL c) (lue_eq (v := c) (by omega)) (Gv.grd (by simp only [List.length_append]; omega) (Gv.grd (ixg (n := 9) rfl (by decide)) ?_))
  refine Gv.bind_eq (a := ueL (s - 1)) (lue_eq (v := s - 1) (by omega)) (Gv.grd (by simp only [List.length_append]; omega) (Gv.grd (ixg (n := 9) rfl (by decide)) ?_))
  refine Gv.bind_eq (a := ueL (r - 1)) (lue_eq (v := r - 1) (by omega)) (Gv.grd (by simp only [List.length_append]; omega) (Gv.grd (ixg (n := 9) rfl (by decide)) (Gv.grd (ixg (n := 9) rfl (by decide)) (Gv.grd (by simp only [List.length_append, List.length_cons, List.length_nil]; omega) (Gv.grd (ixg (n := 9) rfl (by decide)) ?_)))))
  refine Gv.bind_eq (a := ueL (l - 1)) (lue_eq (v := l - 1) (by omega)) (Gv.grd (by simp only [List.length_append, List.length_cons, List.length_nil]; omega) ?_)
  refine Gv.bind_eq (a := packL (sbits w h d c s r a b l)) (lpacked_eq (sbits01 k) ?_) (.ok rfl)
  simp only [List.length_append, List.length_cons, List.length_nil]
  omega
theorem fmt_ok (k : SOk w h d c s r a b l) : F_Format___init__ w h d c = .ok ⟨w, h, d, c⟩ := by
  unfold F_Format___init__
  rw [if_pos k.pw.1, if_pos k.pw.2, if_pos k.ph.1, if_pos k.ph.2, if_pos k.pd.1, if_pos k.pd.2, if_pos k.pc.1, if_pos k.pc.2]
theorem set_ok {f : St_Format} {u v : Bool} (hs : 1 ≤ s ∧ s ≤ 4) (hr : 1 ≤ r ∧ r ≤ 32) (hl : 1 ≤ l ∧ l ≤ 4) : F_Settings___init__ f s r u v l = .ok ⟨f, s, r, u, v, l⟩ := by
  unfold F_Settings___init__
  rw [require_ok _ hs.1 hs.2, bind_ok, require_ok _ hr.1 hr.2, bind_ok, require_ok _ hl.1 hl.2, bind_ok]
theorem gsw_ok {rd : BrS} {v : Int} {Y : List Int} (hv : 0 ≤ v ∧ v ≤ 1) (h : RR rd ([v] ++ Y)) : ∃ s', F__get_switch rd = .ok (decide (v = 1), s') ∧ RR s' Y := by
  rw [← bits_one hv] at h
  obtain ⟨s', e, h'⟩ := rr_get_ok (c := 1) (by decide) ⟨hv.1, by show v < 2; omega⟩ h
  refine ⟨s', ?_, h'⟩
  unfold F__get_switch
  rw [e]
  rfl
theorem read_ok (k : SOk w h d c s r a b l) : F_read_settings (packL (sbits w h d c s r a b l)) = .ok (setv w h d c s r a b l) := by
  have h1 := k.pw
  have h2 := k.ph
  have h3 := k.pd
  have h4 := k.pc
  have h5 := k.ps
  have h6 := k.pr
  have h7 := k.pl
  obtain ⟨r0, e0, R0⟩ := init_pack (sbits01 k)
  have R0 : RR r0 (bitsL 1 8 ++ (ueL (w - 1) ++ (ueL (h - 1) ++ (ueL (d - 8) ++ (ueL c ++ (ueL (s - 1) ++ (ueL (r - 1) ++ ([a] ++ ([b] ++ (ueL (l - 1) ++ [])))))))))) := by
    unfold sbits at R0
    simpa [List.append_assoc] using R0
  obtain ⟨r1, e1, R1⟩ := rr_get_ok (by decide) (by decide) R0
  obtain ⟨r2, e2, R2⟩ := rr_ue_ok (by omega) R1
  obtain ⟨r3, e3, R3⟩ := rr_ue_ok (by omega) R2
  obtain ⟨r4, e4, R4⟩ := rr_ue_ok (by omega) R3
  obtain ⟨r5, e5, R5⟩ := rr_ue_ok (by omega) R4
  obtain ⟨r6, e6, R6⟩ := rr_ue_ok (by omega) R5
  obtain ⟨r7, e7, R7⟩ := rr_ue_ok (by omega) R6
  obtain ⟨r8, e8, R8⟩ := gsw_ok k.pa R7
  obtain ⟨r9, e9, R9⟩ := gsw_ok k.pb R8
  obtain ⟨r10, e10, R10⟩ := rr_ue_ok (by omega) R9
  have g : F__get_settings r0 = .ok (setv w h d c s r a b l, r10) := by
    unfold F__get_settings
    rw [e1, bind_ok]
    show (((noEr (.ok () : Rx Unit)).bind fun _ => .ok r1).bind fun s => F__get_settings_k1 s) = _
    rw [noEr_ok, bind_ok, bind_ok]
    unfold F__get_settings_k1
    rw [e2, noEr_ok, bind_ok, bnd_eq, show w - 1 + 1 = w by omega, e3, noEr_ok, bind_ok, bnd_eq, show h - 1 + 1 = h by omega, e4, noEr_ok, bind_ok, bnd_eq, show d - 8 + 8 = d by omega, e5, noEr_ok, bind_ok, fmt_ok k, noEr_ok, bind_ok, e6, noEr_ok, bind_ok, bnd_eq, show s - 1 + 1 = s by omega, e7, noEr_ok, bind_ok, bnd_eq, show r - 1 + 1 = r by omega, e8, noEr_ok, bind_ok, e9, noEr_ok, bind_ok, e10, noEr_ok, bind_ok, bnd_eq, show l - 1 + 1 = l by omega, set_ok k.ps k.pr k.pl]
    rfl
  unfold F_read_settings
  rw [e0, noEr_ok, bind_ok, g, noEr_ok, bind_ok]
  unfold F_BitReader_left
  rw [noEr_ok, bind_ok]
  show (((F__require (decide (r10.stop - r10.place = 0)) _).bind _).bind _) = _
  rw [rr_end R10]
  rfl
theorem fmt_eq (x y : St_Format) : F_Format___eq__ x y = .ok (decide (x = y)) := by
  obtain ⟨x1, x2, x3, x4⟩ := x
  obtain ⟨y1, y2, y3, y4⟩ := y
  unfold F_Format___eq__
  by_cases h1 : x1 = y1 <;> by_cases h2 : x2 = y2 <;> by_cases h3 : x3 = y3 <;> simp [h1, h2, h3]
theorem set_eq (x y : St_Settings) : F_Settings___eq__ x y = .ok (decide (x = y)) := by
  unfold F_Settings___eq__
  rw [fmt_eq, noEr_ok, bind_ok]
  obtain ⟨x1, x2, x3, x4, x5, x6⟩ := x
  obtain ⟨y1, y2, y3, y4, y5, y6⟩ := y
  by_cases h1 : x1 = y1 <;> by_cases h2 : x2 = y2 <;> by_cases h3 : x3 = y3 <;> by_cases h4 : x4 = y4 <;> by_cases h5 : x5 = y5 <;> simp [h1, h2, h3, h4, h5]
theorem setv_inj {w' h' d' c' s' r' a' b' l' : Int} (k : SOk w h d c s r a b l) (k' : SOk w' h' d' c' s' r' a' b' l') : (setv w h d c s r a b l = setv w' h' d' c' s' r' a' b' l') ↔ ([w, h, d, c, s, r, a, b, l] = [w', h', d', c', s', r', a', b', l']) := by
  have ha := k.pa
  have hb := k.pb
  have ha' := k'.pa
  have hb' := k'.pb
  have ea : decide (a = 1) = decide (a' = 1) ↔ a = a' := by
    rw [decide_eq_decide]
    omega
  have eb : decide (b = 1) = decide (b' = 1) ↔ b = b' := by
    rw [decide_eq_decide]
    omega
  simp only [setv, St_Settings.mk.injEq, St_Format.mk.injEq, List.cons.injEq, ea, eb, and_true, and_assoc]
theorem swap_ok {n m : List Int} {k : Int} (hn : NOk n) (hm : NOk m) (hk : 0 ≤ k ∧ k < 9) : NOk (cutL n none (some k) ++ [itD m k] ++ cutL n (some (k + 1)) none) := by
  obtain ⟨w, h, d, c, s, r, a, b, l, rfl, p⟩ := hn
  obtain ⟨w', h', d', c', s', r', a', b', l', rfl, q⟩ := hm
  rcases (by omega : k = 0 ∨ k = 1 ∨ k = 2 ∨ k = 3 ∨ k = 4 ∨ k = 5 ∨ k = 6 ∨ k = 7 ∨ k = 8) with rfl | rfl | rfl | rfl | rfl | rfl | rfl | rfl | rfl
  · exact ⟨w', h, d, c, s, r, a, b, l, rfl, { p with pw := q.pw }⟩
  · exact ⟨w, h', d, c, s, r, a, b, l, rfl, { p with ph := q.ph }⟩
  · exact ⟨w, h, d', c, s, r, a, b, l, rfl, { p with pd := q.pd }⟩
  · exact ⟨w, h, d, c', s, r, a, b, l, rfl, { p with pc := q.pc }⟩
  · exact ⟨w, h, d, c, s', r, a, b, l, rfl, { p with ps := q.ps }⟩
  · exact ⟨w, h, d, c, s, r', a, b, l, rfl, { p with pr := q.pr }⟩
  · exact ⟨w, h, d, c, s, r, a', b, l, rfl, { p with pa := q.pa }⟩
  · exact ⟨w, h, d, c, s, r, a, b', l, rfl, { p with pb := q.pb }⟩
  · exact ⟨w, h, d, c, s, r, a, b, l', rfl, { p with pl := q.pl }⟩
theorem cut_sum {n : List Int} {k : Int} (hk : 0 ≤ k) : (cutL n none (some k)).length ≤ n.length ∧ (cutL n (some (k + 1)) none).length ≤ n.length := by
  obtain ⟨j, rfl⟩ := Int.eq_ofNat_of_zero_le hk
  unfold cutL
  constructor <;> simp <;> omega
theorem law_true (xs : List Int) (h : xs.length ≤ 63) : F_law xs = .ok true := by
  refine Gv.get ?_
  unfold F_law
  refine Gv.bind (cell_gv _ _ (by decide)) fun v _ => Gv.bind (nums_gv v) fun n hn => ?_
  have hn0 := hn
  obtain ⟨w, h, d, c, s, r, a, b, l, e, p⟩ := hn
  have S := p.set
  have E := same_ok (w := w) (h := h) (d := d) (c := c) (s := s) (r := r) (l := l) p.pa p.pb
  have W := write_ok p
  have Y := payload_ok p
  have R := read_ok p
  rw [← e] at S E Y
  have hlen : n.length = 9 := by rw [e]; rfl
  have hl : (packL (sbits w h d c s r a b l)).length ≤ 900000 := by
    obtain ⟨m, g1, g2⟩ := padL_len (sbits w h d c s r a b l)
    have h1 := p.pw
    have h2 := p.ph
    have h3 := p.pd
    have h4 := p.pc
    have h5 := p.ps
    have h6 := p.pr
    have h7 := p.pl
    have l1 := ue_len (v := w - 1) (by omega) (by omega)
    have l2 := ue_len (v := h - 1) (by omega) (by omega)
    have l3 := ue_len (v := d - 8) (by omega) (by omega)
    have l4 := ue_len (v := c) (by omega) (by omega)
    have l5 := ue_len (v := s - 1) (by omega) (by omega)
    have l6 := ue_len (v := r - 1) (by omega) (by omega)
    have l7 := ue_len (v := l - 1) (by omega) (by omega)
    have l0 : (bitsL 1 8).length = 8 := bitsL_len _ _
    have l9 : (sbits w h d c s r a b l).length ≤ 1000 := by
      unfold sbits
      simp only [List.length_append, List.length_cons, List.length_nil]
      omega
    unfold packL
    rw [List.length_map, List.length_range]
    omega
  refine Gv.bind_eq S (Gv.bind_eq E (Gv.pos rfl (Gv.bind_eq W (Gv.bind_eq Y (Gv.pos rfl (Gv.bind_eq R (Gv.bind_eq E (Gv.pos rfl ?_))))))))
  refine Gv.bind_eq (a := true) (by rw [set_eq, noEr_ok, decide_eq_true rfl]) (Gv.neg (by decide) (Gv.pos rfl (Gv.grd (by omega) (Gv.bnd fun _ _ => ?_))))
  refine Gv.bind_eq W (Gv.pos rfl (Gv.bind_eq R (Gv.bind_eq E (Gv.pos rfl ?_))))
  refine Gv.bind (cell_gv _ _ (by decide)) fun v2 _ => Gv.bind (nums_gv v2) fun m hm => Gv.bind (cell_gv _ _ (by decide)) fun v3 _ => ?_
  refine Gv.bind (draws_gv v3 [9] (by decide) (by decide)) fun ks hks => ?_
  obtain ⟨k, r0, rfl, k0, k1, hks⟩ := hks.cons
  obtain rfl := hks.nil
  have hml : m.length = 9 := by
    obtain ⟨_, _, _, _, _, _, _, _, _, e, _⟩ := hm
    rw [e]
    rfl
  have hsw := swap_ok hn0 hm ⟨k0, k1⟩
  have hcs := cut_sum (n := n) k0
  rw [itD_lit (k := 0) (a := k) (xs := [k]) 0 rfl rfl]
  refine Gv.grd (ixg (n := 1) rfl (by decide)) (Gv.grd (ixg (n := 1) rfl (by decide)) (Gv.grd ⟨by omega, by omega⟩ (Gv.grd (by simp only [List.length_cons, List.length_nil]; omega) (Gv.grd (ixg (n := 1) rfl (by decide)) (Gv.grd (by simp only [List.length_append, List.length_cons, List.length_nil]; omega) ?_)))))
  generalize cutL n none (some k) ++ [itD m k] ++ cutL n (some (k + 1)) none = n2 at *
  obtain ⟨w2, h2, d2, c2, s2, r2, a2, b2, l2, e2, p2⟩ := hsw
  have S2 := p2.set
  have W2 := write_ok p2
  have Y2 := payload_ok p2
  rw [← e2] at S2 Y2
  refine Gv.bind_eq S2 (Gv.bind_eq (by rw [set_eq, noEr_ok]) (Gv.pos ?_ (Gv.bind_eq W2 (Gv.bind_eq Y2 (Gv.pos rfl ?_)))))
  · rw [e, e2, decide_eq_decide.mpr (setv_inj p2 p)]
  · have F := fmt_ok p
    have E3 := same_ok (w := w) (h := h) (d := d) (c := c) (s := 1) (r := 1) (a := 0) (b := 0) (l := 1) (by decide) (by decide)
    subst e
    refine Gv.grd (ixg (n := 9) rfl (by decide)) (Gv.grd (ixg (n := 9) rfl (by decide)) (Gv.grd (ixg (n := 9) rfl (by decide)) (Gv.grd (ixg (n := 9) rfl (by decide)) (Gv.bind_eq F (Gv.bind_eq (set_ok (by decide) (by decide) (by decide)) (Gv.grd (by show 4 + 5 ≤ 1000000; decide) ?_))))))
    exact Gv.bind_eq E3 (.ok rfl)
end

end Vx
namespace Vx
open PySem PySem.Spec PyProof.Rows L2
def topS (i : Nat) : Stmt := PySem.Challenge.pw_thaumatrope_k20_settings_written_and_rea.main.body.getD i (.Pass ⟨0, 0, 0, 0⟩)
abbrev s__law_draws : Stmt := topS 28
abbrev s__law_between : Stmt := topS 29
abbrev s__law_numbers : Stmt := topS 34
abbrev s_Format___init__ : Stmt := inClass (topS 16) 0
abbrev s__require : Stmt := topS 22
abbrev s_Settings___init__ : Stmt := inClass (topS 19) 0
abbrev s__law_settings : Stmt := topS 35
abbrev s_BitWriter___init__ : Stmt := inClass (topS 11) 0
abbrev s_BitWriter__add : Stmt := inClass (topS 11) 6
abbrev s_BitWriter_put : Stmt := inClass (topS 11) 2
abbrev s__put_switch : Stmt := topS 23
abbrev s_BitWriter_put_ue : Stmt := inClass (topS 11) 3
abbrev s_BitWriter_octets : Stmt := inClass (topS 11) 5
abbrev s_write_settings : Stmt := topS 20
abbrev s__last_bit : Stmt := topS 13
abbrev s_BitReader___init__ : Stmt := inClass (topS 12) 0
abbrev s_BitReader__look : Stmt := inClass (topS 12) 7
abbrev s_BitReader__take : Stmt := inClass (topS 12) 6
abbrev s_BitReader_get : Stmt := inClass (topS 12) 2
abbrev s__get_switch : Stmt := topS 24
abbrev s_BitReader__zeros : Stmt := inClass (topS 12) 5
abbrev s_BitReader_get_ue : Stmt := inClass (topS 12) 3
abbrev s__get_settings : Stmt := topS 25
abbrev s_BitReader_left : Stmt := inClass (topS 12) 1
abbrev s_read_settings : Stmt := topS 21
abbrev s__law_same : Stmt := topS 37
abbrev s__law_cell : Stmt := topS 27
abbrev s__law_packed : Stmt := topS 33
abbrev s__law_bits : Stmt := topS 30
abbrev s__law_ue : Stmt := topS 31
abbrev s__law_settings_payload : Stmt := topS 36
abbrev s_Format___eq__ : Stmt := inClass (topS 16) 1
abbrev s_Settings___eq__ : Stmt := inClass (topS 19) 1
abbrev s_law : Stmt := topS 38
structure Ads where
  c_BitWriter : Addr
  c_BitReader : Addr
  c_Format : Addr
  c_Settings : Addr
  x_CodecError : Addr
  x_BadFormat : Addr
  x_OutOfRange : Addr
  x_OutOfBits : Addr
  x_BadOctets : Addr
  x_BadHeader : Addr
  z0 : Addr
def excA (AD : Ads) : Nat → Addr
  | 0 => AD.x_CodecError
  | 1 => AD.x_BadFormat
  | 2 => AD.x_OutOfRange
  | 3 => AD.x_OutOfBits
  | 4 => AD.x_BadOctets
  | 5 => AD.x_BadHeader
  | _ => AD.z0
structure Txt (w : World) (K : PySem.W.Frag) (mg : Str → Option Value) (AD : Ads) : Prop where
  b_abs : mg "abs" = none
  b_int : mg "int" = none
  b_min : mg "min" = none
  g_MOST_BITS : ∃ u, mg "MOST_BITS" = some u ∧ RelV (V.int 64) u
  g_VERSION : ∃ u, mg "VERSION" = some u ∧ RelV (V.int 1) u
  b_list : mg "list" = none
  b_len : mg "len" = none
  g_MOST_ZEROS : ∃ u, mg "MOST_ZEROS" = some u ∧ RelV (V.int 32) u
  b_isinstance : mg "isinstance" = none
  b_bool : mg "bool" = none
  b_range : mg "range" = none
  b_sum : mg "sum" = none
  cl_Format : Cls K AD.c_Format
  cg_Format : mg "Format" = some (.ref AD.c_Format)
  ci_Format : IsiC K AD.c_Format
  n_Format_width : NoAttr K AD.c_Format "width"
  n_Format_height : NoAttr K AD.c_Format "height"
  n_Format_depth : NoAttr K AD.c_Format "depth"
  n_Format_chroma : NoAttr K AD.c_Format "chroma"
  cl_Settings : Cls K AD.c_Settings
  cg_Settings : mg "Settings" = some (.ref AD.c_Settings)
  ci_Settings : IsiC K AD.c_Settings
  n_Settings_fmt : NoAttr K AD.c_Settings "fmt"
  n_Settings_slots : NoAttr K AD.c_Settings "slots"
  n_Settings_rows : NoAttr K AD.c_Settings "rows"
  n_Settings_deblock : NoAttr K AD.c_Settings "deblock"
  n_Settings_offset : NoAttr K AD.c_Settings "offset"
  n_Settings_layers : NoAttr K AD.c_Settings "layers"
  cl_BitWriter : Cls K AD.c_BitWriter
  n_BitWriter__full : NoAttr K AD.c_BitWriter "_full"
  n_BitWriter__rest : NoAttr K AD.c_BitWriter "_rest"
  n_BitWriter__rest_bits : NoAttr K AD.c_BitWriter "_rest_bits"
  cl_BitReader : Cls K AD.c_BitReader
  n_BitReader__octets : NoAttr K AD.c_BitReader "_octets"
  n_BitReader__place : NoAttr K AD.c_BitReader "_place"
  n_BitReader__end : NoAttr K AD.c_BitReader "_end"
  xg_BadFormat : mg "BadFormat" = some (.ref AD.x_BadFormat)
  xx_BadFormat : PySem.W.excIn K AD.x_BadFormat [.type "ValueError", .type "Exception", .type "BaseException", .type "object"] "ValueError.__new__" = true
  xk_BadFormat : PySem.W.keepIn K (.ref AD.x_BadFormat) = true
  xb_BadFormat : PySem.W.subIn K (.ref AD.x_BadFormat) (.type "BaseException") = some true
  xt_BadFormat : PySem.W.typeIn K (.ref AD.x_BadFormat) = some (.type "type")
  xg_BadHeader : mg "BadHeader" = some (.ref AD.x_BadHeader)
  xx_BadHeader : PySem.W.excIn K AD.x_BadHeader [.type "ValueError", .type "Exception", .type "BaseException", .type "object"] "ValueError.__new__" = true
  xk_BadHeader : PySem.W.keepIn K (.ref AD.x_BadHeader) = true
  xb_BadHeader : PySem.W.subIn K (.ref AD.x_BadHeader) (.type "BaseException") = some true
  xt_BadHeader : PySem.W.typeIn K (.ref AD.x_BadHeader) = some (.type "type")
  xg_OutOfRange : mg "OutOfRange" = some (.ref AD.x_OutOfRange)
  xx_OutOfRange : PySem.W.excIn K AD.x_OutOfRange [.type "ValueError", .type "Exception", .type "BaseException", .type "object"] "ValueError.__new__" = true
  xk_OutOfRange : PySem.W.keepIn K (.ref AD.x_OutOfRange) = true
  xb_OutOfRange : PySem.W.subIn K (.ref AD.x_OutOfRange) (.type "BaseException") = some true
  xt_OutOfRange : PySem.W.typeIn K (.ref AD.x_OutOfRange) = some (.type "type")
  xg_BadOctets : mg "BadOctets" = some (.ref AD.x_BadOctets)
  xx_BadOctets : PySem.W.excIn K AD.x_BadOctets [.type "ValueError", .type "Exception", .type "BaseException", .type "object"] "ValueError.__new__" = true
  xk_BadOctets : PySem.W.keepIn K (.ref AD.x_BadOctets) = true
  xb_BadOctets : PySem.W.subIn K (.ref AD.x_BadOctets) (.type "BaseException") = some true
  xt_BadOctets : PySem.W.typeIn K (.ref AD.x_BadOctets) = some (.type "type")
  xg_OutOfBits : mg "OutOfBits" = some (.ref AD.x_OutOfBits)
  xx_OutOfBits : PySem.W.excIn K AD.x_OutOfBits [.type "ValueError", .type "Exception", .type "BaseException", .type "object"] "ValueError.__new__" = true
  xk_OutOfBits : PySem.W.keepIn K (.ref AD.x_OutOfBits) = true
  xb_OutOfBits : PySem.W.subIn K (.ref AD.x_OutOfBits) (.type "BaseException") = some true
  xt_OutOfBits : PySem.W.typeIn K (.ref AD.x_OutOfBits) = some (.type "type")
abbrev pat__law_draws_0 : Pat := (2, [], fun vs _ => vs)
abbrev pats__law_draws : List Pat := [pat__law_draws_0]
abbrev pat__law_between_0 : Pat := (4, [], fun vs _ => vs)
abbrev pats__law_between : List Pat := [pat__law_between_0]
abbrev pat__law_numbers_0 : Pat := (1, [], fun vs _ => vs)
abbrev pats__law_numbers : List Pat := [pat__law_numbers_0]
abbrev pat_Format___init___0 : Pat := (3, ["depth", "chroma"], fun vs zs => match vs, zs with | [a0, a1, a2], [b0, b1] => [a0, a1, a2, b0, b1] | _, _ => [])
abbrev pats_Format___init__ : List Pat := [pat_Format___init___0]
abbrev pat__require_0 : Pat := (2, [], fun vs _ => vs)
abbrev pats__require : List Pat := [pat__require_0]
abbrev pat_Settings___init___0 : Pat := (2, ["slots", "rows", "deblock", "offset", "layers"], fun vs zs => match vs, zs with | [a0, a1], [b0, b1, b2, b3, b4] => [a0, a1, b0, b1, b2, b3, b4] | _, _ => [])
def gk_Settings___init___1 {α : Type} (us mz ws : List α) : List α := match us, mz, ws with | [a0, a1], [m0, m1, m2, m3, m4], [] => [a0, a1, m0, m1, m2, m3, m4] | _, _, _ => []
theorem gknil_Settings___init___1 {α : Type} {us mz ws : List α} (h : us.length ≠ 2 ∨ mz.length ≠ 5 ∨ ws.length ≠ 0) : gk_Settings___init___1 us mz ws = [] := by
  unfold gk_Settings___init___1
  split
  · simp at h
  · rfl
theorem gkrel_Settings___init___1 {vs mz zs : List V} {us mv ws : List Value} (r : Vals vs us) (s : Vals mz mv) (q : Vals zs ws) : Vals (gk_Settings___init___1 vs mz zs) (gk_Settings___init___1 us mv ws) := by
  by_cases h1 : vs.length = 2
  · by_cases h2 : mz.length = 5
    · by_cases h3 : zs.length = 0
      · obtain ⟨a0, a1, rfl⟩ := len2 h1
        obtain ⟨m0, m1, m2, m3, m4, rfl⟩ := len5 h2
        obtain rfl := len0 h3
        cases r with | cons r0 r =>
          cases r with | cons r1 r =>
            cases r
            cases s with | cons s0 s =>
              cases s with | cons s1 s =>
                cases s with | cons s2 s =>
                  cases s with | cons s3 s =>
                    cases s with | cons s4 s =>
                      cases s
                      cases q
                      exact (.cons r0 (.cons r1 (.cons s0 (.cons s1 (.cons s2 (.cons s3 (.cons s4 .nil)))))))
      · have k : ws.length ≠ 0 := fun z => h3 (q.length.trans z)
        rw [gknil_Settings___init___1 (by first | exact .inl h3 | exact .inr (.inl h3) | exact .inr (.inr h3)), gknil_Settings___init___1 (by first | exact .inl k | exact .inr (.inl k) | exact .inr (.inr k))]
        exact .nil
    · have k : mv.length ≠ 5 := fun z => h2 (s.length.trans z)
      rw [gknil_Settings___init___1 (by first | exact .inl h2 | exact .inr (.inl h2) | exact .inr (.inr h2)), gknil_Settings___init___1 (by first | exact .inl k | exact .inr (.inl k) | exact .inr (.inr k))]
      exact .nil
  · have k : us.length ≠ 2 := fun z => h1 (r.length.trans z)
    rw [gknil_Settings___init___1 (by first | exact .inl h1 | exact .inr (.inl h1) | exact .inr (.inr h1)), gknil_Settings___init___1 (by first | exact .inl k | exact .inr (.inl k) | exact .inr (.inr k))]
    exact .nil
abbrev pat_Settings___init___1 : Pat := (2, [], fun vs zs => gk_Settings___init___1 vs [V.int 1, V.int 1, V.bl false, V.bl false, V.int 1] zs)
abbrev pats_Settings___init__ : List Pat := [pat_Settings___init___0, pat_Settings___init___1]
abbrev pat__law_settings_0 : Pat := (1, [], fun vs _ => vs)
abbrev pats__law_settings : List Pat := [pat__law_settings_0]
abbrev pat_BitWriter___init___0 : Pat := (1, [], fun vs _ => vs)
abbrev pats_BitWriter___init__ : List Pat := [pat_BitWriter___init___0]
abbrev pat_BitWriter__add_0 : Pat := (3, [], fun vs _ => vs)
abbrev pats_BitWriter__add : List Pat := [pat_BitWriter__add_0]
abbrev pat_BitWriter_put_0 : Pat := (3, [], fun vs _ => vs)
abbrev pats_BitWriter_put : List Pat := [pat_BitWriter_put_0]
abbrev pat__put_switch_0 : Pat := (2, [], fun vs _ => vs)
abbrev pats__put_switch : List Pat := [pat__put_switch_0]
abbrev pat_BitWriter_put_ue_0 : Pat := (2, [], fun vs _ => vs)
abbrev pats_BitWriter_put_ue : List Pat := [pat_BitWriter_put_ue_0]
abbrev pat_BitWriter_octets_0 : Pat := (1, [], fun vs _ => vs)
abbrev pats_BitWriter_octets : List Pat := [pat_BitWriter_octets_0]
abbrev pat_write_settings_0 : Pat := (1, [], fun vs _ => vs)
abbrev pats_write_settings : List Pat := [pat_write_settings_0]
abbrev pat__last_bit_0 : Pat := (1, [], fun vs _ => vs)
abbrev pats__last_bit : List Pat := [pat__last_bit_0]
abbrev pat_BitReader___init___0 : Pat := (2, [], fun vs _ => vs)
abbrev pats_BitReader___init__ : List Pat := [pat_BitReader___init___0]
abbrev pat_BitReader__look_0 : Pat := (3, [], fun vs _ => vs)
abbrev pats_BitReader__look : List Pat := [pat_BitReader__look_0]
abbrev pat_BitReader__take_0 : Pat := (2, [], fun vs _ => vs)
abbrev pats_BitReader__take : List Pat := [pat_BitReader__take_0]
abbrev pat_BitReader_get_0 : Pat := (2, [], fun vs _ => vs)
abbrev pats_BitReader_get : List Pat := [pat_BitReader_get_0]
abbrev pat__get_switch_0 : Pat := (1, [], fun vs _ => vs)
abbrev pats__get_switch : List Pat := [pat__get_switch_0]
abbrev pat_BitReader__zeros_0 : Pat := (1, [], fun vs _ => vs)
abbrev pats_BitReader__zeros : List Pat := [pat_BitReader__zeros_0]
abbrev pat_BitReader_get_ue_0 : Pat := (1, [], fun vs _ => vs)
abbrev pats_BitReader_get_ue : List Pat := [pat_BitReader_get_ue_0]
abbrev pat__get_settings_0 : Pat := (1, [], fun vs _ => vs)
abbrev pats__get_settings : List Pat := [pat__get_settings_0]
abbrev pats_BitReader_left : List Pat := []
abbrev pat_read_settings_0 : Pat := (1, [], fun vs _ => vs)
abbrev pats_read_settings : List Pat := [pat_read_settings_0]
abbrev pat__law_same_0 : Pat := (2, [], fun vs _ => vs)
abbrev pats__law_same : List Pat := [pat__law_same_0]
abbrev pat__law_cell_0 : Pat := (2, [], fun vs _ => vs)
abbrev pats__law_cell : List Pat := [pat__law_cell_0]
abbrev pat__law_packed_0 : Pat := (1, [], fun vs _ => vs)
abbrev pats__law_packed : List Pat := [pat__law_packed_0]
abbrev pat__law_bits_0 : Pat := (2, [], fun vs _ => vs)
abbrev pats__law_bits : List Pat := [pat__law_bits_0]
abbrev pat__law_ue_0 : Pat := (1, [], fun vs _ => vs)
abbrev pats__law_ue : List Pat := [pat__law_ue_0]
abbrev pat__law_settings_payload_0 : Pat := (1, [], fun vs _ => vs)
abbrev pats__law_settings_payload : List Pat := [pat__law_settings_payload_0]
abbrev pat_Format___eq___0 : Pat := (2, [], fun vs _ => vs)
abbrev pats_Format___eq__ : List Pat := [pat_Format___eq___0]
abbrev pat_Settings___eq___0 : Pat := (2, [], fun vs _ => vs)
abbrev pats_Settings___eq__ : List Pat := [pat_Settings___eq___0]
abbrev pats_law : List Pat := []
def sp__law_draws (K : PySem.W.Frag) (AD : Ads) : Sp := fun vs H Q E => ∃ (G : Hp) (cell' : Int) (a_limits : Addr) (limits' : List Int), vs = [.int cell', .ref a_limits] ∧ Same G H ∧ (hideL [] H) a_limits = some (.lst ((limits' : List Int).map V.int)) ∧ cW (F__law_draws cell' limits') (fun v => ∀ p H', H p = none → Same H H' → H' p = some (.lst (v.map V.int)) → Q (.ref p) H') (fun e => ∀ H', Same H H' → E (.ref (excA AD e)) none H')
def sp__law_between (K : PySem.W.Frag) (AD : Ads) : Sp := fun vs H Q E => ∃ (G : Hp) (first' : Int) (second' : Int) (low' : Int) (high' : Int), vs = [.int first', .int second', .int low', .int high'] ∧ Same G H ∧ cW (F__law_between first' second' low' high') (fun v => Q (.int v) H) (fun e => E (.ref (excA AD e)) none H)
def sp__law_numbers (K : PySem.W.Frag) (AD : Ads) : Sp := fun vs H Q E => ∃ (G : Hp) (cell' : Int), vs = [.int cell'] ∧ Same G H ∧ cW (F__law_numbers cell') (fun v => ∀ p H', H p = none → Same H H' → H' p = some (.lst (v.map V.int)) → Q (.ref p) H') (fun e => ∀ H', Same H H' → E (.ref (excA AD e)) none H')
def sp_Format___init__ (K : PySem.W.Frag) (AD : Ads) : Sp := fun vs H Q E => ∃ (G : Hp) (p_self dx_self : Addr) (width' : Int) (height' : Int) (depth' : Int) (chroma' : Int), vs = [.ref p_self, .int width', .int height', .int depth', .int chroma'] ∧ Same G H ∧ (∀ a ∈ [p_self], G a = none) ∧ H p_self = some (.ins AD.c_Format dx_self []) ∧ cW (F_Format___init__ width' height' depth' chroma') (fun v => ∀ (H' : Hp), SameX p_self H H' → H' p_self = some (.ins AD.c_Format dx_self [("width", V.int v.width), ("height", V.int v.height), ("depth", V.int v.depth), ("chroma", V.int v.chroma)]) → Q .non H') (fun e => ∀ H', SameX p_self H H' → E (.ref (excA AD e)) none H')
def sp__require (K : PySem.W.Frag) (AD : Ads) : Sp := fun vs H Q E => ∃ (G : Hp) (holds' : Bool) (text' : Str), vs = [.bl holds', .str text'] ∧ Same G H ∧ cW (F__require holds' text') (fun v => Q .non H) (fun e => E (.ref (excA AD e)) none H)
def sp_Settings___init__ (K : PySem.W.Frag) (AD : Ads) : Sp := fun vs H Q E => ∃ (G : Hp) (p_self dx_self : Addr) (p_fmt dx_fmt : Addr) (fmt' : St_Format) (slots' : Int) (rows' : Int) (deblock' : Bool) (offset' : Bool) (layers' : Int), vs = [.ref p_self, .ref p_fmt, .int slots', .int rows', .bl deblock', .bl offset', .int layers'] ∧ Same G H ∧ (∀ a ∈ [p_self], G a = none) ∧ H p_self = some (.ins AD.c_Settings dx_self []) ∧ (hideL [p_self] H) p_fmt = some (.ins AD.c_Format dx_fmt [("width", V.int fmt'.width), ("height", V.int fmt'.height), ("depth", V.int fmt'.depth), ("chroma", V.int fmt'.chroma)]) ∧ cW (F_Settings___init__ fmt' slots' rows' deblock' offset' layers') (fun v => ∀ (H' : Hp), SameX p_self H H' → H' p_self = some (.ins AD.c_Settings dx_self [("fmt", V.ref p_fmt), ("slots", V.int v.slots), ("rows", V.int v.rows), ("deblock", V.bl v.deblock), ("offset", V.bl v.offset), ("layers", V.int v.layers)]) → Q .non H') (fun e => ∀ H', SameX p_self H H' → E (.ref (excA AD e)) none H')
def sp__law_settings (K : PySem.W.Frag) (AD : Ads) : Sp := fun vs H Q E => ∃ (G : Hp) (a_n : Addr) (n' : List Int), vs = [.ref a_n] ∧ Same G H ∧ (hideL [] H) a_n = some (.lst ((n' : List Int).map V.int)) ∧ cW (F__law_settings n') (fun v => ∀ (H' : Hp) (p_ret p_ret_fmt dx_ret dx_ret_fmt : Addr), Same H H' → H p_ret = none → H p_ret_fmt = none → p_ret ≠ p_ret_fmt → H' p_ret = some (.ins AD.c_Settings dx_ret [("fmt", V.ref p_ret_fmt), ("slots", V.int v.slots), ("rows", V.int v.rows), ("deblock", V.bl v.deblock), ("offset", V.bl v.offset), ("layers", V.int v.layers)]) → H' p_ret_fmt = some (.ins AD.c_Format dx_ret_fmt [("width", V.int v.fmt.width), ("height", V.int v.fmt.height), ("depth", V.int v.fmt.depth), ("chroma", V.int v.fmt.chroma)]) → Q (.ref p_ret) H') (fun e => ∀ H', Same H H' → E (.ref (excA AD e)) none H')
def sp_BitWriter___init__ (K : PySem.W.Frag) (AD : Ads) : Sp := fun vs H Q E => ∃ (G : Hp) (p_self dx_self : Addr), vs = [.ref p_self] ∧ Same G H ∧ (∀ a ∈ [p_self], G a = none) ∧ H p_self = some (.ins AD.c_BitWriter dx_self []) ∧ cW (F_BitWriter___init__ ) (fun v => ∀ (H' : Hp) (l_full : Addr), SameX p_self H H' → H l_full = none → H' p_self = some (.ins AD.c_BitWriter dx_self [("_full", V.ref l_full), ("_rest", V.int v.rest), ("_rest_bits", V.int v.bits)]) → H' l_full = some (.lst (v.full.map V.int)) → Q .non H') (fun e => ∀ H', SameX p_self H H' → E (.ref (excA AD e)) none H')
def sp_BitWriter__add (K : PySem.W.Frag) (AD : Ads) : Sp := fun vs H Q E => ∃ (G : Hp) (p_self l_self_full dx_self : Addr) (self' : St_BitWriter) (value' : Int) (count' : Int), vs = [.ref p_self, .int value', .int count'] ∧ Same G H ∧ (∀ a ∈ [p_self, l_self_full], G a = none) ∧ H p_self = some (.ins AD.c_BitWriter dx_self [("_full", V.ref l_self_full), ("_rest", V.int self'.rest), ("_rest_bits", V.int self'.bits)]) ∧ H l_self_full = some (.lst ((self'.full : (List Int)).map V.int)) ∧ cW (F_BitWriter__add self' value' count') (fun v => ∀ (H' : Hp), SameXs [p_self, l_self_full] H H' → H' p_self = some (.ins AD.c_BitWriter dx_self [("_full", V.ref l_self_full), ("_rest", V.int v.rest), ("_rest_bits", V.int v.bits)]) → H' l_self_full = some (.lst ((v.full : (List Int)).map V.int)) → Q .non H') (fun e => ∀ H', Same H H' → E (.ref (excA AD e)) none H')
def sp_BitWriter_put (K : PySem.W.Frag) (AD : Ads) : Sp := fun vs H Q E => ∃ (G : Hp) (p_self l_self_full dx_self : Addr) (self' : St_BitWriter) (value' : Int) (count' : Int), vs = [.ref p_self, .int value', .int count'] ∧ Same G H ∧ (∀ a ∈ [p_self, l_self_full], G a = none) ∧ H p_self = some (.ins AD.c_BitWriter dx_self [("_full", V.ref l_self_full), ("_rest", V.int self'.rest), ("_rest_bits", V.int self'.bits)]) ∧ H l_self_full = some (.lst ((self'.full : (List Int)).map V.int)) ∧ cW (F_BitWriter_put self' value' count') (fun v => ∀ (H' : Hp), SameXs [p_self, l_self_full] H H' → H' p_self = some (.ins AD.c_BitWriter dx_self [("_full", V.ref l_self_full), ("_rest", V.int v.rest), ("_rest_bits", V.int v.bits)]) → H' l_self_full = some (.lst ((v.full : (List Int)).map V.int)) → Q .non H') (fun e => ∀ H', Same H H' → E (.ref (excA AD e)) none H')
def sp__put_switch (K : PySem.W.Frag) (AD : Ads) : Sp := fun vs H Q E => ∃ (G : Hp) (p_writer l_writer_full dx_writer : Addr) (writer' : St_BitWriter) (switch' : Bool), vs = [.ref p_writer, .bl switch'] ∧ Same G H ∧ (∀ a ∈ [p_writer, l_writer_full], G a = none) ∧ H p_writer = some (.ins AD.c_BitWriter dx_writer [("_full", V.ref l_writer_full), ("_rest", V.int writer'.rest), ("_rest_bits", V.int writer'.bits)]) ∧ H l_writer_full = some (.lst ((writer'.full : (List Int)).map V.int)) ∧ cW (F__put_switch writer' switch') (fun v => ∀ (H' : Hp), SameXs [p_writer, l_writer_full] H H' → H' p_writer = some (.ins AD.c_BitWriter dx_writer [("_full", V.ref l_writer_full), ("_rest", V.int v.rest), ("_rest_bits", V.int v.bits)]) → H' l_writer_full = some (.lst ((v.full : (List Int)).map V.int)) → Q .non H') (fun e => ∀ H', Same H H' → E (.ref (excA AD e)) none H')
def sp_BitWriter_put_ue (K : PySem.W.Frag) (AD : Ads) : Sp := fun vs H Q E => ∃ (G : Hp) (p_self l_self_full dx_self : Addr) (self' : St_BitWriter) (value' : Int), vs = [.ref p_self, .int value'] ∧ Same G H ∧ (∀ a ∈ [p_self, l_self_full], G a = none) ∧ H p_self = some (.ins AD.c_BitWriter dx_self [("_full", V.ref l_self_full), ("_rest", V.int self'.rest), ("_rest_bits", V.int self'.bits)]) ∧ H l_self_full = some (.lst ((self'.full : (List Int)).map V.int)) ∧ cW (F_BitWriter_put_ue self' value') (fun v => ∀ (H' : Hp), SameXs [p_self, l_self_full] H H' → H' p_self = some (.ins AD.c_BitWriter dx_self [("_full", V.ref l_self_full), ("_rest", V.int v.rest), ("_rest_bits", V.int v.bits)]) → H' l_self_full = some (.lst ((v.full : (List Int)).map V.int)) → Q .non H') (fun e => ∀ H', Same H H' → E (.ref (excA AD e)) none H')
def sp_BitWriter_octets (K : PySem.W.Frag) (AD : Ads) : Sp := fun vs H Q E => ∃ (G : Hp) (p_self l_self_full dx_self : Addr) (self' : St_BitWriter), vs = [.ref p_self] ∧ Same G H ∧ (hideL [] H) p_self = some (.ins AD.c_BitWriter dx_self [("_full", V.ref l_self_full), ("_rest", V.int self'.rest), ("_rest_bits", V.int self'.bits)]) ∧ (hideL [] H) l_self_full = some (.lst ((self'.full : (List Int)).map V.int)) ∧ cW (F_BitWriter_octets self') (fun v => ∀ p H', H p = none → Same H H' → H' p = some (.lst (v.map V.int)) → Q (.ref p) H') (fun e => ∀ H', Same H H' → E (.ref (excA AD e)) none H')
def sp_write_settings (K : PySem.W.Frag) (AD : Ads) : Sp := fun vs H Q E => ∃ (G : Hp) (p_settings p_settings_fmt dx_settings dx_settings_fmt : Addr) (settings' : St_Settings), vs = [.ref p_settings] ∧ Same G H ∧ (hideL [] H) p_settings = some (.ins AD.c_Settings dx_settings [("fmt", V.ref p_settings_fmt), ("slots", V.int settings'.slots), ("rows", V.int settings'.rows), ("deblock", V.bl settings'.deblock), ("offset", V.bl settings'.offset), ("layers", V.int settings'.layers)]) ∧ (hideL [] H) p_settings_fmt = some (.ins AD.c_Format dx_settings_fmt [("width", V.int settings'.fmt.width), ("height", V.int settings'.fmt.height), ("depth", V.int settings'.fmt.depth), ("chroma", V.int settings'.fmt.chroma)]) ∧ cW (F_write_settings settings') (fun v => ∀ p H', H p = none → Same H H' → H' p = some (.lst (v.map V.int)) → Q (.ref p) H') (fun e => ∀ H', Same H H' → E (.ref (excA AD e)) none H')
def sp__last_bit (K : PySem.W.Frag) (AD : Ads) : Sp := fun vs H Q E => ∃ (G : Hp) (octet' : Int), vs = [.int octet'] ∧ Same G H ∧ cW (F__last_bit octet') (fun v => ∀ H', Same H H' → Q (.int v) H') (fun e => ∀ H', Same H H' → E (.ref (excA AD e)) none H')
def sp_BitReader___init__ (K : PySem.W.Frag) (AD : Ads) : Sp := fun vs H Q E => ∃ (G : Hp) (p_self dx_self : Addr) (a_octets : Addr) (octets' : List Int), vs = [.ref p_self, .ref a_octets] ∧ Same G H ∧ (∀ a ∈ [p_self], G a = none) ∧ H p_self = some (.ins AD.c_BitReader dx_self []) ∧ (hideL [p_self] H) a_octets = some (.lst ((octets' : List Int).map V.int)) ∧ cW (F_BitReader___init__ octets') (fun v => ∀ (H' : Hp) (l_octs : Addr), SameX p_self H H' → H l_octs = none → H' p_self = some (.ins AD.c_BitReader dx_self [("_octets", V.ref l_octs), ("_place", V.int v.place), ("_end", V.int v.stop)]) → H' l_octs = some (.lst (v.octs.map V.int)) → Q .non H') (fun e => ∀ H', SameX p_self H H' → E (.ref (excA AD e)) none H')
def sp_BitReader__look (K : PySem.W.Frag) (AD : Ads) : Sp := fun vs H Q E => ∃ (G : Hp) (p_self l_self_octs dx_self : Addr) (self' : St_BitReader) (place' : Int) (count' : Int), vs = [.ref p_self, .int place', .int count'] ∧ Same G H ∧ (hideL [] H) p_self = some (.ins AD.c_BitReader dx_self [("_octets", V.ref l_self_octs), ("_place", V.int self'.place), ("_end", V.int self'.stop)]) ∧ (hideL [] H) l_self_octs = some (.lst ((self'.octs : (List Int)).map V.int)) ∧ cW (F_BitReader__look self' place' count') (fun v => ∀ H', Same H H' → Q (.int v) H') (fun e => ∀ H', Same H H' → E (.ref (excA AD e)) none H')
def sp_BitReader__take (K : PySem.W.Frag) (AD : Ads) : Sp := fun vs H Q E => ∃ (G : Hp) (p_self l_self_octs dx_self : Addr) (self' : St_BitReader) (count' : Int), vs = [.ref p_self, .int count'] ∧ Same G H ∧ (∀ a ∈ [p_self, l_self_octs], G a = none) ∧ H p_self = some (.ins AD.c_BitReader dx_self [("_octets", V.ref l_self_octs), ("_place", V.int self'.place), ("_end", V.int self'.stop)]) ∧ H l_self_octs = some (.lst ((self'.octs : (List Int)).map V.int)) ∧ cW (F_BitReader__take self' count') (fun v => ∀ (H' : Hp), SameXs [p_self, l_self_octs] H H' → H' p_self = some (.ins AD.c_BitReader dx_self [("_octets", V.ref l_self_octs), ("_place", V.int v.2.place), ("_end", V.int v.2.stop)]) → H' l_self_octs = some (.lst ((v.2.octs : (List Int)).map V.int)) → Q (.int v.1) H') (fun e => ∀ H', Same H H' → E (.ref (excA AD e)) none H')
def sp_BitReader_get (K : PySem.W.Frag) (AD : Ads) : Sp := fun vs H Q E => ∃ (G : Hp) (p_self l_self_octs dx_self : Addr) (self' : St_BitReader) (count' : Int), vs = [.ref p_self, .int count'] ∧ Same G H ∧ (∀ a ∈ [p_self, l_self_octs], G a = none) ∧ H p_self = some (.ins AD.c_BitReader dx_self [("_octets", V.ref l_self_octs), ("_place", V.int self'.place), ("_end", V.int self'.stop)]) ∧ H l_self_octs = some (.lst ((self'.octs : (List Int)).map V.int)) ∧ cW (F_BitReader_get self' count') (fun v => ∀ (H' : Hp), SameXs [p_self, l_self_octs] H H' → H' p_self = some (.ins AD.c_BitReader dx_self [("_octets", V.ref l_self_octs), ("_place", V.int v.2.place), ("_end", V.int v.2.stop)]) → H' l_self_octs = some (.lst ((v.2.octs : (List Int)).map V.int)) → Q (.int v.1) H') (fun e => ∀ H', Same H H' → E (.ref (excA AD e)) none H')
def sp__get_switch (K : PySem.W.Frag) (AD : Ads) : Sp := fun vs H Q E => ∃ (G : Hp) (p_reader l_reader_octs dx_reader : Addr) (reader' : St_BitReader), vs = [.ref p_reader] ∧ Same G H ∧ (∀ a ∈ [p_reader, l_reader_octs], G a = none) ∧ H p_reader = some (.ins AD.c_BitReader dx_reader [("_octets", V.ref l_reader_octs), ("_place", V.int reader'.place), ("_end", V.int reader'.stop)]) ∧ H l_reader_octs = some (.lst ((reader'.octs : (List Int)).map V.int)) ∧ cW (F__get_switch reader') (fun v => ∀ (H' : Hp), SameXs [p_reader, l_reader_octs] H H' → H' p_reader = some (.ins AD.c_BitReader dx_reader [("_octets", V.ref l_reader_octs), ("_place", V.int v.2.place), ("_end", V.int v.2.stop)]) → H' l_reader_octs = some (.lst ((v.2.octs : (List Int)).map V.int)) → Q (.bl v.1) H') (fun e => ∀ H', Same H H' → E (.ref (excA AD e)) none H')
def sp_BitReader__zeros (K : PySem.W.Frag) (AD : Ads) : Sp := fun vs H Q E => ∃ (G : Hp) (p_self l_self_octs dx_self : Addr) (self' : St_BitReader), vs = [.ref p_self] ∧ Same G H ∧ (hideL [] H) p_self = some (.ins AD.c_BitReader dx_self [("_octets", V.ref l_self_octs), ("_place", V.int self'.place), ("_end", V.int self'.stop)]) ∧ (hideL [] H) l_self_octs = some (.lst ((self'.octs : (List Int)).map V.int)) ∧ cW (F_BitReader__zeros self') (fun v => ∀ H', Same H H' → Q (.int v) H') (fun e => ∀ H', Same H H' → E (.ref (excA AD e)) none H')
def sp_BitReader_get_ue (K : PySem.W.Frag) (AD : Ads) : Sp := fun vs H Q E => ∃ (G : Hp) (p_self l_self_octs dx_self : Addr) (self' : St_BitReader), vs = [.ref p_self] ∧ Same G H ∧ (∀ a ∈ [p_self, l_self_octs], G a = none) ∧ H p_self = some (.ins AD.c_BitReader dx_self [("_octets", V.ref l_self_octs), ("_place", V.int self'.place), ("_end", V.int self'.stop)]) ∧ H l_self_octs = some (.lst ((self'.octs : (List Int)).map V.int)) ∧ cW (F_BitReader_get_ue self') (fun v => ∀ (H' : Hp), SameXs [p_self, l_self_octs] H H' → H' p_self = some (.ins AD.c_BitReader dx_self [("_octets", V.ref l_self_octs), ("_place", V.int v.2.place), ("_end", V.int v.2.stop)]) → H' l_self_octs = some (.lst ((v.2.octs : (List Int)).map V.int)) → Q (.int v.1) H') (fun e => ∀ H', Same H H' → E (.ref (excA AD e)) none H')
def sp__get_settings (K : PySem.W.Frag) (AD : Ads) : Sp := fun vs H Q E => ∃ (G : Hp) (p_reader l_reader_octs dx_reader : Addr) (reader' : St_BitReader), vs = [.ref p_reader] ∧ Same G H ∧ (∀ a ∈ [p_reader, l_reader_octs], G a = none) ∧ H p_reader = some (.ins AD.c_BitReader dx_reader [("_octets", V.ref l_reader_octs), ("_place", V.int reader'.place), ("_end", V.int reader'.stop)]) ∧ H l_reader_octs = some (.lst ((reader'.octs : (List Int)).map V.int)) ∧ cW (F__get_settings reader') (fun v => ∀ (H' : Hp), SameXs [p_reader, l_reader_octs] H H' → H' p_reader = some (.ins AD.c_BitReader dx_reader [("_octets", V.ref l_reader_octs), ("_place", V.int v.2.place), ("_end", V.int v.2.stop)]) → H' l_reader_octs = some (.lst ((v.2.octs : (List Int)).map V.int)) → ∀ (p_ret p_ret_fmt dx_ret dx_ret_fmt : Addr), H p_ret = none → H p_ret_fmt = none → p_ret ≠ p_ret_fmt → H' p_ret = some (.ins AD.c_Settings dx_ret [("fmt", V.ref p_ret_fmt), ("slots", V.int v.1.slots), ("rows", V.int v.1.rows), ("deblock", V.bl v.1.deblock), ("offset", V.bl v.1.offset), ("layers", V.int v.1.layers)]) → H' p_ret_fmt = some (.ins AD.c_Format dx_ret_fmt [("width", V.int v.1.fmt.width), ("height", V.int v.1.fmt.height), ("depth", V.int v.1.fmt.depth), ("chroma", V.int v.1.fmt.chroma)]) → Q (.ref p_ret) H') (fun e => ∀ H', Same H H' → E (.ref (excA AD e)) none H')
def sp_BitReader_left (K : PySem.W.Frag) (AD : Ads) : Sp := fun vs H Q E => ∃ (G : Hp) (p_self l_self_octs dx_self : Addr) (self' : St_BitReader), vs = [.ref p_self] ∧ Same G H ∧ (hideL [] H) p_self = some (.ins AD.c_BitReader dx_self [("_octets", V.ref l_self_octs), ("_place", V.int self'.place), ("_end", V.int self'.stop)]) ∧ (hideL [] H) l_self_octs = some (.lst ((self'.octs : (List Int)).map V.int)) ∧ cW (F_BitReader_left self') (fun v => ∀ H', Same H H' → Q (.int v) H') (fun e => ∀ H', Same H H' → E (.ref (excA AD e)) none H')
def sp_read_settings (K : PySem.W.Frag) (AD : Ads) : Sp := fun vs H Q E => ∃ (G : Hp) (a_payload : Addr) (payload' : List Int), vs = [.ref a_payload] ∧ Same G H ∧ (hideL [] H) a_payload = some (.lst ((payload' : List Int).map V.int)) ∧ cW (F_read_settings payload') (fun v => ∀ (H' : Hp) (p_ret p_ret_fmt dx_ret dx_ret_fmt : Addr), Same H H' → H p_ret = none → H p_ret_fmt = none → p_ret ≠ p_ret_fmt → H' p_ret = some (.ins AD.c_Settings dx_ret [("fmt", V.ref p_ret_fmt), ("slots", V.int v.slots), ("rows", V.int v.rows), ("deblock", V.bl v.deblock), ("offset", V.bl v.offset), ("layers", V.int v.layers)]) → H' p_ret_fmt = some (.ins AD.c_Format dx_ret_fmt [("width", V.int v.fmt.width), ("height", V.int v.fmt.height), ("depth", V.int v.fmt.depth), ("chroma", V.int v.fmt.chroma)]) → Q (.ref p_ret) H') (fun e => ∀ H', Same H H' → E (.ref (excA AD e)) none H')
def sp__law_same (K : PySem.W.Frag) (AD : Ads) : Sp := fun vs H Q E => ∃ (G : Hp) (p_settings p_settings_fmt dx_settings dx_settings_fmt : Addr) (settings' : St_Settings) (a_n : Addr) (n' : List Int), vs = [.ref p_settings, .ref a_n] ∧ Same G H ∧ (hideL [] H) p_settings = some (.ins AD.c_Settings dx_settings [("fmt", V.ref p_settings_fmt), ("slots", V.int settings'.slots), ("rows", V.int settings'.rows), ("deblock", V.bl settings'.deblock), ("offset", V.bl settings'.offset), ("layers", V.int settings'.layers)]) ∧ (hideL [] H) p_settings_fmt = some (.ins AD.c_Format dx_settings_fmt [("width", V.int settings'.fmt.width), ("height", V.int settings'.fmt.height), ("depth", V.int settings'.fmt.depth), ("chroma", V.int settings'.fmt.chroma)]) ∧ (hideL [] H) a_n = some (.lst ((n' : List Int).map V.int)) ∧ cW (F__law_same settings' n') (fun v => ∀ H', Same H H' → Q (.bl v) H') (fun e => ∀ H', Same H H' → E (.ref (excA AD e)) none H')
def sp__law_cell (K : PySem.W.Frag) (AD : Ads) : Sp := fun vs H Q E => ∃ (G : Hp) (a_script : Addr) (script' : List Int) (k' : Int), vs = [.ref a_script, .int k'] ∧ Same G H ∧ SqL K H a_script ((script' : List Int).map V.int) ∧ cW (F__law_cell script' k') (fun v => Q (.int v) H) (fun e => E (.ref (excA AD e)) none H)
def sp__law_packed (K : PySem.W.Frag) (AD : Ads) : Sp := fun vs H Q E => ∃ (G : Hp) (a_bits : Addr) (bits' : List Int), vs = [.ref a_bits] ∧ Same G H ∧ (hideL [] H) a_bits = some (.lst ((bits' : List Int).map V.int)) ∧ cW (F__law_packed bits') (fun v => ∀ p H', H p = none → Same H H' → H' p = some (.lst (v.map V.int)) → Q (.ref p) H') (fun e => ∀ H', Same H H' → E (.ref (excA AD e)) none H')
def sp__law_bits (K : PySem.W.Frag) (AD : Ads) : Sp := fun vs H Q E => ∃ (G : Hp) (value' : Int) (count' : Int), vs = [.int value', .int count'] ∧ Same G H ∧ cW (F__law_bits value' count') (fun v => ∀ p H', H p = none → Same H H' → H' p = some (.lst (v.map V.int)) → Q (.ref p) H') (fun e => ∀ H', Same H H' → E (.ref (excA AD e)) none H')
def sp__law_ue (K : PySem.W.Frag) (AD : Ads) : Sp := fun vs H Q E => ∃ (G : Hp) (value' : Int), vs = [.int value'] ∧ Same G H ∧ cW (F__law_ue value') (fun v => ∀ p H', H p = none → Same H H' → H' p = some (.lst (v.map V.int)) → Q (.ref p) H') (fun e => ∀ H', Same H H' → E (.ref (excA AD e)) none H')
def sp__law_settings_payload (K : PySem.W.Frag) (AD : Ads) : Sp := fun vs H Q E => ∃ (G : Hp) (a_n : Addr) (n' : List Int), vs = [.ref a_n] ∧ Same G H ∧ (hideL [] H) a_n = some (.lst ((n' : List Int).map V.int)) ∧ cW (F__law_settings_payload n') (fun v => ∀ p H', H p = none → Same H H' → H' p = some (.lst (v.map V.int)) → Q (.ref p) H') (fun e => ∀ H', Same H H' → E (.ref (excA AD e)) none H')
def sp_Format___eq__ (K : PySem.W.Frag) (AD : Ads) : Sp := fun vs H Q E => ∃ (G : Hp) (p_self dx_self : Addr) (self' : St_Format) (p_other dx_other : Addr) (other' : St_Format), vs = [.ref p_self, .ref p_other] ∧ Same G H ∧ (hideL [] H) p_self = some (.ins AD.c_Format dx_self [("width", V.int self'.width), ("height", V.int self'.height), ("depth", V.int self'.depth), ("chroma", V.int self'.chroma)]) ∧ (hideL [] H) p_other = some (.ins AD.c_Format dx_other [("width", V.int other'.width), ("height", V.int other'.height), ("depth", V.int other'.depth), ("chroma", V.int other'.chroma)]) ∧ cW (F_Format___eq__ self' other') (fun v => ∀ H', Same H H' → Q (.bl v) H') (fun e => ∀ H', Same H H' → E (.ref (excA AD e)) none H')
def sp_Settings___eq__ (K : PySem.W.Frag) (AD : Ads) : Sp := fun vs H Q E => ∃ (G : Hp) (p_self p_self_fmt dx_self dx_self_fmt : Addr) (self' : St_Settings) (p_other p_other_fmt dx_other dx_other_fmt : Addr) (other' : St_Settings), vs = [.ref p_self, .ref p_other] ∧ Same G H ∧ (hideL [] H) p_self = some (.ins AD.c_Settings dx_self [("fmt", V.ref p_self_fmt), ("slots", V.int self'.slots), ("rows", V.int self'.rows), ("deblock", V.bl self'.deblock), ("offset", V.bl self'.offset), ("layers", V.int self'.layers)]) ∧ (hideL [] H) p_self_fmt = some (.ins AD.c_Format dx_self_fmt [("width", V.int self'.fmt.width), ("height", V.int self'.fmt.height), ("depth", V.int self'.fmt.depth), ("chroma", V.int self'.fmt.chroma)]) ∧ (hideL [] H) p_other = some (.ins AD.c_Settings dx_other [("fmt", V.ref p_other_fmt), ("slots", V.int other'.slots), ("rows", V.int other'.rows), ("deblock", V.bl other'.deblock), ("offset", V.bl other'.offset), ("layers", V.int other'.layers)]) ∧ (hideL [] H) p_other_fmt = some (.ins AD.c_Format dx_other_fmt [("width", V.int other'.fmt.width), ("height", V.int other'.fmt.height), ("depth", V.int other'.fmt.depth), ("chroma", V.int other'.fmt.chroma)]) ∧ cW (F_Settings___eq__ self' other') (fun v => ∀ H', Same H H' → Q (.bl v) H') (fun e => ∀ H', Same H H' → E (.ref (excA AD e)) none H')
def sp_law (K : PySem.W.Frag) (AD : Ads) : Sp := fun vs H Q E => ∃ (a_script : Addr) (script : List Int), vs = [.ref a_script] ∧ SqL K H a_script (script.map V.int) ∧ cW (F_law script) (fun v => v = true) (fun _ => False) ∧ ∀ H', Q (.bl true) H'
section
variable {P : Program} {w : World} {K : PySem.W.Frag} {mg : Str → Option Value} {base : Heap} {AD : Ads}
abbrev N__law_draws : List Str := ["cell", "limits", "found", "rest", "state", "free", "limit"]
theorem sc__law_draws : FnScope N__law_draws ["cell", "limits"] (defScope s__law_draws) := ⟨rfl, rfl, rfl, by decide +kernel, rfl, by decide +kernel, by decide +kernel⟩
theorem ok__law_draws (D : DefX K mg "_law_draws" s__law_draws ["cell", "limits"] pats__law_draws) (T : Txt w K mg AD)  : CalX P w K mg base 1 "_law_draws" (sp__law_draws K AD) pats__law_draws := by
  refine D.ok sc__law_draws (fun vs H Q E h => ?_) (fun f cdv A_ outer s H vs Q E hr h => ?_)
  · obtain ⟨G, cell', a_limits, limits', rfl, _⟩ := h
    rfl
  · obtain ⟨G, cell', a_limits, limits', rfl, sG, q_limits, hw⟩ := h
    refine ⟨_, (pss_cons (ps_set (i := 2) sc__law_draws.nd rfl (Or.inl rfl) (pe_lst pa_nil))
      (pss_cons (ps_set (i := 3) sc__law_draws.nd rfl (Or.inl rfl) (pe_callB call_abs (by rfl) T.b_abs (by decide +kernel) (pa_cons (pe_callTy call_int1 (by rfl) T.b_int (by decide +kernel) (pa_cons (pv 0) pa_nil)) pa_nil)))
      (pss_cons (ps_set (i := 4) sc__law_draws.nd rfl (Or.inl rfl) (pe_op op_mod (pe_callTy call_int1 (by rfl) T.b_int (by decide +kernel) (pa_cons (pv 3) pa_nil)) pe_int))
      (pss_cons (ps_set (i := 5) sc__law_draws.nd rfl (Or.inl rfl) (pe_or (pe_cmp (pc_lt (pv 0) pe_int)) (pe_one (pe_cmp (pc_ge (pv 0) (pe_op op_pow pe_int pe_int))))))
      (pss_cons (ps_for (passes_of rfl) rfl (pi_listK (K := K) (pv 1)) (pg_name (i := 6) sc__law_draws.nd rfl (Or.inl rfl)) (pss_one (ps_if (PW.pt (pw_and (pt_val (pv 5)) (pw_and1 (pt_cmp (pc_gt (pv 3) pe_int))))) (pss_cons (ps_expr (pe_bm PySem.F.plainAttrs_list PySem.F.slot_list_append PySem.F.type_list_append mt_append (pv 2) (pa_cons (pe_op op_mod (pe_callTy call_int1 (by rfl) T.b_int (by decide +kernel) (pa_cons (pv 3) pa_nil)) (pv 6)) pa_nil)))
      (pss_one (ps_set (i := 3) sc__law_draws.nd rfl (Or.inl rfl) (pe_op op_fdivW (pv 3) (pv 6))))) (pss_cons (ps_set (i := 4) sc__law_draws.nd rfl (Or.inl rfl) (pe_op op_mod (pe_callTy call_int1 (by rfl) T.b_int (by decide +kernel) (pa_cons (pe_op op_add (pe_op op_mul (pv 4) pe_int) pe_int) pa_nil)) pe_int))
      (pss_cons (ps_set (i := 4) sc__law_draws.nd rfl (Or.inl rfl) (pe_op op_mod (pe_callTy call_int1 (by rfl) T.b_int (by decide +kernel) (pa_cons (pe_op op_add (pe_op op_mul (pv 4) pe_int) pe_int) pa_nil)) pe_int))
      (pss_one (ps_expr (pe_bm PySem.F.plainAttrs_list PySem.F.slot_list_append PySem.F.type_list_append mt_append (pv 2) (pa_cons (pe_op op_mod (pe_callTy call_int1 (by rfl) T.b_int (by decide +kernel) (pa_cons (pe_op op_fdivW (pv 4) pe_int) pa_nil)) (pv 6)) pa_nil)))))))))
      (pss_one (ps_ret (pv 2)))))))), ?_⟩
    obtain ⟨KK, EE, hK0, hE, hw⟩ := cW_gen hw
    have S0 := Sep.startG sG
    unfold F__law_draws at hw
    refine ⟨(by show 0 ≤ sizeLine; decide), fun p1 n2 => ?_⟩
    generalize g3 : upd H p1 _ = H4
    obtain ⟨e5, h6⟩ := gen_new n2 g3
    have h7 : H4 p1 = some (.lst ((([] : (List Int)) : (List Int)).map V.int)) := h6
    have fr8 := S0.free n2
    have S9 := S0.new n2 e5 h7 fr8
    refine ⟨_, rfl, .inl ⟨_, rfl, ?_⟩⟩
    refine ⟨_, rfl, ?_⟩
    have hw := cW_bnd hw
    refine ⟨_, rfl, .inl ⟨_, rfl, ?_⟩⟩
    refine ⟨_, _, rfl, rfl, (show (0 : Int) < 2147483647 by decide), ?_⟩
    have hw := cW_bnd hw
    refine vv_or (ta := (tLt (tVar 0) (tC (V.int 0)))) (tb := (tGe (tVar 0) (tOp (rI CPow fun i j => V.int (i ^ j.toNat)) (tC (V.int 10)) (tC (V.int 18))))) (a := decide (cell' < 0)) (b := decide (((10 : Int) ^ Int.toNat 18) ≤ cell')) ?ha12 ?hb13 _ ?_
    case ha12 => exact (vv_cmp (val_var rfl) val_c (fun Q q => ⟨_, _, rfl, rfl, q⟩))
    case hb13 => exact (vv_cmp (val_var rfl) (val_op val_c val_c (fun Q q => ⟨_, _, rfl, rfl, ⟨by decide, by decide, by decide⟩, q⟩)) (fun Q q => ⟨_, _, rfl, rfl, q⟩))
    have hw := cW_bnd hw
    obtain ⟨K16, hK17, hw⟩ := cW_push hw
    refine ⟨_, rfl, _, rfl, ⟨_, (SqL.of (S9.bM _ _ q_limits))⟩, for_list (K := K) (a := a_limits) (xs := (limits' : List Int).map V.int) (fun i σ H' => ∃ (found_18 : (List Int)) (rest_19 : Int) (state_20 : Int) (u21 : Option V) (G' : Hp), σ = [some (V.int (cell')), some (V.ref a_limits), some (V.ref p1), some (V.int rest_19), some (V.int state_20), some (V.bl ((decide (cell' < 0) || decide (((10 : Int) ^ Int.toNat 18) ≤ cell')))), u21] ∧ Same G G' ∧ Sep [] H G G' H' [p1] ∧ H' p1 = some (.lst ((found_18 : (List Int)).map V.int)) ∧ cW (forS (List.drop i (limits')) (found_18, rest_19, state_20) (fun s x => F__law_draws_b1 ((decide (cell' < 0) || decide (((10 : Int) ^ Int.toNat 18) ≤ cell'))) (s.1) (s.2.1) (s.2.2) x)) K16 EE) ?_ ?_ ?_ ?_⟩
    · exact ⟨(([] : (List Int))), ((if cell' < 0 then -cell' else cell')), (((if cell' < 0 then -cell' else cell') % 2147483647)), _, _, rfl, (Same.refl _), S9, h7, hw⟩
    · intro i σ H22 _ hw
      obtain ⟨found_18, rest_19, state_20, u21, G25, rfl, eG26, S23, h24, hw⟩ := hw
      exact (SqL.of (S23.bM _ _ q_limits))
    · intro i x σ H27 hj hw
      obtain ⟨found_18, rest_19, state_20, u21, G30, rfl, eG31, S28, h29, hw⟩ := hw
      obtain ⟨x32, hx, rfl⟩ := map_get hj
      have hw := cW_forS hx hw
      have hw : cW (F__law_draws_b1 ((decide (cell' < 0) || decide (((10 : Int) ^ Int.toNat 18) ≤ cell'))) (found_18) (rest_19) (state_20) (x32)) _ EE := hw
      unfold F__law_draws_b1 at hw
      obtain ⟨K36, hK37, hw⟩ := cW_name hw
      refine ⟨_, rfl, _, rfl, ?_⟩
      refine iteB (fun c39 => ?_) (fun c39 => ?_)
      · have hw := cW_pos c39 hw
        refine ⟨_, rfl, _, _, rfl, rfl, _, rfl, ?_⟩
        refine iteD (fun c40 => ?_) (fun c40 => ?_)
        · have hw := cW_pos c40 hw
          refine ⟨_, rfl, (.inl ⟨rfl, _, SqL.of h29⟩), _, rfl, .inl ⟨_, rfl, ?_⟩⟩
          obtain ⟨g41, hw⟩ := cW_grd hw
          obtain ⟨g42, hw⟩ := cW_grd hw
          refine ⟨_, rfl, _, _, rfl, rfl, g41, _, _, _, rfl, rfl, h29, (app_lenM g42), ?_⟩
          generalize g43 : upd H27 p1 _ = H44
          obtain ⟨x45, h46⟩ := gen_mut g43
          have h47 : H44 p1 = some (.lst (((found_18) ++ [(rest_19 % x32)] : (List Int)).map V.int)) := snoc_map h46
          have S48 := S28.mut1 x45 (.head _) h47
          have hw := cW_bnd hw
          obtain ⟨g50, hw⟩ := cW_grd hw
          refine ⟨_, rfl, _, rfl, _, _, rfl, rfl, (divW_small g50.1 g50.2), ?_⟩
          have hw := cW_bnd hw
          have hw := cW_ok hw
          have hw := hK37 _ hw
          exact ⟨((found_18) ++ [(rest_19 % x32)]), ((rest_19 / x32)), (state_20), _, _, rfl, eG31, S48, h47, hw⟩
        · have hw := cW_neg c40 hw
          refine ⟨_, rfl, _, _, rfl, rfl, (.inr ⟨by decide, by decide⟩), _, _, rfl, rfl, .inl ⟨_, rfl, ?_⟩⟩
          refine ⟨_, _, rfl, rfl, (show (0 : Int) < 2147483647 by decide), ?_⟩
          have hw := cW_bnd hw
          refine ⟨_, rfl, _, _, rfl, rfl, (.inr ⟨by decide, by decide⟩), _, _, rfl, rfl, .inl ⟨_, rfl, ?_⟩⟩
          refine ⟨_, _, rfl, rfl, (show (0 : Int) < 2147483647 by decide), ?_⟩
          have hw := cW_bnd hw
          refine ⟨_, rfl, (.inl ⟨rfl, _, SqL.of h29⟩), _, rfl, _, _, rfl, rfl, (divW_lit (by decide) (by decide)), .inl ⟨_, rfl, ?_⟩⟩
          obtain ⟨g54, hw⟩ := cW_grd hw
          obtain ⟨g55, hw⟩ := cW_grd hw
          refine ⟨_, rfl, _, _, rfl, rfl, g54, _, _, _, rfl, rfl, h29, (app_lenM g55), ?_⟩
          generalize g56 : upd H27 p1 _ = H57
          obtain ⟨x58, h59⟩ := gen_mut g56
          have h60 : H57 p1 = some (.lst (((found_18) ++ [((((((((state_20 * 48271) + 11) % 2147483647) * 69621) + 7) % 2147483647) / 13) % x32)] : (List Int)).map V.int)) := snoc_map h59
          have S61 := S28.mut1 x58 (.head _) h60
          have hw := cW_bnd hw
          have hw := cW_ok hw
          have hw := hK37 _ hw
          exact ⟨((found_18) ++ [((((((((state_20 * 48271) + 11) % 2147483647) * 69621) + 7) % 2147483647) / 13) % x32)]), (rest_19), (((((((state_20 * 48271) + 11) % 2147483647) * 69621) + 7) % 2147483647)), _, _, rfl, eG31, S61, h60, hw⟩
      · have hw := cW_negB c39 hw
        refine iteF ?_
        refine ⟨_, rfl, _, _, rfl, rfl, (.inr ⟨by decide, by decide⟩), _, _, rfl, rfl, .inl ⟨_, rfl, ?_⟩⟩
        refine ⟨_, _, rfl, rfl, (show (0 : Int) < 2147483647 by decide), ?_⟩
        have hw := cW_bnd hw
        refine ⟨_, rfl, _, _, rfl, rfl, (.inr ⟨by decide, by decide⟩), _, _, rfl, rfl, .inl ⟨_, rfl, ?_⟩⟩
        refine ⟨_, _, rfl, rfl, (show (0 : Int) < 2147483647 by decide), ?_⟩
        have hw := cW_bnd hw
        refine ⟨_, rfl, (.inl ⟨rfl, _, SqL.of h29⟩), _, rfl, _, _, rfl, rfl, (divW_lit (by decide) (by decide)), .inl ⟨_, rfl, ?_⟩⟩
        obtain ⟨g65, hw⟩ := cW_grd hw
        obtain ⟨g66, hw⟩ := cW_grd hw
        refine ⟨_, rfl, _, _, rfl, rfl, g65, _, _, _, rfl, rfl, h29, (app_lenM g66), ?_⟩
        generalize g67 : upd H27 p1 _ = H68
        obtain ⟨x69, h70⟩ := gen_mut g67
        have h71 : H68 p1 = some (.lst (((found_18) ++ [((((((((state_20 * 48271) + 11) % 2147483647) * 69621) + 7) % 2147483647) / 13) % x32)] : (List Int)).map V.int)) := snoc_map h70
        have S72 := S28.mut1 x69 (.head _) h71
        have hw := cW_bnd hw
        have hw := cW_ok hw
        have hw := hK37 _ hw
        exact ⟨((found_18) ++ [((((((((state_20 * 48271) + 11) % 2147483647) * 69621) + 7) % 2147483647) / 13) % x32)]), (rest_19), (((((((state_20 * 48271) + 11) % 2147483647) * 69621) + 7) % 2147483647)), _, _, rfl, eG31, S72, h71, hw⟩
    · intro σ H74 hw
      obtain ⟨found_18, rest_19, state_20, u21, G77, rfl, eG78, S75, h76, hw⟩ := hw
      have hw := hK17 _ (cW_forS0 (by rw [List.length_map]) hw)
      have hw : cW (F__law_draws_r1  (found_18) (rest_19) (state_20)) _ EE := hw
      unfold F__law_draws_r1 at hw
      refine ⟨_, rfl, ?_⟩
      have hw := cW_ok hw
      exact hK0 _ hw _ _ fr8 S75.b0 h76

abbrev N__law_between : List Str := ["first", "second", "low", "high"]
theorem sc__law_between : FnScope N__law_between ["first", "second", "low", "high"] (defScope s__law_between) := ⟨rfl, rfl, rfl, by decide +kernel, rfl, by decide +kernel, by decide +kernel⟩
theorem ok__law_between (D : DefX K mg "_law_between" s__law_between ["first", "second", "low", "high"] pats__law_between) (T : Txt w K mg AD)  : CalX P w K mg base 1 "_law_between" (sp__law_between K AD) pats__law_between := by
  refine D.ok sc__law_between (fun vs H Q E h => ?_) (fun f cdv A_ outer s H vs Q E hr h => ?_)
  · obtain ⟨G, first', second', low', high', rfl, _⟩ := h
    rfl
  · obtain ⟨G, first', second', low', high', rfl, sG, hw⟩ := h
    refine ⟨_, (pss_cons (ps_if (pt_cmp (pc_eqI (pv 0) pe_int)) (pss_one (ps_ret (pv 2))) pss_nil)
      (pss_cons (ps_if (pt_cmp (pc_eqI (pv 0) pe_int)) (pss_one (ps_ret (pv 3))) pss_nil)
      (pss_cons (ps_if (pt_cmp (pc_eqI (pv 0) pe_int)) (pss_one (ps_ret (pe_callB (call_min2 rfl) (by rfl) T.b_min (by decide +kernel) (pa_cons (pe_op op_add (pv 2) pe_int) (pa_cons (pv 3) pa_nil))))) pss_nil)
      (pss_one (ps_ret (pe_op op_add (pv 2) (pe_op op_mod (pe_callTy call_int1 (by rfl) T.b_int (by decide +kernel) (pa_cons (pv 1) pa_nil)) (pe_op op_add (pe_op op_sub (pv 3) (pv 2)) pe_int)))))))), ?_⟩
    obtain ⟨KK, EE, hK0, hE, hw⟩ := cW_gen hw
    have S0 := Sep.startG sG
    unfold F__law_between at hw
    refine ⟨_, rfl, _, _, rfl, rfl, _, rfl, ?_⟩
    refine iteD (fun c82 => ?_) (fun c82 => ?_)
    · have hw := cW_pos c82 hw
      refine ⟨_, rfl, ?_⟩
      have hw := cW_ok hw
      exact hK0 _ hw
    · have hw := cW_neg c82 hw
      refine ⟨_, rfl, _, _, rfl, rfl, _, rfl, ?_⟩
      refine iteD (fun c83 => ?_) (fun c83 => ?_)
      · have hw := cW_pos c83 hw
        refine ⟨_, rfl, ?_⟩
        have hw := cW_ok hw
        exact hK0 _ hw
      · have hw := cW_neg c83 hw
        refine ⟨_, rfl, _, _, rfl, rfl, _, rfl, ?_⟩
        refine iteD (fun c84 => ?_) (fun c84 => ?_)
        · have hw := cW_pos c84 hw
          refine ⟨_, rfl, _, _, rfl, rfl, _, rfl, _, _, rfl, ?_⟩
          have hw := cW_ok hw
          exact hK0 _ hw
        · have hw := cW_neg c84 hw
          refine ⟨_, rfl, _, rfl, .inl ⟨_, rfl, ?_⟩⟩
          obtain ⟨g85, hw⟩ := cW_grd hw
          refine ⟨_, rfl, _, rfl, _, _, rfl, rfl, _, _, rfl, rfl, _, _, rfl, rfl, g85, _, _, rfl, rfl, ?_⟩
          have hw := cW_ok hw
          exact hK0 _ hw

abbrev N__law_numbers : List Str := ["cell", "draws", "width", "height", "rows"]
theorem sc__law_numbers : FnScope N__law_numbers ["cell"] (defScope s__law_numbers) := ⟨rfl, rfl, rfl, by decide +kernel, rfl, by decide +kernel, by decide +kernel⟩
theorem ok__law_numbers (D : DefX K mg "_law_numbers" s__law_numbers ["cell"] pats__law_numbers) (T : Txt w K mg AD) (c__law_draws : CalX P w K mg base 1 "_law_draws" (sp__law_draws K AD) pats__law_draws) (c__law_between : CalX P w K mg base 1 "_law_between" (sp__law_between K AD) pats__law_between) : CalX P w K mg base 2 "_law_numbers" (sp__law_numbers K AD) pats__law_numbers := by
  refine D.ok sc__law_numbers (fun vs H Q E h => ?_) (fun f cdv A_ outer s H vs Q E hr h => ?_)
  · obtain ⟨G, cell', rfl, _⟩ := h
    rfl
  · obtain ⟨G, cell', rfl, sG, hw⟩ := h
    refine ⟨_, (pss_cons (ps_set (i := 1) sc__law_numbers.nd rfl (Or.inl rfl) (vx_callX c__law_draws pat__law_draws_0 (.head _) hr (by decide) (takes_of rfl rfl rfl rfl) rfl (pa_cons (pv 0) (pa_cons (pe_lst (pa_cons pe_int (pa_cons pe_int (pa_cons pe_int (pa_cons pe_int (pa_cons pe_int (pa_cons pe_int (pa_cons pe_int (pa_cons pe_int (pa_cons pe_int (pa_cons pe_int (pa_cons pe_int (pa_cons pe_int pa_nil))))))))))))) pa_nil)) pk_nil))
      (pss_cons (ps_set (i := 2) sc__law_numbers.nd rfl (Or.inl rfl) (vx_callX c__law_between pat__law_between_0 (.head _) hr (by decide) (takes_of rfl rfl rfl rfl) rfl (pa_cons (pe_ix (ix_listK (K := K)) (pv 1) pe_int (fun _ _ => rfl)) (pa_cons (pe_ix (ix_listK (K := K)) (pv 1) pe_int (fun _ _ => rfl)) (pa_cons pe_int (pa_cons pe_int pa_nil)))) pk_nil))
      (pss_cons (ps_set (i := 3) sc__law_numbers.nd rfl (Or.inl rfl) (vx_callX c__law_between pat__law_between_0 (.head _) hr (by decide) (takes_of rfl rfl rfl rfl) rfl (pa_cons (pe_ix (ix_listK (K := K)) (pv 1) pe_int (fun _ _ => rfl)) (pa_cons (pe_ix (ix_listK (K := K)) (pv 1) pe_int (fun _ _ => rfl)) (pa_cons pe_int (pa_cons pe_int pa_nil)))) pk_nil))
      (pss_cons (ps_set (i := 4) sc__law_numbers.nd rfl (Or.inl rfl) (vx_callX c__law_between pat__law_between_0 (.head _) hr (by decide) (takes_of rfl rfl rfl rfl) rfl (pa_cons (pe_ix (ix_listK (K := K)) (pv 1) pe_int (fun _ _ => rfl)) (pa_cons (pe_ix (ix_listK (K := K)) (pv 1) pe_int (fun _ _ => rfl)) (pa_cons pe_int (pa_cons pe_int pa_nil)))) pk_nil))
      (pss_one (ps_ret (pe_lst (pa_cons (pv 2) (pa_cons (pv 3) (pa_cons (pe_op op_add pe_int (pe_ix (ix_listK (K := K)) (pv 1) pe_int (fun _ _ => rfl))) (pa_cons (pe_ix (ix_listK (K := K)) (pv 1) pe_int (fun _ _ => rfl)) (pa_cons (pe_op op_add pe_int (pe_ix (ix_listK (K := K)) (pv 1) pe_int (fun _ _ => rfl))) (pa_cons (pv 4) (pa_cons (pe_ix (ix_listK (K := K)) (pv 1) pe_int (fun _ _ => rfl)) (pa_cons (pe_ix (ix_listK (K := K)) (pv 1) pe_int (fun _ _ => rfl)) (pa_cons (pe_op op_add pe_int (pe_ix (ix_listK (K := K)) (pv 1) pe_int (fun _ _ => rfl))) pa_nil)))))))))))))))), ?_⟩
    obtain ⟨KK, EE, hK0, hE, hw⟩ := cW_gen hw
    have S0 := Sep.startG sG
    unfold F__law_numbers at hw
    refine ⟨_, rfl, (by show 12 ≤ sizeLine; decide), fun p86 n87 => ?_⟩
    generalize g88 : upd H p86 _ = H89
    obtain ⟨e90, h91⟩ := gen_new n87 g88
    have h92 : H89 p86 = some (.lst (([6, 256, 6, 256, 5, 3, 4, 6, 32, 2, 2, 4] : (List Int)).map V.int)) := h91
    have fr93 := S0.free n87
    have S94 := S0.new n87 e90 h92 fr93
    refine ⟨rfl, rfl, G, _, _, _, rfl, S94.sG, (hide_nil h92), cW_call hw (fun v95 hw p98 H96 n99 e97 h100 => ?_) (fun e he H2 e2 => hE e he H2 (Same.trans S94.b0 e2))⟩
    have h101 : H96 p98 = some (.lst ((v95 : (List Int)).map V.int)) := h100
    have fr102 := S94.free n99
    have S103 := S94.new n99 e97 h101 fr102
    obtain ⟨g104, hw⟩ := cW_grd hw
    obtain ⟨g105, hw⟩ := cW_grd hw
    refine ⟨_, rfl, _, _, _, _, rfl, rfl, (SqL.of h101), (atI_map g104), _, rfl, _, _, _, _, rfl, rfl, (SqL.of h101), (atI_map g105), rfl, rfl, G, _, _, _, _, rfl, S103.sG, cW_call hw (fun v106 hw => ?_) (fun e he => hE e he _ S103.b0)⟩
    obtain ⟨g107, hw⟩ := cW_grd hw
    obtain ⟨g108, hw⟩ := cW_grd hw
    refine ⟨_, rfl, _, _, _, _, rfl, rfl, (SqL.of h101), (atI_map g107), _, rfl, _, _, _, _, rfl, rfl, (SqL.of h101), (atI_map g108), rfl, rfl, G, _, _, _, _, rfl, S103.sG, cW_call hw (fun v109 hw => ?_) (fun e he => hE e he _ S103.b0)⟩
    obtain ⟨g110, hw⟩ := cW_grd hw
    obtain ⟨g111, hw⟩ := cW_grd hw
    refine ⟨_, rfl, _, _, _, _, rfl, rfl, (SqL.of h101), (atI_map g110), _, rfl, _, _, _, _, rfl, rfl, (SqL.of h101), (atI_map g111), rfl, rfl, G, _, _, _, _, rfl, S103.sG, cW_call hw (fun v112 hw => ?_) (fun e he => hE e he _ S103.b0)⟩
    obtain ⟨g113, hw⟩ := cW_grd hw
    obtain ⟨g114, hw⟩ := cW_grd hw
    obtain ⟨g115, hw⟩ := cW_grd hw
    obtain ⟨g116, hw⟩ := cW_grd hw
    obtain ⟨g117, hw⟩ := cW_grd hw
    obtain ⟨g118, hw⟩ := cW_grd hw
    refine ⟨_, rfl, _, rfl, _, rfl, _, _, _, _, rfl, rfl, (SqL.of h101), (atI_map g113), _, _, rfl, rfl, _, rfl, _, _, _, _, rfl, rfl, (SqL.of h101), (atI_map g114), _, rfl, _, _, _, _, rfl, rfl, (SqL.of h101), (atI_map g115), _, _, rfl, rfl, _, rfl, _, rfl, _, _, _, _, rfl, rfl, (SqL.of h101), (atI_map g116), _, rfl, _, _, _, _, rfl, rfl, (SqL.of h101), (atI_map g117), _, rfl, _, _, _, _, rfl, rfl, (SqL.of h101), (atI_map g118), _, _, rfl, rfl, (by show 9 ≤ sizeLine; decide), fun p119 n120 => ?_⟩
    generalize g121 : upd H96 p119 _ = H122
    obtain ⟨e123, h124⟩ := gen_new n120 g121
    have h125 : H122 p119 = some (.lst (([v106, v109, (8 + (itD (v95) (4))), (itD (v95) (5)), (1 + (itD (v95) (6))), v112, (itD (v95) (9)), (itD (v95) (10)), (1 + (itD (v95) (11)))] : (List Int)).map V.int)) := h124
    have fr126 := S103.free n120
    have S127 := S103.new n120 e123 h125 fr126
    have hw := cW_ok hw
    exact hK0 _ hw _ _ fr126 S127.b0 h125

abbrev N_Format___init__ : List Str := ["self", "width", "height", "depth", "chroma"]
theorem sc_Format___init__ : FnScope N_Format___init__ ["self", "width", "height", "depth", "chroma"] (defScope s_Format___init__) := ⟨rfl, rfl, rfl, by decide +kernel, rfl, by decide +kernel, by decide +kernel⟩
theorem ok_Format___init__ (D : InitX K mg AD.c_Format "Format" "Format.__init__" s_Format___init__ ["self", "width", "height", "depth", "chroma"] pats_Format___init__) (T : Txt w K mg AD)  : MakX P w K mg base 1 "Format" AD.c_Format (sp_Format___init__ K AD) pats_Format___init__ := by
  refine D.ok sc_Format___init__ (fun vs H Q E h => ?_) (fun f cdv A_ outer s H vs Q E hr h => ?_)
  · obtain ⟨G, p_self, dx_self, width', height', depth', chroma', rfl, _⟩ := h
    rfl
  · obtain ⟨G, p_self, dx_self, width', height', depth', chroma', rfl, sG, gM, h_self, hw⟩ := h
    refine ⟨_, (pss_cons (ps_if (pt_not (PW.pt (pw_and (pt_chain op_le op_le pe_int (pv 1) pe_int) (pw_and1 (pt_chain op_le op_le pe_int (pv 2) pe_int))))) (pss_one (ps_raise rfl (takes_of rfl rfl rfl rfl) (pmk_own PySem.F.excBase_ValueError T.xx_BadFormat T.xg_BadFormat T.xk_BadFormat (raises_own T.xb_BadFormat T.xt_BadFormat) rfl))) pss_nil)
      (pss_cons (ps_if (pt_not (pt_chain op_le op_le pe_int (pv 3) pe_int)) (pss_one (ps_raise rfl (takes_of rfl rfl rfl rfl) (pmk_own PySem.F.excBase_ValueError T.xx_BadFormat T.xg_BadFormat T.xk_BadFormat (raises_own T.xb_BadFormat T.xt_BadFormat) rfl))) pss_nil)
      (pss_cons (ps_if (pt_not (pt_chain op_le op_le pe_int (pv 4) pe_int)) (pss_one (ps_raise rfl (takes_of rfl rfl rfl rfl) (pmk_own PySem.F.excBase_ValueError T.xx_BadFormat T.xg_BadFormat T.xk_BadFormat (raises_own T.xb_BadFormat T.xt_BadFormat) rfl))) pss_nil)
      (pss_cons (ps_fld (pv 0) (pv 1) rfl)
      (pss_cons (ps_fld (pv 0) (pv 2) rfl)
      (pss_cons (ps_fld (pv 0) (pv 3) rfl)
      (pss_one (ps_fld (pv 0) (pv 4) rfl)))))))), ?_⟩
    obtain ⟨KK, EE, hK0, hE, hw⟩ := cW_gen hw
    have S0 := Sep.startM (M := [p_self]) sG (all_cons (some_ne h_self) all_nil) gM
    unfold F_Format___init__ at hw
    refine ⟨_, rfl, _, _, rfl, rfl, _, rfl, ?_⟩
    refine iteD (fun c128 => ?_) (fun c128 => ?_)
    · have hw := cW_pos c128 hw
      refine ⟨_, _, rfl, rfl, _, rfl, ?_⟩
      refine iteD (fun c129 => ?_) (fun c129 => ?_)
      · have hw := cW_pos c129 hw
        refine ⟨_, rfl, _, _, rfl, rfl, _, rfl, ?_⟩
        refine iteD (fun c130 => ?_) (fun c130 => ?_)
        · have hw := cW_pos c130 hw
          refine ⟨_, _, rfl, rfl, _, rfl, ?_⟩
          refine iteN (fun c131 => ?_) (fun c131 => ?_)
          · have hw := cW_neg c131 hw
            exact hE 1 (cW_er hw) _ (sameX_of S0.base)
          · have hw := cW_pos c131 hw
            refine ⟨_, rfl, _, _, rfl, rfl, _, rfl, ?_⟩
            refine iteD (fun c132 => ?_) (fun c132 => ?_)
            · have hw := cW_pos c132 hw
              refine ⟨_, _, rfl, rfl, _, rfl, ?_⟩
              refine iteN (fun c133 => ?_) (fun c133 => ?_)
              · have hw := cW_neg c133 hw
                exact hE 1 (cW_er hw) _ (sameX_of S0.base)
              · have hw := cW_pos c133 hw
                refine ⟨_, rfl, _, _, rfl, rfl, _, rfl, ?_⟩
                refine iteD (fun c134 => ?_) (fun c134 => ?_)
                · have hw := cW_pos c134 hw
                  refine ⟨_, _, rfl, rfl, _, rfl, ?_⟩
                  refine iteN (fun c135 => ?_) (fun c135 => ?_)
                  · have hw := cW_neg c135 hw
                    exact hE 1 (cW_er hw) _ (sameX_of S0.base)
                  · have hw := cW_pos c135 hw
                    refine ⟨_, rfl, _, rfl, _, _, _, _, rfl, h_self, T.cl_Format, T.n_Format_width, (by show 0 < 1000; decide), ?_⟩
                    generalize g136 : upd H p_self _ = H137
                    obtain ⟨x138, h139⟩ := gen_mut g136
                    have h140 : H137 p_self = some (.ins AD.c_Format dx_self [("width", V.int (width'))]) := h139
                    have S141 := S0.mut1 x138 (.head _) h140
                    refine ⟨_, rfl, _, rfl, _, _, _, _, rfl, h140, T.cl_Format, T.n_Format_height, (by show 1 < 1000; decide), ?_⟩
                    generalize g142 : upd H137 p_self _ = H143
                    obtain ⟨x144, h145⟩ := gen_mut g142
                    have h146 : H143 p_self = some (.ins AD.c_Format dx_self [("width", V.int (width')), ("height", V.int (height'))]) := h145
                    have S147 := S141.mut1 x144 (.head _) h146
                    refine ⟨_, rfl, _, rfl, _, _, _, _, rfl, h146, T.cl_Format, T.n_Format_depth, (by show 2 < 1000; decide), ?_⟩
                    generalize g148 : upd H143 p_self _ = H149
                    obtain ⟨x150, h151⟩ := gen_mut g148
                    have h152 : H149 p_self = some (.ins AD.c_Format dx_self [("width", V.int (width')), ("height", V.int (height')), ("depth", V.int (depth'))]) := h151
                    have S153 := S147.mut1 x150 (.head _) h152
                    refine ⟨_, rfl, _, rfl, _, _, _, _, rfl, h152, T.cl_Format, T.n_Format_chroma, (by show 3 < 1000; decide), ?_⟩
                    generalize g154 : upd H149 p_self _ = H155
                    obtain ⟨x156, h157⟩ := gen_mut g154
                    have h158 : H155 p_self = some (.ins AD.c_Format dx_self [("width", V.int (width')), ("height", V.int (height')), ("depth", V.int (depth')), ("chroma", V.int (chroma'))]) := h157
                    have S159 := S153.mut1 x156 (.head _) h158
                    have hw := cW_ok hw
                    exact hK0 _ hw _ (sameX_of S159.base) h158
                · have hw := cW_neg c134 hw
                  refine ⟨_, rfl, ?_⟩
                  refine iteT ?_
                  exact hE 1 (cW_er hw) _ (sameX_of S0.base)
            · have hw := cW_neg c132 hw
              refine ⟨_, rfl, ?_⟩
              refine iteT ?_
              exact hE 1 (cW_er hw) _ (sameX_of S0.base)
        · have hw := cW_neg c130 hw
          refine ⟨_, rfl, ?_⟩
          refine iteT ?_
          exact hE 1 (cW_er hw) _ (sameX_of S0.base)
      · have hw := cW_neg c129 hw
        refine iteT ?_
        exact hE 1 (cW_er hw) _ (sameX_of S0.base)
    · have hw := cW_neg c128 hw
      refine ⟨_, rfl, ?_⟩
      refine iteF ?_
      refine iteT ?_
      exact hE 1 (cW_er hw) _ (sameX_of S0.base)

abbrev N__require : List Str := ["holds", "text"]
theorem sc__require : FnScope N__require ["holds", "text"] (defScope s__require) := ⟨rfl, rfl, rfl, by decide +kernel, rfl, by decide +kernel, by decide +kernel⟩
theorem ok__require (D : DefX K mg "_require" s__require ["holds", "text"] pats__require) (T : Txt w K mg AD)  : CalX P w K mg base 1 "_require" (sp__require K AD) pats__require := by
  refine D.ok sc__require (fun vs H Q E h => ?_) (fun f cdv A_ outer s H vs Q E hr h => ?_)
  · obtain ⟨G, holds', text', rfl, _⟩ := h
    rfl
  · obtain ⟨G, holds', text', rfl, sG, hw⟩ := h
    refine ⟨_, (pss_one (ps_if (pt_not (pt_val (pv 0))) (pss_one (ps_raise rfl (takes_of rfl rfl rfl rfl) (SkE.pmk_own1 PySem.F.excBase_ValueError T.xx_BadHeader T.xg_BadHeader T.xk_BadHeader (raises_own T.xb_BadHeader T.xt_BadHeader) rfl (pv 1)))) pss_nil)), ?_⟩
    obtain ⟨KK, EE, hK0, hE, hw⟩ := cW_gen hw
    have S0 := Sep.startG sG
    unfold F__require at hw
    refine ⟨_, rfl, _, rfl, ?_⟩
    refine iteBN (fun c160 => ?_) (fun c160 => ?_)
    · have hw := cW_negB c160 hw
      refine ⟨_, rfl, ?_⟩
      exact hE 5 (cW_er hw)
    · have hw := cW_pos c160 hw
      have hw := cW_ok hw
      exact hK0 _ hw

abbrev N_Settings___init__ : List Str := ["self", "fmt", "slots", "rows", "deblock", "offset", "layers"]
theorem sc_Settings___init__ : FnScope N_Settings___init__ ["self", "fmt", "slots", "rows", "deblock", "offset", "layers"] (defScope s_Settings___init__) := ⟨rfl, rfl, rfl, by decide +kernel, rfl, by decide +kernel, by decide +kernel⟩
theorem ok_Settings___init__ (D : InitX K mg AD.c_Settings "Settings" "Settings.__init__" s_Settings___init__ ["self", "fmt", "slots", "rows", "deblock", "offset", "layers"] pats_Settings___init__) (T : Txt w K mg AD) (c__require : CalX P w K mg base 1 "_require" (sp__require K AD) pats__require) : MakX P w K mg base 2 "Settings" AD.c_Settings (sp_Settings___init__ K AD) pats_Settings___init__ := by
  refine D.ok sc_Settings___init__ (fun vs H Q E h => ?_) (fun f cdv A_ outer s H vs Q E hr h => ?_)
  · obtain ⟨G, p_self, dx_self, p_fmt, dx_fmt, fmt', slots', rows', deblock', offset', layers', rfl, _⟩ := h
    rfl
  · obtain ⟨G, p_self, dx_self, p_fmt, dx_fmt, fmt', slots', rows', deblock', offset', layers', rfl, sG, gM, h_self, h_p_fmt, hw⟩ := h
    refine ⟨_, (pss_cons (ps_expr (vx_callX c__require pat__require_0 (.head _) hr (by decide) (takes_of rfl rfl rfl rfl) rfl (pa_cons (pe_chain op_le op_le pe_int (pv 2) pe_int) (pa_cons pe_str pa_nil)) pk_nil))
      (pss_cons (ps_expr (vx_callX c__require pat__require_0 (.head _) hr (by decide) (takes_of rfl rfl rfl rfl) rfl (pa_cons (pe_chain op_le op_le pe_int (pv 3) pe_int) (pa_cons pe_str pa_nil)) pk_nil))
      (pss_cons (ps_expr (vx_callX c__require pat__require_0 (.head _) hr (by decide) (takes_of rfl rfl rfl rfl) rfl (pa_cons (pe_chain op_le op_le pe_int (pv 6) pe_int) (pa_cons pe_str pa_nil)) pk_nil))
      (pss_cons (ps_fld (pv 0) (pv 1) rfl)
      (pss_cons (ps_fld (pv 0) (pv 2) rfl)
      (pss_cons (ps_fld (pv 0) (pv 3) rfl)
      (pss_cons (ps_fld (pv 0) (pv 4) rfl)
      (pss_cons (ps_fld (pv 0) (pv 5) rfl)
      (pss_one (ps_fld (pv 0) (pv 6) rfl)))))))))), ?_⟩
    obtain ⟨KK, EE, hK0, hE, hw⟩ := cW_gen hw
    have S0 := Sep.startM (M := [p_self]) sG (all_cons (some_ne h_self) all_nil) gM
    unfold F_Settings___init__ at hw
    refine vv_chain (ta := (tC (V.int 1))) (tb := (tVar 2)) (tc := (tC (V.int 4))) (r := (rI0 fun i j => V.bl (decide (i ≤ j)))) (r' := (rI0 fun i j => V.bl (decide (i ≤ j)))) (x := V.int (1)) (y := V.int (slots')) (z := V.int (4)) (a := decide (1 ≤ slots')) (b := decide (slots' ≤ 4)) ?hx161 ?hy162 ?hz163 (fun Q q => ⟨_, _, rfl, rfl, q⟩) (fun Q q => ⟨_, _, rfl, rfl, q⟩) _ ?_
    case hx161 => exact val_c
    case hy162 => exact (val_var rfl)
    case hz163 => exact val_c
    refine ⟨rfl, rfl, G, _, _, rfl, S0.sG, cW_call hw (fun v164 hw => ?_) (fun e he => hE e he _ (sameX_of S0.base))⟩
    refine vv_chain (ta := (tC (V.int 1))) (tb := (tVar 3)) (tc := (tC (V.int 32))) (r := (rI0 fun i j => V.bl (decide (i ≤ j)))) (r' := (rI0 fun i j => V.bl (decide (i ≤ j)))) (x := V.int (1)) (y := V.int (rows')) (z := V.int (32)) (a := decide (1 ≤ rows')) (b := decide (rows' ≤ 32)) ?hx165 ?hy166 ?hz167 (fun Q q => ⟨_, _, rfl, rfl, q⟩) (fun Q q => ⟨_, _, rfl, rfl, q⟩) _ ?_
    case hx165 => exact val_c
    case hy166 => exact (val_var rfl)
    case hz167 => exact val_c
    refine ⟨rfl, rfl, G, _, _, rfl, S0.sG, cW_call hw (fun v168 hw => ?_) (fun e he => hE e he _ (sameX_of S0.base))⟩
    refine vv_chain (ta := (tC (V.int 1))) (tb := (tVar 6)) (tc := (tC (V.int 4))) (r := (rI0 fun i j => V.bl (decide (i ≤ j)))) (r' := (rI0 fun i j => V.bl (decide (i ≤ j)))) (x := V.int (1)) (y := V.int (layers')) (z := V.int (4)) (a := decide (1 ≤ layers')) (b := decide (layers' ≤ 4)) ?hx169 ?hy170 ?hz171 (fun Q q => ⟨_, _, rfl, rfl, q⟩) (fun Q q => ⟨_, _, rfl, rfl, q⟩) _ ?_
    case hx169 => exact val_c
    case hy170 => exact (val_var rfl)
    case hz171 => exact val_c
    refine ⟨rfl, rfl, G, _, _, rfl, S0.sG, cW_call hw (fun v172 hw => ?_) (fun e he => hE e he _ (sameX_of S0.base))⟩
    refine ⟨_, rfl, _, rfl, _, _, _, _, rfl, h_self, T.cl_Settings, T.n_Settings_fmt, (by show 0 < 1000; decide), ?_⟩
    generalize g173 : upd H p_self _ = H174
    obtain ⟨x175, h176⟩ := gen_mut g173
    have h177 : H174 p_self = some (.ins AD.c_Settings dx_self [("fmt", V.ref p_fmt)]) := h176
    have S178 := S0.mut1 x175 (.head _) h177
    refine ⟨_, rfl, _, rfl, _, _, _, _, rfl, h177, T.cl_Settings, T.n_Settings_slots, (by show 1 < 1000; decide), ?_⟩
    generalize g179 : upd H174 p_self _ = H180
    obtain ⟨x181, h182⟩ := gen_mut g179
    have h183 : H180 p_self = some (.ins AD.c_Settings dx_self [("fmt", V.ref p_fmt), ("slots", V.int (slots'))]) := h182
    have S184 := S178.mut1 x181 (.head _) h183
    refine ⟨_, rfl, _, rfl, _, _, _, _, rfl, h183, T.cl_Settings, T.n_Settings_rows, (by show 2 < 1000; decide), ?_⟩
    generalize g185 : upd H180 p_self _ = H186
    obtain ⟨x187, h188⟩ := gen_mut g185
    have h189 : H186 p_self = some (.ins AD.c_Settings dx_self [("fmt", V.ref p_fmt), ("slots", V.int (slots')), ("rows", V.int (rows'))]) := h188
    have S190 := S184.mut1 x187 (.head _) h189
    refine ⟨_, rfl, _, rfl, _, _, _, _, rfl, h189, T.cl_Settings, T.n_Settings_deblock, (by show 3 < 1000; decide), ?_⟩
    generalize g191 : upd H186 p_self _ = H192
    obtain ⟨x193, h194⟩ := gen_mut g191
    have h195 : H192 p_self = some (.ins AD.c_Settings dx_self [("fmt", V.ref p_fmt), ("slots", V.int (slots')), ("rows", V.int (rows')), ("deblock", V.bl (deblock'))]) := h194
    have S196 := S190.mut1 x193 (.head _) h195
    refine ⟨_, rfl, _, rfl, _, _, _, _, rfl, h195, T.cl_Settings, T.n_Settings_offset, (by show 4 < 1000; decide), ?_⟩
    generalize g197 : upd H192 p_self _ = H198
    obtain ⟨x199, h200⟩ := gen_mut g197
    have h201 : H198 p_self = some (.ins AD.c_Settings dx_self [("fmt", V.ref p_fmt), ("slots", V.int (slots')), ("rows", V.int (rows')), ("deblock", V.bl (deblock')), ("offset", V.bl (offset'))]) := h200
    have S202 := S196.mut1 x199 (.head _) h201
    refine ⟨_, rfl, _, rfl, _, _, _, _, rfl, h201, T.cl_Settings, T.n_Settings_layers, (by show 5 < 1000; decide), ?_⟩
    generalize g203 : upd H198 p_self _ = H204
    obtain ⟨x205, h206⟩ := gen_mut g203
    have h207 : H204 p_self = some (.ins AD.c_Settings dx_self [("fmt", V.ref p_fmt), ("slots", V.int (slots')), ("rows", V.int (rows')), ("deblock", V.bl (deblock')), ("offset", V.bl (offset')), ("layers", V.int (layers'))]) := h206
    have S208 := S202.mut1 x205 (.head _) h207
    have hw := cW_ok hw
    exact hK0 _ hw _ (sameX_of S208.base) h207

abbrev N__law_settings : List Str := ["n", "fmt"]
theorem sc__law_settings : FnScope N__law_settings ["n"] (defScope s__law_settings) := ⟨rfl, rfl, rfl, by decide +kernel, rfl, by decide +kernel, by decide +kernel⟩
theorem ok__law_settings (D : DefX K mg "_law_settings" s__law_settings ["n"] pats__law_settings) (T : Txt w K mg AD) (c_Format___init__ : MakX P w K mg base 1 "Format" AD.c_Format (sp_Format___init__ K AD) pats_Format___init__) (c_Settings___init__ : MakX P w K mg base 2 "Settings" AD.c_Settings (sp_Settings___init__ K AD) pats_Settings___init__) : CalX P w K mg base 4 "_law_settings" (sp__law_settings K AD) pats__law_settings := by
  refine D.ok sc__law_settings (fun vs H Q E h => ?_) (fun f cdv A_ outer s H vs Q E hr h => ?_)
  · obtain ⟨G, a_n, n', rfl, _⟩ := h
    rfl
  · obtain ⟨G, a_n, n', rfl, sG, q_n, hw⟩ := h
    refine ⟨_, (pss_cons (ps_set (i := 1) sc__law_settings.nd rfl (Or.inl rfl) (vx_makeX c_Format___init__ pat_Format___init___0 (.head _) hr (by decide) (takes_of rfl rfl rfl rfl) rfl (pa_cons (pe_ix (ix_listK (K := K)) (pv 0) pe_int (fun _ _ => rfl)) (pa_cons (pe_ix (ix_listK (K := K)) (pv 0) pe_int (fun _ _ => rfl)) pa_nil)) (pk_cons (pe_ix (ix_listK (K := K)) (pv 0) pe_int (fun _ _ => rfl)) (pk_cons (pe_ix (ix_listK (K := K)) (pv 0) pe_int (fun _ _ => rfl)) pk_nil))))
      (pss_one (ps_ret (vx_makeX c_Settings___init__ pat_Settings___init___0 (.head _) hr (by decide) (takes_of rfl rfl rfl rfl) rfl (pa_cons (pv 1) pa_nil) (pk_cons (pe_ix (ix_listK (K := K)) (pv 0) pe_int (fun _ _ => rfl)) (pk_cons (pe_ix (ix_listK (K := K)) (pv 0) pe_int (fun _ _ => rfl)) (pk_cons (pe_cmp (pc_eqI (pe_ix (ix_listK (K := K)) (pv 0) pe_int (fun _ _ => rfl)) pe_int)) (pk_cons (pe_cmp (pc_eqI (pe_ix (ix_listK (K := K)) (pv 0) pe_int (fun _ _ => rfl)) pe_int)) (pk_cons (pe_ix (ix_listK (K := K)) (pv 0) pe_int (fun _ _ => rfl)) pk_nil))))))))), ?_⟩
    obtain ⟨KK, EE, hK0, hE, hw⟩ := cW_gen hw
    have S0 := Sep.startG sG
    unfold F__law_settings at hw
    obtain ⟨g209, hw⟩ := cW_grd hw
    obtain ⟨g210, hw⟩ := cW_grd hw
    obtain ⟨g211, hw⟩ := cW_grd hw
    obtain ⟨g212, hw⟩ := cW_grd hw
    refine ⟨_, rfl, _, _, _, _, rfl, rfl, (SqL.of (S0.bM _ _ q_n)), (atI_map g209), _, rfl, _, _, _, _, rfl, rfl, (SqL.of (S0.bM _ _ q_n)), (atI_map g210), _, rfl, _, _, _, _, rfl, rfl, (SqL.of (S0.bM _ _ q_n)), (atI_map g211), _, rfl, _, _, _, _, rfl, rfl, (SqL.of (S0.bM _ _ q_n)), (atI_map g212), rfl, rfl, fun x213 dx214 n215 n216 n217 => ?_⟩
    generalize g218 : upd (upd H dx214 _) x213 _ = H219
    obtain ⟨e220, h221⟩ := gen_obj n215 n216 n217 g218
    have fr222 := S0.free n215
    have S223 := S0.new n215 e220 h221 fr222
    refine ⟨G, _, _, _, _, _, _, rfl, S223.sG, (S223.gno (all_cons (.head _) all_nil)), h221, cW_call hw (fun v224 hw H225 x226 h227 => ⟨rfl, ?_⟩) (fun e he H2 e2 => hE e he H2 (Same.trans S0.b0 (same_mut e220 e2 n215)))⟩
    have S228 : Sep _ _ _ _ H225 [x213] := Sep.init S223 x226 (.head _) h227 [] all_nil
    obtain ⟨g229, hw⟩ := cW_grd hw
    obtain ⟨g230, hw⟩ := cW_grd hw
    obtain ⟨g231, hw⟩ := cW_grd hw
    obtain ⟨g232, hw⟩ := cW_grd hw
    obtain ⟨g233, hw⟩ := cW_grd hw
    refine ⟨_, rfl, _, rfl, _, _, _, _, rfl, rfl, (SqL.of (S228.bM _ _ q_n)), (atI_map g229), _, rfl, _, _, _, _, rfl, rfl, (SqL.of (S228.bM _ _ q_n)), (atI_map g230), _, rfl, _, _, _, _, rfl, rfl, (SqL.of (S228.bM _ _ q_n)), (atI_map g231), _, _, rfl, rfl, _, rfl, _, _, _, _, rfl, rfl, (SqL.of (S228.bM _ _ q_n)), (atI_map g232), _, _, rfl, rfl, _, rfl, _, _, _, _, rfl, rfl, (SqL.of (S228.bM _ _ q_n)), (atI_map g233), rfl, rfl, fun x234 dx235 n236 n237 n238 => ?_⟩
    generalize g239 : upd (upd H225 dx235 _) x234 _ = H240
    obtain ⟨e241, h242⟩ := gen_obj n236 n237 n238 g239
    have fr243 := S228.free n236
    have S244 := S228.new n236 e241 h242 fr243
    have h245 := (e241 _ _ h227)
    refine ⟨G, _, _, _, _, v224, _, _, _, _, _, rfl, S244.sG, (S244.gno (all_cons (.head _) all_nil)), h242, ((hideL_out (ni1 (ne_of_none h227 n236))).trans h245), cW_call hw (fun v246 hw H247 x248 h249 => ⟨rfl, ?_⟩) (fun e he H2 e2 => hE e he H2 (Same.trans S228.b0 (same_mut e241 e2 n236)))⟩
    have S250 : Sep _ _ _ _ H247 [x234, x213] := Sep.init S244 x248 (.head _) h249 [] all_nil
    have h251 := ((SameXs.of x248) _ _ h245 (ni1 (ne_of_none h227 n236)))
    have hw := cW_ok hw
    exact hK0 _ hw _ _ _ _ _ S250.b0 fr243 fr222 (ne_of_none h227 n236).symm h249 h251

abbrev N_BitWriter___init__ : List Str := ["self"]
theorem sc_BitWriter___init__ : FnScope N_BitWriter___init__ ["self"] (defScope s_BitWriter___init__) := ⟨rfl, rfl, rfl, by decide +kernel, rfl, by decide +kernel, by decide +kernel⟩
theorem ok_BitWriter___init__ (D : InitX K mg AD.c_BitWriter "BitWriter" "BitWriter.__init__" s_BitWriter___init__ ["self"] pats_BitWriter___init__) (T : Txt w K mg AD)  : MakX P w K mg base 1 "BitWriter" AD.c_BitWriter (sp_BitWriter___init__ K AD) pats_BitWriter___init__ := by
  refine D.ok sc_BitWriter___init__ (fun vs H Q E h => ?_) (fun f cdv A_ outer s H vs Q E hr h => ?_)
  · obtain ⟨G, p_self, dx_self, rfl, _⟩ := h
    rfl
  · obtain ⟨G, p_self, dx_self, rfl, sG, gM, h_self, hw⟩ := h
    refine ⟨_, (pss_cons (ps_fld (pv 0) (pe_lst pa_nil) rfl)
      (pss_cons (ps_fld (pv 0) pe_int rfl)
      (pss_one (ps_fld (pv 0) pe_int rfl)))), ?_⟩
    obtain ⟨KK, EE, hK0, hE, hw⟩ := cW_gen hw
    have S0 := Sep.startM (M := [p_self]) sG (all_cons (some_ne h_self) all_nil) gM
    unfold F_BitWriter___init__ at hw
    refine ⟨(by show 0 ≤ sizeLine; decide), fun p252 n253 => ?_⟩
    generalize g254 : upd H p252 _ = H255
    obtain ⟨e256, h257⟩ := gen_new n253 g254
    have h258 : H255 p252 = some (.lst ((([] : (List Int)) : (List Int)).map V.int)) := h257
    have fr259 := S0.free n253
    have S260 := S0.new n253 e256 h258 fr259
    have h261 := (e256 _ _ h_self)
    refine ⟨_, rfl, _, _, _, _, rfl, h261, T.cl_BitWriter, T.n_BitWriter__full, (by show 0 < 1000; decide), ?_⟩
    generalize g262 : upd H255 p_self _ = H263
    obtain ⟨x264, h265⟩ := gen_mut g262
    have h266 : H263 p_self = some (.ins AD.c_BitWriter dx_self [("_full", V.ref p252)]) := h265
    have S267 := S260.mut1 x264 (.tail _ (.head _)) h266
    refine ⟨_, rfl, _, _, _, _, rfl, h266, T.cl_BitWriter, T.n_BitWriter__rest, (by show 1 < 1000; decide), ?_⟩
    generalize g268 : upd H263 p_self _ = H269
    obtain ⟨x270, h271⟩ := gen_mut g268
    have h272 : H269 p_self = some (.ins AD.c_BitWriter dx_self [("_full", V.ref p252), ("_rest", V.int (0))]) := h271
    have S273 := S267.mut1 x270 (.tail _ (.head _)) h272
    refine ⟨_, rfl, _, _, _, _, rfl, h272, T.cl_BitWriter, T.n_BitWriter__rest_bits, (by show 2 < 1000; decide), ?_⟩
    generalize g274 : upd H269 p_self _ = H275
    obtain ⟨x276, h277⟩ := gen_mut g274
    have h278 : H275 p_self = some (.ins AD.c_BitWriter dx_self [("_full", V.ref p252), ("_rest", V.int (0)), ("_rest_bits", V.int (0))]) := h277
    have S279 := S273.mut1 x276 (.tail _ (.head _)) h278
    have h280 := (x276 _ _ (x270 _ _ (x264 _ _ h258 (ne_of_none h_self n253).symm) (ne_of_none h_self n253).symm) (ne_of_none h_self n253).symm)
    have hw := cW_ok hw
    exact hK0 _ hw _ _ (sameX_of S279.base) fr259 h278 h280

abbrev N_BitWriter__add : List Str := ["self", "value", "count", "rest", "left"]
theorem sc_BitWriter__add : FnScope N_BitWriter__add ["self", "value", "count"] (defScope s_BitWriter__add) := ⟨rfl, rfl, rfl, by decide +kernel, rfl, by decide +kernel, by decide +kernel⟩
theorem ok_BitWriter__add (D : MethX K AD.c_BitWriter "BitWriter._add" "_add" s_BitWriter__add ["self", "value", "count"] pats_BitWriter__add) (T : Txt w K mg AD)  : MetX P w K mg base 1 AD.c_BitWriter "_add" (sp_BitWriter__add K AD) pats_BitWriter__add := by
  refine D.ok T.cl_BitWriter sc_BitWriter__add (fun vs H Q E h => ?_) (fun f cdv A_ outer s H vs Q E hr h => ?_)
  · obtain ⟨G, p_self, l_self_full, dx_self, self', value', count', rfl, _⟩ := h
    rfl
  · obtain ⟨G, p_self, l_self_full, dx_self, self', value', count', rfl, sG, gM, h_p_self, h_l_self_full, hw⟩ := h
    refine ⟨_, (pss_cons (ps_set (i := 3) sc_BitWriter__add.nd rfl (Or.inl rfl) (pe_op op_or (pe_op op_shlW (fldK (K := K) (pv 0)) (pv 2)) (pv 1)))
      (pss_cons (ps_set (i := 4) sc_BitWriter__add.nd rfl (Or.inl rfl) (pe_op op_add (fldK (K := K) (pv 0)) (pv 2)))
      (pss_cons (ps_while (passes_of rfl) (pt_cmp (pc_ge (pv 4) pe_int)) (pss_cons (ps_aug (i := 4) sc_BitWriter__add.nd rfl (Or.inl rfl) pe_int (pip iop_sub))
      (pss_cons (ps_expr (pe_bm PySem.F.plainAttrs_list PySem.F.slot_list_append PySem.F.type_list_append mt_append (fldK (K := K) (pv 0)) (pa_cons (pe_op op_shr (pv 3) (pv 4)) pa_nil)))
      (pss_one (ps_aug (i := 3) sc_BitWriter__add.nd rfl (Or.inl rfl) (pe_op op_sub (pe_op op_shlW pe_int (pv 4)) pe_int) (pip iop_and))))))
      (pss_cons (ps_fld (pv 0) (pv 3) rfl)
      (pss_one (ps_fld (pv 0) (pv 4) rfl)))))), ?_⟩
    obtain ⟨KK, EE, hK0, hE, hw⟩ := cW_gen hw
    have S0 := Sep.startM (M := [p_self, l_self_full]) sG (all_cons (some_ne h_p_self) (all_cons (some_ne h_l_self_full) all_nil)) gM
    unfold F_BitWriter__add at hw
    obtain ⟨g281, hw⟩ := cW_grd hw
    refine ⟨_, rfl, _, _, _, _, _, rfl, h_p_self, T.cl_BitWriter, T.n_BitWriter__rest, rfl, _, rfl, _, _, rfl, rfl, (shl_side g281.1 g281.2.1 g281.2.2.1 g281.2.2.2), _, rfl, _, _, rfl, rfl, ?_⟩
    have hw := cW_bnd hw
    refine ⟨_, rfl, _, _, _, _, _, rfl, h_p_self, T.cl_BitWriter, T.n_BitWriter__rest_bits, rfl, _, rfl, _, _, rfl, rfl, ?_⟩
    have hw := cW_bnd hw
    obtain ⟨K284, hK285, hw⟩ := cW_push hw
    refine ⟨fun m σ H' => ∃ (self_286 : St_BitWriter) (rest_287 : Int) (left_288 : Int) (G' : Hp), σ = [some (V.ref p_self), some (V.int (value')), some (V.int (count')), some (V.int rest_287), some (V.int left_288)] ∧ Same G G' ∧ Sep [p_self, l_self_full] H G G' H' [p_self, l_self_full] ∧ H' p_self = some (.ins AD.c_BitWriter dx_self [("_full", V.ref l_self_full), ("_rest", V.int (self_286.rest)), ("_rest_bits", V.int (self_286.bits))]) ∧ H' l_self_full = some (.lst ((self_286.full : (List Int)).map V.int)) ∧ cW (whileR m (self_286, rest_287, left_288) (fun s => F_BitWriter__add_b1  (s.1) (s.2.1) (s.2.2))) K284 EE, ?_, ?_⟩
    · exact ⟨_, ⟨(self'), ((PySem.Builtin.bitOr ((self'.rest * 2 ^ Int.toNat (count'))) (value'))), ((self'.bits + count')), _, rfl, (Same.refl _), S0, h_p_self, h_l_self_full, hw⟩⟩
    · intro m σ H289 hw
      obtain ⟨self_286, rest_287, left_288, G293, rfl, eG294, S290, h291, h292, hw⟩ := hw
      obtain ⟨m295, rfl, hw2⟩ := cW_whileR hw
      have hw := hw2
      have hw : cW (F_BitWriter__add_b1  (self_286) (rest_287) (left_288)) _ EE := hw
      unfold F_BitWriter__add_b1 at hw
      obtain ⟨K299, hK300, hw⟩ := cW_name hw
      refine ⟨_, rfl, _, _, rfl, rfl, _, rfl, ?_⟩
      refine iteD (fun c301 => ?_) (fun c301 => ?_)
      · have hw := cW_pos c301 hw
        refine ⟨(fun σ H' => ∃ m, (∃ (self_286 : St_BitWriter) (rest_287 : Int) (left_288 : Int) (G' : Hp), σ = [some (V.ref p_self), some (V.int (value')), some (V.int (count')), some (V.int rest_287), some (V.int left_288)] ∧ Same G G' ∧ Sep [p_self, l_self_full] H G G' H' [p_self, l_self_full] ∧ H' p_self = some (.ins AD.c_BitWriter dx_self [("_full", V.ref l_self_full), ("_rest", V.int (self_286.rest)), ("_rest_bits", V.int (self_286.bits))]) ∧ H' l_self_full = some (.lst ((self_286.full : (List Int)).map V.int)) ∧ cW (whileR m (self_286, rest_287, left_288) (fun s => F_BitWriter__add_b1  (s.1) (s.2.1) (s.2.2))) K284 EE) ∧ m < m295 + 1), (fun _ _ ⟨m', a, b⟩ => ⟨m', b, a⟩), ?_⟩
        refine ⟨_, rfl, _, _, rfl, rfl, ?_⟩
        have hw := cW_bnd hw
        obtain ⟨g303, hw⟩ := cW_grd hw
        obtain ⟨g304, hw⟩ := cW_grd hw
        refine ⟨_, rfl, _, _, _, _, _, rfl, h291, T.cl_BitWriter, T.n_BitWriter__full, rfl, (.inl ⟨rfl, _, SqL.of h292⟩), _, rfl, _, rfl, _, _, rfl, rfl, g303, _, _, _, rfl, rfl, h292, (app_lenM g304), ?_⟩
        generalize g305 : upd H289 l_self_full _ = H306
        obtain ⟨x307, h308⟩ := gen_mut g305
        have h309 : H306 l_self_full = some (.lst (((self_286.full) ++ [(rest_287 / 2 ^ Int.toNat ((left_288 - 8)))] : (List Int)).map V.int)) := snoc_map h308
        have S310 := S290.mut1 x307 (.tail _ (.head _)) h309
        have hw := cW_bnd hw
        obtain ⟨g312, hw⟩ := cW_grd hw
        refine ⟨_, rfl, _, rfl, _, _, rfl, rfl, (shl_side g312.1 g312.2.1 g312.2.2.1 g312.2.2.2), _, _, rfl, rfl, _, _, rfl, rfl, ?_⟩
        have hw := cW_bnd hw
        have hw := cW_ok hw
        have hw := hK300 _ hw
        have h314 := (x307 _ _ h291 (ne_of h291 h292 (fun z => nomatch z)))
        exact ⟨m295, ⟨((⟨(self_286.full) ++ [(rest_287 / 2 ^ Int.toNat ((left_288 - 8)))], self_286.rest, self_286.bits⟩ : St_BitWriter)), ((PySem.Builtin.bitAnd (rest_287) (((1 * 2 ^ Int.toNat ((left_288 - 8))) - 1)))), ((left_288 - 8)), _, rfl, eG294, S310, h314, h309, hw⟩, Nat.lt_succ_self _⟩
      · have hw := cW_neg c301 hw
        have hw := cW_ok hw
        have hw := hK300 _ hw
        have hw := cW_aftgo (hK285 (.go _) hw)
        have hw : cW (F_BitWriter__add_r1  (self_286) (rest_287) (left_288)) _ EE := hw
        unfold F_BitWriter__add_r1 at hw
        refine ⟨_, rfl, _, rfl, _, _, _, _, rfl, h291, T.cl_BitWriter, T.n_BitWriter__rest, (by show 3 < 1000; decide), ?_⟩
        generalize g318 : upd H289 p_self _ = H319
        obtain ⟨x320, h321⟩ := gen_mut g318
        have h322 : H319 p_self = some (.ins AD.c_BitWriter dx_self [("_full", V.ref l_self_full), ("_rest", V.int (rest_287)), ("_rest_bits", V.int (self_286.bits))]) := h321
        have S323 := S290.mut1 x320 (.head _) h322
        refine ⟨_, rfl, _, rfl, _, _, _, _, rfl, h322, T.cl_BitWriter, T.n_BitWriter__rest_bits, (by show 3 < 1000; decide), ?_⟩
        generalize g324 : upd H319 p_self _ = H325
        obtain ⟨x326, h327⟩ := gen_mut g324
        have h328 : H325 p_self = some (.ins AD.c_BitWriter dx_self [("_full", V.ref l_self_full), ("_rest", V.int (rest_287)), ("_rest_bits", V.int (left_288))]) := h327
        have S329 := S323.mut1 x326 (.head _) h328
        have h330 := (x326 _ _ (x320 _ _ h292 (ne_of h292 h291 (fun z => nomatch z))) (ne_of h292 h291 (fun z => nomatch z)))
        have hw := cW_ok hw
        exact hK0 _ hw _ S329.base h328 h330

abbrev N_BitWriter_put : List Str := ["self", "value", "count"]
theorem sc_BitWriter_put : FnScope N_BitWriter_put ["self", "value", "count"] (defScope s_BitWriter_put) := ⟨rfl, rfl, rfl, by decide +kernel, rfl, by decide +kernel, by decide +kernel⟩
theorem ok_BitWriter_put (D : MethX K AD.c_BitWriter "BitWriter.put" "put" s_BitWriter_put ["self", "value", "count"] pats_BitWriter_put) (T : Txt w K mg AD) (c_BitWriter__add : MetX P w K mg base 1 AD.c_BitWriter "_add" (sp_BitWriter__add K AD) pats_BitWriter__add) : MetX P w K mg base 2 AD.c_BitWriter "put" (sp_BitWriter_put K AD) pats_BitWriter_put := by
  refine D.ok T.cl_BitWriter sc_BitWriter_put (fun vs H Q E h => ?_) (fun f cdv A_ outer s H vs Q E hr h => ?_)
  · obtain ⟨G, p_self, l_self_full, dx_self, self', value', count', rfl, _⟩ := h
    rfl
  · obtain ⟨G, p_self, l_self_full, dx_self, self', value', count', rfl, sG, gM, h_p_self, h_l_self_full, hw⟩ := h
    refine ⟨_, (pss_cons (ps_if (pt_not (pt_chain op_le op_le pe_int (pv 2) (C8.pe_gc rfl T.g_MOST_BITS))) (pss_one (ps_raise rfl (takes_of rfl rfl rfl rfl) (pmk_own PySem.F.excBase_ValueError T.xx_OutOfRange T.xg_OutOfRange T.xk_OutOfRange (raises_own T.xb_OutOfRange T.xt_OutOfRange) rfl))) pss_nil)
      (pss_cons (ps_if (pt_not (pt_chain op_le op_lt pe_int (pv 1) (pe_op op_shlW pe_int (pv 2)))) (pss_one (ps_raise rfl (takes_of rfl rfl rfl rfl) (pmk_own PySem.F.excBase_ValueError T.xx_OutOfRange T.xg_OutOfRange T.xk_OutOfRange (raises_own T.xb_OutOfRange T.xt_OutOfRange) rfl))) pss_nil)
      (pss_one (ps_expr (vx_methX c_BitWriter__add pat_BitWriter__add_0 (.head _) hr (by decide) (takes_of rfl rfl rfl rfl) (pv 0) (pa_cons (pv 1) (pa_cons (pv 2) pa_nil)) pk_nil))))), ?_⟩
    obtain ⟨KK, EE, hK0, hE, hw⟩ := cW_gen hw
    have S0 := Sep.startM (M := [p_self, l_self_full]) sG (all_cons (some_ne h_p_self) (all_cons (some_ne h_l_self_full) all_nil)) gM
    unfold F_BitWriter_put at hw
    refine ⟨_, rfl, _, _, rfl, rfl, _, rfl, ?_⟩
    refine iteD (fun c331 => ?_) (fun c331 => ?_)
    · have hw := cW_pos c331 hw
      refine ⟨_, _, rfl, rfl, _, rfl, ?_⟩
      refine iteN (fun c332 => ?_) (fun c332 => ?_)
      · have hw := cW_neg c332 hw
        exact hE 2 (cW_er hw) _ (Same.refl _)
      · have hw := cW_pos c332 hw
        refine ⟨_, rfl, _, _, rfl, rfl, _, rfl, ?_⟩
        refine iteD (fun c333 => ?_) (fun c333 => ?_)
        · have hw := cW_pos c333 hw
          obtain ⟨g334, hw⟩ := cW_grd hw
          refine ⟨_, rfl, _, _, rfl, rfl, (shl_side g334.1 g334.2.1 g334.2.2.1 g334.2.2.2), _, _, rfl, rfl, _, rfl, ?_⟩
          refine iteN (fun c335 => ?_) (fun c335 => ?_)
          · have hw := cW_neg c335 hw
            exact hE 2 (cW_er hw) _ (Same.refl _)
          · have hw := cW_pos c335 hw
            refine ⟨_, rfl, _, _, _, rfl, h_p_self, rfl, _, rfl, _, rfl, rfl, rfl, G, _, _, _, self', _, _, rfl, S0.sG, (S0.gno (all_cons (.head _) (all_cons (.tail _ (.head _)) all_nil))), h_p_self, h_l_self_full, cW_call hw (fun v336 hw H337 x338 h340 h341  => ?_) (fun e he H2 e2 => hE e he H2 (Same.trans (Same.refl _) e2))⟩
            have S339 := S0.mut x338 (all_cons (.head _) (all_cons (.tail _ (.head _)) all_nil)) (all_cons (some_ne h340) (all_cons (some_ne h341) all_nil))
            have hw := cW_ok hw
            exact hK0 _ hw _ S339.base h340 h341
        · have hw := cW_neg c333 hw
          refine ⟨_, rfl, ?_⟩
          refine iteT ?_
          exact hE 2 (cW_er hw) _ (Same.refl _)
    · have hw := cW_neg c331 hw
      refine ⟨_, rfl, ?_⟩
      refine iteT ?_
      exact hE 2 (cW_er hw) _ (Same.refl _)

abbrev N__put_switch : List Str := ["writer", "switch"]
theorem sc__put_switch : FnScope N__put_switch ["writer", "switch"] (defScope s__put_switch) := ⟨rfl, rfl, rfl, by decide +kernel, rfl, by decide +kernel, by decide +kernel⟩
theorem ok__put_switch (D : DefX K mg "_put_switch" s__put_switch ["writer", "switch"] pats__put_switch) (T : Txt w K mg AD) (c_BitWriter_put : MetX P w K mg base 2 AD.c_BitWriter "put" (sp_BitWriter_put K AD) pats_BitWriter_put) : CalX P w K mg base 3 "_put_switch" (sp__put_switch K AD) pats__put_switch := by
  refine D.ok sc__put_switch (fun vs H Q E h => ?_) (fun f cdv A_ outer s H vs Q E hr h => ?_)
  · obtain ⟨G, p_writer, l_writer_full, dx_writer, writer', switch', rfl, _⟩ := h
    rfl
  · obtain ⟨G, p_writer, l_writer_full, dx_writer, writer', switch', rfl, sG, gM, h_p_writer, h_l_writer_full, hw⟩ := h
    refine ⟨_, (pss_one (ps_expr (vx_methX c_BitWriter_put pat_BitWriter_put_0 (.head _) hr (by decide) (takes_of rfl rfl rfl rfl) (pv 0) (pa_cons (pe_ifExp (pt_val (pv 1)) pe_int pe_int) (pa_cons pe_int pa_nil)) pk_nil))), ?_⟩
    obtain ⟨KK, EE, hK0, hE, hw⟩ := cW_gen hw
    have S0 := Sep.startM (M := [p_writer, l_writer_full]) sG (all_cons (some_ne h_p_writer) (all_cons (some_ne h_l_writer_full) all_nil)) gM
    unfold F__put_switch at hw
    refine ⟨_, rfl, _, _, _, rfl, h_p_writer, rfl, ?_⟩
    refine vv_ifb (vt_val (val_var rfl)) val_c val_c _ ?_
    refine ⟨rfl, rfl, G, _, _, _, writer', _, _, rfl, S0.sG, (S0.gno (all_cons (.head _) (all_cons (.tail _ (.head _)) all_nil))), h_p_writer, h_l_writer_full, cW_call hw (fun v349 hw H350 x351 h353 h354  => ?_) (fun e he H2 e2 => hE e he H2 (Same.trans (Same.refl _) e2))⟩
    have S352 := S0.mut x351 (all_cons (.head _) (all_cons (.tail _ (.head _)) all_nil)) (all_cons (some_ne h353) (all_cons (some_ne h354) all_nil))
    have hw := cW_ok hw
    exact hK0 _ hw _ S352.base h353 h354

abbrev N_BitWriter_put_ue : List Str := ["self", "value", "digits"]
theorem sc_BitWriter_put_ue : FnScope N_BitWriter_put_ue ["self", "value"] (defScope s_BitWriter_put_ue) := ⟨rfl, rfl, rfl, by decide +kernel, rfl, by decide +kernel, by decide +kernel⟩
theorem ok_BitWriter_put_ue (D : MethX K AD.c_BitWriter "BitWriter.put_ue" "put_ue" s_BitWriter_put_ue ["self", "value"] pats_BitWriter_put_ue) (T : Txt w K mg AD) (c_BitWriter__add : MetX P w K mg base 1 AD.c_BitWriter "_add" (sp_BitWriter__add K AD) pats_BitWriter__add) : MetX P w K mg base 2 AD.c_BitWriter "put_ue" (sp_BitWriter_put_ue K AD) pats_BitWriter_put_ue := by
  refine D.ok T.cl_BitWriter sc_BitWriter_put_ue (fun vs H Q E h => ?_) (fun f cdv A_ outer s H vs Q E hr h => ?_)
  · obtain ⟨G, p_self, l_self_full, dx_self, self', value', rfl, _⟩ := h
    rfl
  · obtain ⟨G, p_self, l_self_full, dx_self, self', value', rfl, sG, gM, h_p_self, h_l_self_full, hw⟩ := h
    refine ⟨_, (pss_cons (ps_if (pt_not (pt_chain op_le op_le pe_int (pv 1) (pe_op op_pow pe_int pe_int))) (pss_one (ps_raise rfl (takes_of rfl rfl rfl rfl) (pmk_own PySem.F.excBase_ValueError T.xx_OutOfRange T.xg_OutOfRange T.xk_OutOfRange (raises_own T.xb_OutOfRange T.xt_OutOfRange) rfl))) pss_nil)
      (pss_cons (ps_set (i := 2) sc_BitWriter_put_ue.nd rfl (Or.inl rfl) (pe_bits (pe_op op_add (pv 1) pe_int)))
      (pss_one (ps_expr (vx_methX c_BitWriter__add pat_BitWriter__add_0 (.head _) hr (by decide) (takes_of rfl rfl rfl rfl) (pv 0) (pa_cons (pe_op op_add (pv 1) pe_int) (pa_cons (pe_op op_sub (pe_op op_mul pe_int (pv 2)) pe_int) pa_nil)) pk_nil))))), ?_⟩
    obtain ⟨KK, EE, hK0, hE, hw⟩ := cW_gen hw
    have S0 := Sep.startM (M := [p_self, l_self_full]) sG (all_cons (some_ne h_p_self) (all_cons (some_ne h_l_self_full) all_nil)) gM
    unfold F_BitWriter_put_ue at hw
    refine ⟨_, rfl, _, _, rfl, rfl, _, rfl, ?_⟩
    refine iteD (fun c359 => ?_) (fun c359 => ?_)
    · have hw := cW_pos c359 hw
      refine ⟨_, _, rfl, rfl, ⟨by decide, by decide, by decide⟩, _, _, rfl, rfl, _, rfl, ?_⟩
      refine iteN (fun c360 => ?_) (fun c360 => ?_)
      · have hw := cW_neg c360 hw
        exact hE 2 (cW_er hw) _ (Same.refl _)
      · have hw := cW_pos c360 hw
        refine ⟨_, rfl, _, _, rfl, rfl, _, rfl, ?_⟩
        have hw := cW_bnd hw
        refine ⟨_, rfl, _, _, _, rfl, h_p_self, rfl, _, rfl, _, _, rfl, rfl, _, rfl, _, _, rfl, rfl, (.inl ⟨by decide, by decide⟩), _, _, rfl, rfl, rfl, rfl, G, _, _, _, self', _, _, rfl, S0.sG, (S0.gno (all_cons (.head _) (all_cons (.tail _ (.head _)) all_nil))), h_p_self, h_l_self_full, cW_call hw (fun v362 hw H363 x364 h366 h367  => ?_) (fun e he H2 e2 => hE e he H2 (Same.trans (Same.refl _) e2))⟩
        have S365 := S0.mut x364 (all_cons (.head _) (all_cons (.tail _ (.head _)) all_nil)) (all_cons (some_ne h366) (all_cons (some_ne h367) all_nil))
        have hw := cW_ok hw
        exact hK0 _ hw _ S365.base h366 h367
    · have hw := cW_neg c359 hw
      refine ⟨_, rfl, ?_⟩
      refine iteT ?_
      exact hE 2 (cW_er hw) _ (Same.refl _)

abbrev N_BitWriter_octets : List Str := ["self", "free"]
theorem sc_BitWriter_octets : FnScope N_BitWriter_octets ["self"] (defScope s_BitWriter_octets) := ⟨rfl, rfl, rfl, by decide +kernel, rfl, by decide +kernel, by decide +kernel⟩
theorem ok_BitWriter_octets (D : MethX K AD.c_BitWriter "BitWriter.octets" "octets" s_BitWriter_octets ["self"] pats_BitWriter_octets) (T : Txt w K mg AD)  : MetX P w K mg base 1 AD.c_BitWriter "octets" (sp_BitWriter_octets K AD) pats_BitWriter_octets := by
  refine D.ok T.cl_BitWriter sc_BitWriter_octets (fun vs H Q E h => ?_) (fun f cdv A_ outer s H vs Q E hr h => ?_)
  · obtain ⟨G, p_self, l_self_full, dx_self, self', rfl, _⟩ := h
    rfl
  · obtain ⟨G, p_self, l_self_full, dx_self, self', rfl, sG, h_p_self, h_l_self_full, hw⟩ := h
    refine ⟨_, (pss_cons (ps_set (i := 1) sc_BitWriter_octets.nd rfl (Or.inl rfl) (pe_op op_sub pe_int (fldK (K := K) (pv 0))))
      (pss_one (ps_ret (pe_op op_cat (fldK (K := K) (pv 0)) (pe_lst (pa_cons (pe_op op_shlW (pe_op op_add (pe_op op_mul pe_int (fldK (K := K) (pv 0))) pe_int) (pv 1)) pa_nil)))))), ?_⟩
    obtain ⟨KK, EE, hK0, hE, hw⟩ := cW_gen hw
    have S0 := Sep.startG sG
    unfold F_BitWriter_octets at hw
    refine ⟨_, rfl, _, _, _, _, _, rfl, (S0.bM _ _ h_p_self), T.cl_BitWriter, T.n_BitWriter__rest_bits, rfl, _, _, rfl, rfl, ?_⟩
    have hw := cW_bnd hw
    obtain ⟨g373, hw⟩ := cW_grd hw
    refine ⟨_, rfl, _, _, _, _, _, rfl, (S0.bM _ _ h_p_self), T.cl_BitWriter, T.n_BitWriter__full, rfl, _, rfl, _, _, _, _, _, rfl, (S0.bM _ _ h_p_self), T.cl_BitWriter, T.n_BitWriter__rest, rfl, _, _, rfl, rfl, (.inl ⟨by decide, by decide⟩), _, _, rfl, rfl, _, rfl, _, _, rfl, rfl, (shl_side g373.1 g373.2.1 g373.2.2.1 g373.2.2.2), (by show 1 ≤ sizeLine; decide), fun p374 n375 => ?_⟩
    generalize g376 : upd H p374 _ = H377
    obtain ⟨e378, h379⟩ := gen_new n375 g376
    have h380 : H377 p374 = some (.lst (([(((2 * self'.rest) + 1) * 2 ^ Int.toNat ((7 - self'.bits)))] : (List Int)).map V.int)) := h379
    have fr381 := S0.free n375
    have S382 := S0.new n375 e378 h380 fr381
    obtain ⟨g383, hw⟩ := cW_grd hw
    refine ⟨_, _, _, _, rfl, rfl, (S382.bM _ _ h_l_self_full), h380, (cat_lenM g383), fun p384 n385 => ?_⟩
    generalize g386 : upd H377 p384 _ = H387
    obtain ⟨e388, h389⟩ := gen_new n385 g386
    have h390 : H387 p384 = some (.lst (((self'.full) ++ ([(((2 * self'.rest) + 1) * 2 ^ Int.toNat ((7 - self'.bits)))]) : (List Int)).map V.int)) := cat_map h389
    have fr391 := S382.free n385
    have S392 := S382.new n385 e388 h390 fr391
    have hw := cW_ok hw
    exact hK0 _ hw _ _ fr391 S392.b0 h390

abbrev N_write_settings : List Str := ["settings", "fmt", "writer", "number"]
theorem sc_write_settings : FnScope N_write_settings ["settings"] (defScope s_write_settings) := ⟨rfl, rfl, rfl, by decide +kernel, rfl, by decide +kernel, by decide +kernel⟩
theorem ok_write_settings (D : DefX K mg "write_settings" s_write_settings ["settings"] pats_write_settings) (T : Txt w K mg AD) (c_BitWriter___init__ : MakX P w K mg base 1 "BitWriter" AD.c_BitWriter (sp_BitWriter___init__ K AD) pats_BitWriter___init__) (c_BitWriter_put : MetX P w K mg base 2 AD.c_BitWriter "put" (sp_BitWriter_put K AD) pats_BitWriter_put) (c_BitWriter_put_ue : MetX P w K mg base 2 AD.c_BitWriter "put_ue" (sp_BitWriter_put_ue K AD) pats_BitWriter_put_ue) (c__put_switch : CalX P w K mg base 3 "_put_switch" (sp__put_switch K AD) pats__put_switch) (c_BitWriter_octets : MetX P w K mg base 1 AD.c_BitWriter "octets" (sp_BitWriter_octets K AD) pats_BitWriter_octets) : CalX P w K mg base 4 "write_settings" (sp_write_settings K AD) pats_write_settings := by
  refine D.ok sc_write_settings (fun vs H Q E h => ?_) (fun f cdv A_ outer s H vs Q E hr h => ?_)
  · obtain ⟨G, p_settings, p_settings_fmt, dx_settings, dx_settings_fmt, settings', rfl, _⟩ := h
    rfl
  · obtain ⟨G, p_settings, p_settings_fmt, dx_settings, dx_settings_fmt, settings', rfl, sG, h_p_settings, h_p_settings_fmt, hw⟩ := h
    refine ⟨_, (pss_cons (ps_set (i := 1) sc_write_settings.nd rfl (Or.inl rfl) (fldK (K := K) (pv 0)))
      (pss_cons (ps_set (i := 2) sc_write_settings.nd rfl (Or.inl rfl) (vx_makeX0 c_BitWriter___init__ pat_BitWriter___init___0 (.head _) hr (by decide) (takes_of rfl rfl rfl rfl) rfl))
      (pss_cons (ps_expr (vx_methX c_BitWriter_put pat_BitWriter_put_0 (.head _) hr (by decide) (takes_of rfl rfl rfl rfl) (pv 2) (pa_cons (C8.pe_gc rfl T.g_VERSION) (pa_cons pe_int pa_nil)) pk_nil))
      (pss_cons (ps_for (passes_of rfl) rfl (pi_tupK (K := K) (pe_tup (pa_cons (pe_op op_sub (fldK (K := K) (pv 1)) pe_int) (pa_cons (pe_op op_sub (fldK (K := K) (pv 1)) pe_int) (pa_cons (pe_op op_sub (fldK (K := K) (pv 1)) pe_int) (pa_cons (fldK (K := K) (pv 1)) pa_nil)))))) (pg_name (i := 3) sc_write_settings.nd rfl (Or.inl rfl)) (pss_one (ps_expr (vx_methX c_BitWriter_put_ue pat_BitWriter_put_ue_0 (.head _) hr (by decide) (takes_of rfl rfl rfl rfl) (pv 2) (pa_cons (pv 3) pa_nil) pk_nil))))
      (pss_cons (ps_expr (vx_methX c_BitWriter_put_ue pat_BitWriter_put_ue_0 (.head _) hr (by decide) (takes_of rfl rfl rfl rfl) (pv 2) (pa_cons (pe_op op_sub (fldK (K := K) (pv 0)) pe_int) pa_nil) pk_nil))
      (pss_cons (ps_expr (vx_methX c_BitWriter_put_ue pat_BitWriter_put_ue_0 (.head _) hr (by decide) (takes_of rfl rfl rfl rfl) (pv 2) (pa_cons (pe_op op_sub (fldK (K := K) (pv 0)) pe_int) pa_nil) pk_nil))
      (pss_cons (ps_expr (vx_callX c__put_switch pat__put_switch_0 (.head _) hr (by decide) (takes_of rfl rfl rfl rfl) rfl (pa_cons (pv 2) (pa_cons (fldK (K := K) (pv 0)) pa_nil)) pk_nil))
      (pss_cons (ps_expr (vx_callX c__put_switch pat__put_switch_0 (.head _) hr (by decide) (takes_of rfl rfl rfl rfl) rfl (pa_cons (pv 2) (pa_cons (fldK (K := K) (pv 0)) pa_nil)) pk_nil))
      (pss_cons (ps_expr (vx_methX c_BitWriter_put_ue pat_BitWriter_put_ue_0 (.head _) hr (by decide) (takes_of rfl rfl rfl rfl) (pv 2) (pa_cons (pe_op op_sub (fldK (K := K) (pv 0)) pe_int) pa_nil) pk_nil))
      (pss_one (ps_ret (vx_methX0 c_BitWriter_octets pat_BitWriter_octets_0 (.head _) hr (by decide) (takes_of rfl rfl rfl rfl) (pv 2))))))))))))), ?_⟩
    obtain ⟨KK, EE, hK0, hE, hw⟩ := cW_gen hw
    have S0 := Sep.startG sG
    unfold F_write_settings at hw
    refine ⟨_, rfl, _, _, _, _, _, rfl, (S0.bM _ _ h_p_settings), T.cl_Settings, T.n_Settings_fmt, rfl, rfl, rfl, fun x393 dx394 n395 n396 n397 => ?_⟩
    generalize g398 : upd (upd H dx394 _) x393 _ = H399
    obtain ⟨e400, h401⟩ := gen_obj n395 n396 n397 g398
    have fr402 := S0.free n395
    have S403 := S0.new n395 e400 h401 fr402
    refine ⟨G, _, _, rfl, S403.sG, (S403.gno (all_cons (.head _) all_nil)), h401, cW_call hw (fun v404 hw H406 l405 x407 n411 h408 h410 => ⟨rfl, ?_⟩) (fun e he H2 e2 => hE e he H2 (Same.trans S0.b0 (same_mut e400 e2 n395)))⟩
    have fr412 := S403.free n411
    have S409 : Sep _ _ _ _ H406 [l405, x393] := Sep.init S403 x407 (.head _) h408 [l405] (all_cons ⟨n411, some_ne h410, fr412⟩ all_nil)
    refine ⟨_, rfl, _, _, _, rfl, h408, rfl, rfl, rfl, G, _, _, _, v404, _, _, rfl, S409.sG, (S409.gno (all_cons (.tail _ (.head _)) (all_cons (.head _) all_nil))), h408, h410, cW_call hw (fun v413 hw H414 x415 h417 h418  => ?_) (fun e he H2 e2 => hE e he H2 (Same.trans S409.b0 e2))⟩
    have S416 := S409.mut x415 (all_cons (.tail _ (.head _)) (all_cons (.head _) all_nil)) (all_cons (some_ne h417) (all_cons (some_ne h418) all_nil))
    refine ⟨_, rfl, _, _, _, _, _, rfl, (S416.bM _ _ h_p_settings_fmt), T.cl_Format, T.n_Format_width, rfl, _, _, rfl, rfl, _, rfl, _, _, _, _, _, rfl, (S416.bM _ _ h_p_settings_fmt), T.cl_Format, T.n_Format_height, rfl, _, _, rfl, rfl, _, rfl, _, _, _, _, _, rfl, (S416.bM _ _ h_p_settings_fmt), T.cl_Format, T.n_Format_depth, rfl, _, _, rfl, rfl, _, rfl, _, _, _, _, _, rfl, (S416.bM _ _ h_p_settings_fmt), T.cl_Format, T.n_Format_chroma, rfl, (by show 4 ≤ sizeLine; decide), fun p423 n424 => ?_⟩
    generalize g425 : upd H414 p423 _ = H426
    obtain ⟨e427, h428⟩ := gen_new n424 g425
    have h429 : H426 p423 = some (.tup [V.int ((settings'.fmt.width - 1)), V.int ((settings'.fmt.height - 1)), V.int ((settings'.fmt.depth - 8)), V.int (settings'.fmt.chroma)]) := h428
    have fr430 := S416.free n424
    obtain ⟨G432, eG433, hg434, S431⟩ := S416.grow n424 e427 h429 fr430
    obtain ⟨K436, hK437, hw⟩ := cW_push hw
    refine ⟨_, rfl, ⟨_, (SqT.of (S431.sG _ _ hg434))⟩, for_tup (K := K) (a := p423) (xs := (([(settings'.fmt.width - 1), (settings'.fmt.height - 1), (settings'.fmt.depth - 8), settings'.fmt.chroma] : List Int).map V.int)) (fun i σ H' => ∃ (writer_438 : St_BitWriter) (u439 : Option V) (G' : Hp), σ = [some (V.ref p_settings), some (V.ref p_settings_fmt), some (V.ref x393), u439] ∧ Same G432 G' ∧ Sep [] H G G' H' [x393, l405] ∧ H' x393 = some (.ins AD.c_BitWriter dx394 [("_full", V.ref l405), ("_rest", V.int (writer_438.rest)), ("_rest_bits", V.int (writer_438.bits))]) ∧ H' l405 = some (.lst ((writer_438.full : (List Int)).map V.int)) ∧ cW (forS (List.drop i ([(settings'.fmt.width - 1), (settings'.fmt.height - 1), (settings'.fmt.depth - 8), settings'.fmt.chroma])) writer_438 (fun s x => F_write_settings_b1  s x)) K436 EE) ?_ ?_ ?_ ?_⟩
    · have h440 := (e427 _ _ h417)
      have h441 := (e427 _ _ h418)
      exact ⟨(v413), _, _, rfl, (Same.refl _), (S431.sub (all_cons (.tail _ (.head _)) (all_cons (.head _) all_nil))), h440, h441, hw⟩
    · intro i σ H442 _ hw
      obtain ⟨writer_438, u439, G446, rfl, eG447, S443, h444, h445, hw⟩ := hw
      exact (SqT.of (S443.sG _ _ (eG447 _ _ hg434)))
    · intro i x σ H448 hj hw
      obtain ⟨writer_438, u439, G452, rfl, eG453, S449, h450, h451, hw⟩ := hw
      obtain ⟨x454, hx, rfl⟩ := map_get hj
      have hw := cW_forS hx hw
      have hw : cW (F_write_settings_b1  (writer_438) (x454)) _ EE := hw
      unfold F_write_settings_b1 at hw
      obtain ⟨K456, hK457, hw⟩ := cW_name hw
      refine ⟨_, rfl, _, _, _, rfl, h450, rfl, _, rfl, rfl, rfl, G452, _, _, _, writer_438, _, rfl, S449.sG, (S449.gno (all_cons (.head _) (all_cons (.tail _ (.head _)) all_nil))), h450, h451, cW_call hw (fun v459 hw H460 x461 h463 h464  => ?_) (fun e he H2 e2 => hE e he H2 (Same.trans S449.b0 e2))⟩
      have S462 := S449.mut x461 (all_cons (.head _) (all_cons (.tail _ (.head _)) all_nil)) (all_cons (some_ne h463) (all_cons (some_ne h464) all_nil))
      have hw := cW_ok hw
      have hw := hK457 _ hw
      exact ⟨(v459), _, _, rfl, eG453, S462, h463, h464, hw⟩
    · intro σ H469 hw
      obtain ⟨writer_438, u439, G473, rfl, eG474, S470, h471, h472, hw⟩ := hw
      have hw := hK437 _ (cW_forS0 (by rw [List.length_map]) hw)
      have hw : cW (F_write_settings_r1 (settings') (writer_438)) _ EE := hw
      unfold F_write_settings_r1 at hw
      refine ⟨_, rfl, _, _, _, rfl, h471, rfl, _, rfl, _, _, _, _, _, rfl, (S470.bM _ _ h_p_settings), T.cl_Settings, T.n_Settings_slots, rfl, _, _, rfl, rfl, rfl, rfl, G473, _, _, _, writer_438, _, rfl, S470.sG, (S470.gno (all_cons (.head _) (all_cons (.tail _ (.head _)) all_nil))), h471, h472, cW_call hw (fun v476 hw H477 x478 h480 h481  => ?_) (fun e he H2 e2 => hE e he H2 (Same.trans S470.b0 e2))⟩
      have S479 := S470.mut x478 (all_cons (.head _) (all_cons (.tail _ (.head _)) all_nil)) (all_cons (some_ne h480) (all_cons (some_ne h481) all_nil))
      refine ⟨_, rfl, _, _, _, rfl, h480, rfl, _, rfl, _, _, _, _, _, rfl, (S479.bM _ _ h_p_settings), T.cl_Settings, T.n_Settings_rows, rfl, _, _, rfl, rfl, rfl, rfl, G473, _, _, _, v476, _, rfl, S479.sG, (S479.gno (all_cons (.head _) (all_cons (.tail _ (.head _)) all_nil))), h480, h481, cW_call hw (fun v486 hw H487 x488 h490 h491  => ?_) (fun e he H2 e2 => hE e he H2 (Same.trans S479.b0 e2))⟩
      have S489 := S479.mut x488 (all_cons (.head _) (all_cons (.tail _ (.head _)) all_nil)) (all_cons (some_ne h490) (all_cons (some_ne h491) all_nil))
      refine ⟨_, rfl, _, rfl, _, _, _, _, _, rfl, (S489.bM _ _ h_p_settings), T.cl_Settings, T.n_Settings_deblock, rfl, rfl, rfl, G473, _, _, _, v486, _, rfl, S489.sG, (S489.gno (all_cons (.head _) (all_cons (.tail _ (.head _)) all_nil))), h490, h491, cW_call hw (fun v496 hw H497 x498 h500 h501  => ?_) (fun e he H2 e2 => hE e he H2 (Same.trans S489.b0 e2))⟩
      have S499 := S489.mut x498 (all_cons (.head _) (all_cons (.tail _ (.head _)) all_nil)) (all_cons (some_ne h500) (all_cons (some_ne h501) all_nil))
      refine ⟨_, rfl, _, rfl, _, _, _, _, _, rfl, (S499.bM _ _ h_p_settings), T.cl_Settings, T.n_Settings_offset, rfl, rfl, rfl, G473, _, _, _, v496, _, rfl, S499.sG, (S499.gno (all_cons (.head _) (all_cons (.tail _ (.head _)) all_nil))), h500, h501, cW_call hw (fun v506 hw H507 x508 h510 h511  => ?_) (fun e he H2 e2 => hE e he H2 (Same.trans S499.b0 e2))⟩
      have S509 := S499.mut x508 (all_cons (.head _) (all_cons (.tail _ (.head _)) all_nil)) (all_cons (some_ne h510) (all_cons (some_ne h511) all_nil))
      refine ⟨_, rfl, _, _, _, rfl, h510, rfl, _, rfl, _, _, _, _, _, rfl, (S509.bM _ _ h_p_settings), T.cl_Settings, T.n_Settings_layers, rfl, _, _, rfl, rfl, rfl, rfl, G473, _, _, _, v506, _, rfl, S509.sG, (S509.gno (all_cons (.head _) (all_cons (.tail _ (.head _)) all_nil))), h510, h511, cW_call hw (fun v516 hw H517 x518 h520 h521  => ?_) (fun e he H2 e2 => hE e he H2 (Same.trans S509.b0 e2))⟩
      have S519 := S509.mut x518 (all_cons (.head _) (all_cons (.tail _ (.head _)) all_nil)) (all_cons (some_ne h520) (all_cons (some_ne h521) all_nil))
      refine ⟨_, rfl, _, _, _, rfl, h520, rfl, rfl, rfl, G473, _, _, _, v516, rfl, S519.sG, (hide_nil h520), (hide_nil h521), cW_call hw (fun v526 hw p529 H527 n530 e528 h531 => ?_) (fun e he H2 e2 => hE e he H2 (Same.trans S519.b0 e2))⟩
      have h532 : H527 p529 = some (.lst ((v526 : (List Int)).map V.int)) := h531
      have fr533 := S519.free n530
      have S534 := S519.new n530 e528 h532 fr533
      have hw := cW_ok hw
      exact hK0 _ hw _ _ fr533 S534.b0 h532

abbrev N__last_bit : List Str := ["octet", "bits"]
theorem sc__last_bit : FnScope N__last_bit ["octet"] (defScope s__last_bit) := ⟨rfl, rfl, rfl, by decide +kernel, rfl, by decide +kernel, by decide +kernel⟩
theorem ok__last_bit (D : DefX K mg "_last_bit" s__last_bit ["octet"] pats__last_bit) (T : Txt w K mg AD)  : CalX P w K mg base 1 "_last_bit" (sp__last_bit K AD) pats__last_bit := by
  refine D.ok sc__last_bit (fun vs H Q E h => ?_) (fun f cdv A_ outer s H vs Q E hr h => ?_)
  · obtain ⟨G, octet', rfl, _⟩ := h
    rfl
  · obtain ⟨G, octet', rfl, sG, hw⟩ := h
    refine ⟨_, (pss_cons (ps_set (i := 1) sc__last_bit.nd rfl (Or.inl rfl) pe_int)
      (pss_cons (ps_while (passes_of rfl) (pt_cmp (pc_eqI (pe_op op_and (pe_op op_shr (pv 0) (pe_op op_sub (pv 1) pe_int)) pe_int) pe_int)) (pss_one (ps_aug (i := 1) sc__last_bit.nd rfl (Or.inl rfl) pe_int (pip iop_add))))
      (pss_one (ps_ret (pv 1))))), ?_⟩
    obtain ⟨KK, EE, hK0, hE, hw⟩ := cW_gen hw
    have S0 := Sep.startG sG
    unfold F__last_bit at hw
    obtain ⟨K536, hK537, hw⟩ := cW_push hw
    refine ⟨fun m σ H' => ∃ (bits_538 : Int) (G' : Hp), σ = [some (V.int (octet')), some (V.int bits_538)] ∧ Same G G' ∧ Sep [] H G G' H' [] ∧ cW (whileR m bits_538 (fun s => F__last_bit_b1 (octet') s)) K536 EE, ?_, ?_⟩
    · exact ⟨_, ⟨(1), _, rfl, (Same.refl _), S0, hw⟩⟩
    · intro m σ H539 hw
      obtain ⟨bits_538, G541, rfl, eG542, S540, hw⟩ := hw
      obtain ⟨m543, rfl, hw2⟩ := cW_whileR hw
      have hw := hw2
      have hw : cW (F__last_bit_b1 (octet') (bits_538)) _ EE := hw
      unfold F__last_bit_b1 at hw
      obtain ⟨K545, hK546, hw⟩ := cW_name hw
      obtain ⟨g547, hw⟩ := cW_grd hw
      refine ⟨_, rfl, _, rfl, _, _, rfl, rfl, _, _, rfl, rfl, g547, _, _, rfl, rfl, _, _, rfl, rfl, _, rfl, ?_⟩
      refine iteD (fun c548 => ?_) (fun c548 => ?_)
      · have hw := cW_pos c548 hw
        refine ⟨(fun σ H' => ∃ m, (∃ (bits_538 : Int) (G' : Hp), σ = [some (V.int (octet')), some (V.int bits_538)] ∧ Same G G' ∧ Sep [] H G G' H' [] ∧ cW (whileR m bits_538 (fun s => F__last_bit_b1 (octet') s)) K536 EE) ∧ m < m543 + 1), (fun _ _ ⟨m', a, b⟩ => ⟨m', b, a⟩), ?_⟩
        refine ⟨_, rfl, _, _, rfl, rfl, ?_⟩
        have hw := cW_bnd hw
        have hw := cW_ok hw
        have hw := hK546 _ hw
        exact ⟨m543, ⟨((bits_538 + 1)), _, rfl, eG542, S540, hw⟩, Nat.lt_succ_self _⟩
      · have hw := cW_neg c548 hw
        have hw := cW_ok hw
        have hw := hK546 _ hw
        have hw := cW_aftgo (hK537 (.go _) hw)
        have hw : cW (F__last_bit_r1  (bits_538)) _ EE := hw
        unfold F__last_bit_r1 at hw
        refine ⟨_, rfl, ?_⟩
        have hw := cW_ok hw
        exact hK0 _ hw _ S540.b0

abbrev N_BitReader___init__ : List Str := ["self", "octets"]
theorem sc_BitReader___init__ : FnScope N_BitReader___init__ ["self", "octets"] (defScope s_BitReader___init__) := ⟨rfl, rfl, rfl, by decide +kernel, rfl, by decide +kernel, by decide +kernel⟩
theorem ok_BitReader___init__ (D : InitX K mg AD.c_BitReader "BitReader" "BitReader.__init__" s_BitReader___init__ ["self", "octets"] pats_BitReader___init__) (T : Txt w K mg AD) (c__last_bit : CalX P w K mg base 1 "_last_bit" (sp__last_bit K AD) pats__last_bit) : MakX P w K mg base 2 "BitReader" AD.c_BitReader (sp_BitReader___init__ K AD) pats_BitReader___init__ := by
  refine D.ok sc_BitReader___init__ (fun vs H Q E h => ?_) (fun f cdv A_ outer s H vs Q E hr h => ?_)
  · obtain ⟨G, p_self, dx_self, a_octets, octets', rfl, _⟩ := h
    rfl
  · obtain ⟨G, p_self, dx_self, a_octets, octets', rfl, sG, gM, h_self, q_octets, hw⟩ := h
    refine ⟨_, (pss_cons (ps_if (PW.pt (pw_or (pt_not (pt_truth (pv 1) (fun _ => rfl))) (pw_or1 (pt_cmp (pc_eqI (pe_ix (ix_listK (K := K)) (pv 1) (pe_un un_neg pe_int) (fun _ _ => rfl)) pe_int))))) (pss_one (ps_raise rfl (takes_of rfl rfl rfl rfl) (pmk_own PySem.F.excBase_ValueError T.xx_BadOctets T.xg_BadOctets T.xk_BadOctets (raises_own T.xb_BadOctets T.xt_BadOctets) rfl))) pss_nil)
      (pss_cons (ps_fld (pv 0) (pe_callTy (call_listLK (K := K)) (by rfl) T.b_list (by decide +kernel) (pa_cons (pv 1) pa_nil)) rfl)
      (pss_cons (ps_fld (pv 0) pe_int rfl)
      (pss_one (ps_fld (pv 0) (pe_op op_sub (pe_op op_mul pe_int (pe_callB (call_lenLiK (K := K)) (by rfl) T.b_len (by decide +kernel) (pa_cons (pv 1) pa_nil))) (vx_callX c__last_bit pat__last_bit_0 (.head _) hr (by decide) (takes_of rfl rfl rfl rfl) rfl (pa_cons (pe_ix (ix_listK (K := K)) (pv 1) (pe_un un_neg pe_int) (fun _ _ => rfl)) pa_nil) pk_nil)) rfl))))), ?_⟩
    obtain ⟨KK, EE, hK0, hE, hw⟩ := cW_gen hw
    have S0 := Sep.startM (M := [p_self]) sG (all_cons (some_ne h_self) all_nil) gM
    unfold F_BitReader___init__ at hw
    refine ⟨_, rfl, _, (.inl ⟨_, (SqL.of (S0.bM _ _ q_octets)), tru_map⟩), ?_⟩
    refine iteNN ?_
    refine iteD (fun c551 => ?_) (fun c551 => ?_)
    · have hw := cW_pos c551 hw
      refine iteT ?_
      exact hE 4 (cW_er hw) _ (sameX_of S0.base)
    · have hw := cW_neg c551 hw
      obtain ⟨g552, hw⟩ := cW_grd hw
      refine ⟨_, rfl, _, rfl, _, _, _, _, rfl, rfl, (SqL.of (S0.bM _ _ q_octets)), (atI_map g552), _, _, rfl, rfl, _, rfl, ?_⟩
      refine iteD (fun c553 => ?_) (fun c553 => ?_)
      · have hw := cW_pos c553 hw
        exact hE 4 (cW_er hw) _ (sameX_of S0.base)
      · have hw := cW_neg c553 hw
        refine ⟨_, rfl, _, _, rfl, (SqL.of (S0.bM _ _ q_octets)), fun p554 n555 => ?_⟩
        generalize g556 : upd H p554 _ = H557
        obtain ⟨e558, h559⟩ := gen_new n555 g556
        have h560 : H557 p554 = some (.lst ((octets' : (List Int)).map V.int)) := h559
        have fr561 := S0.free n555
        have S562 := S0.new n555 e558 h560 fr561
        have h563 := (e558 _ _ h_self)
        refine ⟨_, rfl, _, _, _, _, rfl, h563, T.cl_BitReader, T.n_BitReader__octets, (by show 0 < 1000; decide), ?_⟩
        generalize g564 : upd H557 p_self _ = H565
        obtain ⟨x566, h567⟩ := gen_mut g564
        have h568 : H565 p_self = some (.ins AD.c_BitReader dx_self [("_octets", V.ref p554)]) := h567
        have S569 := S562.mut1 x566 (.tail _ (.head _)) h568
        refine ⟨_, rfl, _, _, _, _, rfl, h568, T.cl_BitReader, T.n_BitReader__place, (by show 1 < 1000; decide), ?_⟩
        generalize g570 : upd H565 p_self _ = H571
        obtain ⟨x572, h573⟩ := gen_mut g570
        have h574 : H571 p_self = some (.ins AD.c_BitReader dx_self [("_octets", V.ref p554), ("_place", V.int (0))]) := h573
        have S575 := S569.mut1 x572 (.tail _ (.head _)) h574
        obtain ⟨g576, hw⟩ := cW_grd hw
        refine ⟨_, rfl, _, _, rfl, (SqL.of (S575.bM _ _ q_octets)), _, _, rfl, rfl, (.inl ⟨by decide, by decide⟩), _, rfl, _, rfl, _, _, _, _, rfl, rfl, (SqL.of (S575.bM _ _ q_octets)), (atI_map g576), rfl, rfl, G, _, rfl, S575.sG, cW_call hw (fun v577 hw H578 e579 => ?_) (fun e he H2 e2 => hE e he H2 (fun b o h n => e2 _ _ ((sameX_of S575.base) b o h n)))⟩
        have S580 := S575.same e579
        have h581 := (e579 _ _ h574)
        have hw := cW_bnd hw
        refine ⟨_, _, rfl, rfl, _, rfl, _, _, _, _, rfl, h581, T.cl_BitReader, T.n_BitReader__end, (by show 2 < 1000; decide), ?_⟩
        generalize g583 : upd H578 p_self _ = H584
        obtain ⟨x585, h586⟩ := gen_mut g583
        have h587 : H584 p_self = some (.ins AD.c_BitReader dx_self [("_octets", V.ref p554), ("_place", V.int (0)), ("_end", V.int (((8 * (((octets') : (List Int)).length : Int)) - v577)))]) := h586
        have S588 := S580.mut1 x585 (.tail _ (.head _)) h587
        have h589 := (x585 _ _ (e579 _ _ (x572 _ _ (x566 _ _ h560 (ne_of_none h_self n555).symm) (ne_of_none h_self n555).symm)) (ne_of_none h_self n555).symm)
        have hw := cW_ok hw
        exact hK0 _ hw _ _ (sameX_of S588.base) fr561 h587 h589

abbrev N_BitReader__look : List Str := ["self", "place", "count", "end", "value", "octet"]
theorem sc_BitReader__look : FnScope N_BitReader__look ["self", "place", "count"] (defScope s_BitReader__look) := ⟨rfl, rfl, rfl, by decide +kernel, rfl, by decide +kernel, by decide +kernel⟩
theorem ok_BitReader__look (D : MethX K AD.c_BitReader "BitReader._look" "_look" s_BitReader__look ["self", "place", "count"] pats_BitReader__look) (T : Txt w K mg AD)  : MetX P w K mg base 1 AD.c_BitReader "_look" (sp_BitReader__look K AD) pats_BitReader__look := by
  refine D.ok T.cl_BitReader sc_BitReader__look (fun vs H Q E h => ?_) (fun f cdv A_ outer s H vs Q E hr h => ?_)
  · obtain ⟨G, p_self, l_self_octs, dx_self, self', place', count', rfl, _⟩ := h
    rfl
  · obtain ⟨G, p_self, l_self_octs, dx_self, self', place', count', rfl, sG, h_p_self, h_l_self_octs, hw⟩ := h
    refine ⟨_, (pss_cons (ps_set (i := 3) sc_BitReader__look.nd rfl (Or.inl rfl) (pe_op op_add (pv 1) (pv 2)))
      (pss_cons (ps_if (pt_cmp (pc_gt (pv 3) (fldK (K := K) (pv 0)))) (pss_one (ps_raise rfl (takes_of rfl rfl rfl rfl) (pmk_own PySem.F.excBase_ValueError T.xx_OutOfBits T.xg_OutOfBits T.xk_OutOfBits (raises_own T.xb_OutOfBits T.xt_OutOfBits) rfl))) pss_nil)
      (pss_cons (ps_set (i := 4) sc_BitReader__look.nd rfl (Or.inl rfl) pe_int)
      (pss_cons (ps_for (passes_of rfl) rfl (pi_listK (K := K) (pe_slice (sl_listK (K := K)) (fldK (K := K) (pv 0)) (po_some (pe_op op_fdivW (pv 1) pe_int)) (po_some (pe_op op_fdivW (pe_op op_add (pv 3) pe_int) pe_int)))) (pg_name (i := 5) sc_BitReader__look.nd rfl (Or.inl rfl)) (pss_one (ps_set (i := 4) sc_BitReader__look.nd rfl (Or.inl rfl) (pe_op op_or (pe_op op_shlW (pv 4) pe_int) (pv 5)))))
      (pss_one (ps_ret (pe_op op_and (pe_op op_shr (pv 4) (pe_op op_and (pe_un un_neg (pv 3)) pe_int)) (pe_op op_sub (pe_op op_shlW pe_int (pv 2)) pe_int)))))))), ?_⟩
    obtain ⟨KK, EE, hK0, hE, hw⟩ := cW_gen hw
    have S0 := Sep.startG sG
    unfold F_BitReader__look at hw
    refine ⟨_, rfl, _, rfl, _, _, rfl, rfl, ?_⟩
    have hw := cW_bnd hw
    refine ⟨_, rfl, _, rfl, _, _, _, _, _, rfl, (S0.bM _ _ h_p_self), T.cl_BitReader, T.n_BitReader__end, rfl, _, _, rfl, rfl, _, rfl, ?_⟩
    refine iteD (fun c591 => ?_) (fun c591 => ?_)
    · have hw := cW_pos c591 hw
      exact hE 3 (cW_er hw) _ S0.b0
    · have hw := cW_neg c591 hw
      refine ⟨_, rfl, _, _, _, _, _, rfl, (S0.bM _ _ h_p_self), T.cl_BitReader, T.n_BitReader__octets, rfl, _, rfl, _, _, rfl, rfl, (divW_lit (by decide) (by decide)), _, rfl, _, rfl, _, _, rfl, rfl, _, _, rfl, rfl, (divW_lit (by decide) (by decide)), _, rfl, _, _, rfl, (SqL.of (S0.bM _ _ h_l_self_octs)), fun p592 n593 => ?_⟩
      generalize g594 : upd H p592 _ = H595
      obtain ⟨e596, h597⟩ := gen_new n593 g594
      have h598 : H595 p592 = some (.lst ((cutL (self'.octs) (some ((place' / 8))) (some ((((place' + count') + 7) / 8))) : (List Int)).map V.int)) := cut_map h597
      have fr599 := S0.free n593
      have S600 := S0.new n593 e596 h598 fr599
      obtain ⟨K603, hK604, hw⟩ := cW_push hw
      refine ⟨_, rfl, ⟨_, (SqL.of h598)⟩, for_list (K := K) (a := p592) (xs := (cutL (self'.octs) (some ((place' / 8))) (some ((((place' + count') + 7) / 8))) : (List Int)).map V.int) (fun i σ H' => ∃ (value_605 : Int) (u606 : Option V) (G' : Hp), σ = [some (V.ref p_self), some (V.int (place')), some (V.int (count')), some (V.int ((place' + count'))), some (V.int value_605), u606] ∧ Same G G' ∧ Sep [] H G G' H' [p592] ∧ H' p592 = some (.lst ((cutL (self'.octs) (some ((place' / 8))) (some ((((place' + count') + 7) / 8))) : (List Int)).map V.int)) ∧ cW (forS (List.drop i (cutL (self'.octs) (some ((place' / 8))) (some ((((place' + count') + 7) / 8))))) value_605 (fun s x => F_BitReader__look_b1  s x)) K603 EE) ?_ ?_ ?_ ?_⟩
      · exact ⟨(0), _, _, rfl, (Same.refl _), S600, h598, hw⟩
      · intro i σ H607 _ hw
        obtain ⟨value_605, u606, G610, rfl, eG611, S608, h609, hw⟩ := hw
        exact (SqL.of h609)
      · intro i x σ H612 hj hw
        obtain ⟨value_605, u606, G615, rfl, eG616, S613, h614, hw⟩ := hw
        obtain ⟨x617, hx, rfl⟩ := map_get hj
        have hw := cW_forS hx hw
        have hw : cW (F_BitReader__look_b1  (value_605) (x617)) _ EE := hw
        unfold F_BitReader__look_b1 at hw
        obtain ⟨K619, hK620, hw⟩ := cW_name hw
        obtain ⟨g622, hw⟩ := cW_grd hw
        refine ⟨_, rfl, _, _, rfl, rfl, (shl_side g622.1 g622.2.1 g622.2.2.1 g622.2.2.2), _, rfl, _, _, rfl, rfl, ?_⟩
        have hw := cW_bnd hw
        have hw := cW_ok hw
        have hw := hK620 _ hw
        exact ⟨((PySem.Builtin.bitOr ((value_605 * 2 ^ Int.toNat (8))) (x617))), _, _, rfl, eG616, S613, h614, hw⟩
      · intro σ H624 hw
        obtain ⟨value_605, u606, G627, rfl, eG628, S625, h626, hw⟩ := hw
        have hw := hK604 _ (cW_forS0 (by rw [List.length_map]) hw)
        have hw : cW (F_BitReader__look_r1 (count') ((place' + count')) (value_605)) _ EE := hw
        unfold F_BitReader__look_r1 at hw
        obtain ⟨g630, hw⟩ := cW_grd hw
        obtain ⟨g631, hw⟩ := cW_grd hw
        refine ⟨_, rfl, _, rfl, _, rfl, _, _, rfl, rfl, _, _, rfl, rfl, g630, _, rfl, _, _, rfl, rfl, (shl_side g631.1 g631.2.1 g631.2.2.1 g631.2.2.2), _, _, rfl, rfl, _, _, rfl, rfl, ?_⟩
        have hw := cW_ok hw
        exact hK0 _ hw _ S625.b0

abbrev N_BitReader__take : List Str := ["self", "count", "value"]
theorem sc_BitReader__take : FnScope N_BitReader__take ["self", "count"] (defScope s_BitReader__take) := ⟨rfl, rfl, rfl, by decide +kernel, rfl, by decide +kernel, by decide +kernel⟩
theorem ok_BitReader__take (D : MethX K AD.c_BitReader "BitReader._take" "_take" s_BitReader__take ["self", "count"] pats_BitReader__take) (T : Txt w K mg AD) (c_BitReader__look : MetX P w K mg base 1 AD.c_BitReader "_look" (sp_BitReader__look K AD) pats_BitReader__look) : MetX P w K mg base 2 AD.c_BitReader "_take" (sp_BitReader__take K AD) pats_BitReader__take := by
  refine D.ok T.cl_BitReader sc_BitReader__take (fun vs H Q E h => ?_) (fun f cdv A_ outer s H vs Q E hr h => ?_)
  · obtain ⟨G, p_self, l_self_octs, dx_self, self', count', rfl, _⟩ := h
    rfl
  · obtain ⟨G, p_self, l_self_octs, dx_self, self', count', rfl, sG, gM, h_p_self, h_l_self_octs, hw⟩ := h
    refine ⟨_, (pss_cons (ps_set (i := 2) sc_BitReader__take.nd rfl (Or.inl rfl) (vx_methX c_BitReader__look pat_BitReader__look_0 (.head _) hr (by decide) (takes_of rfl rfl rfl rfl) (pv 0) (pa_cons (fldK (K := K) (pv 0)) (pa_cons (pv 1) pa_nil)) pk_nil))
      (pss_cons (ps_fldaug (pv 0) (pv 1) (pip iop_add))
      (pss_one (ps_ret (pv 2))))), ?_⟩
    obtain ⟨KK, EE, hK0, hE, hw⟩ := cW_gen hw
    have S0 := Sep.startM (M := [p_self, l_self_octs]) sG (all_cons (some_ne h_p_self) (all_cons (some_ne h_l_self_octs) all_nil)) gM
    unfold F_BitReader__take at hw
    refine ⟨_, rfl, _, _, _, rfl, h_p_self, rfl, _, rfl, _, _, _, _, _, rfl, h_p_self, T.cl_BitReader, T.n_BitReader__place, rfl, _, rfl, rfl, rfl, G, _, _, _, self', _, _, rfl, S0.sG, (hide_nil h_p_self), (hide_nil h_l_self_octs), cW_call hw (fun v632 hw H633 e634 => ?_) (fun e he H2 e2 => hE e he H2 (Same.trans (Same.refl _) e2))⟩
    have S635 := S0.same e634
    have h636 := (e634 _ _ h_p_self)
    have hw := cW_bnd hw
    refine ⟨_, rfl, _, _, _, _, _, rfl, h636, T.cl_BitReader, T.n_BitReader__place, rfl, _, rfl, _, _, rfl, rfl, _, _, h636, (by show 3 < 1000; decide), ?_⟩
    generalize g638 : upd H633 p_self _ = H639
    obtain ⟨x640, h641⟩ := gen_mut g638
    have h642 : H639 p_self = some (.ins AD.c_BitReader dx_self [("_octets", V.ref l_self_octs), ("_place", V.int ((self'.place + count'))), ("_end", V.int (self'.stop))]) := h641
    have S643 := S635.mut1 x640 (.head _) h642
    refine ⟨_, rfl, ?_⟩
    have h644 := (x640 _ _ (e634 _ _ h_l_self_octs) (ne_of h_l_self_octs h_p_self (fun z => nomatch z)))
    have hw := cW_ok hw
    exact hK0 _ hw _ S643.base h642 h644

abbrev N_BitReader_get : List Str := ["self", "count"]
theorem sc_BitReader_get : FnScope N_BitReader_get ["self", "count"] (defScope s_BitReader_get) := ⟨rfl, rfl, rfl, by decide +kernel, rfl, by decide +kernel, by decide +kernel⟩
theorem ok_BitReader_get (D : MethX K AD.c_BitReader "BitReader.get" "get" s_BitReader_get ["self", "count"] pats_BitReader_get) (T : Txt w K mg AD) (c_BitReader__take : MetX P w K mg base 2 AD.c_BitReader "_take" (sp_BitReader__take K AD) pats_BitReader__take) : MetX P w K mg base 3 AD.c_BitReader "get" (sp_BitReader_get K AD) pats_BitReader_get := by
  refine D.ok T.cl_BitReader sc_BitReader_get (fun vs H Q E h => ?_) (fun f cdv A_ outer s H vs Q E hr h => ?_)
  · obtain ⟨G, p_self, l_self_octs, dx_self, self', count', rfl, _⟩ := h
    rfl
  · obtain ⟨G, p_self, l_self_octs, dx_self, self', count', rfl, sG, gM, h_p_self, h_l_self_octs, hw⟩ := h
    refine ⟨_, (pss_cons (ps_if (pt_not (pt_chain op_le op_le pe_int (pv 1) (C8.pe_gc rfl T.g_MOST_BITS))) (pss_one (ps_raise rfl (takes_of rfl rfl rfl rfl) (pmk_own PySem.F.excBase_ValueError T.xx_OutOfRange T.xg_OutOfRange T.xk_OutOfRange (raises_own T.xb_OutOfRange T.xt_OutOfRange) rfl))) pss_nil)
      (pss_one (ps_ret (vx_methX c_BitReader__take pat_BitReader__take_0 (.head _) hr (by decide) (takes_of rfl rfl rfl rfl) (pv 0) (pa_cons (pv 1) pa_nil) pk_nil)))), ?_⟩
    obtain ⟨KK, EE, hK0, hE, hw⟩ := cW_gen hw
    have S0 := Sep.startM (M := [p_self, l_self_octs]) sG (all_cons (some_ne h_p_self) (all_cons (some_ne h_l_self_octs) all_nil)) gM
    unfold F_BitReader_get at hw
    refine ⟨_, rfl, _, _, rfl, rfl, _, rfl, ?_⟩
    refine iteD (fun c645 => ?_) (fun c645 => ?_)
    · have hw := cW_pos c645 hw
      refine ⟨_, _, rfl, rfl, _, rfl, ?_⟩
      refine iteN (fun c646 => ?_) (fun c646 => ?_)
      · have hw := cW_neg c646 hw
        exact hE 2 (cW_er hw) _ (Same.refl _)
      · have hw := cW_pos c646 hw
        refine ⟨_, rfl, _, _, _, rfl, h_p_self, rfl, _, rfl, rfl, rfl, G, _, _, _, self', _, rfl, S0.sG, (S0.gno (all_cons (.head _) (all_cons (.tail _ (.head _)) all_nil))), h_p_self, h_l_self_octs, cW_call hw (fun v647 hw H648 x649 h651 h652  => ?_) (fun e he H2 e2 => hE e he H2 (Same.trans (Same.refl _) e2))⟩
        have S650 := S0.mut x649 (all_cons (.head _) (all_cons (.tail _ (.head _)) all_nil)) (all_cons (some_ne h651) (all_cons (some_ne h652) all_nil))
        have hw := cW_ok hw
        exact hK0 _ hw _ S650.base h651 h652
    · have hw := cW_neg c645 hw
      refine ⟨_, rfl, ?_⟩
      refine iteT ?_
      exact hE 2 (cW_er hw) _ (Same.refl _)

abbrev N__get_switch : List Str := ["reader"]
theorem sc__get_switch : FnScope N__get_switch ["reader"] (defScope s__get_switch) := ⟨rfl, rfl, rfl, by decide +kernel, rfl, by decide +kernel, by decide +kernel⟩
theorem ok__get_switch (D : DefX K mg "_get_switch" s__get_switch ["reader"] pats__get_switch) (T : Txt w K mg AD) (c_BitReader_get : MetX P w K mg base 3 AD.c_BitReader "get" (sp_BitReader_get K AD) pats_BitReader_get) : CalX P w K mg base 4 "_get_switch" (sp__get_switch K AD) pats__get_switch := by
  refine D.ok sc__get_switch (fun vs H Q E h => ?_) (fun f cdv A_ outer s H vs Q E hr h => ?_)
  · obtain ⟨G, p_reader, l_reader_octs, dx_reader, reader', rfl, _⟩ := h
    rfl
  · obtain ⟨G, p_reader, l_reader_octs, dx_reader, reader', rfl, sG, gM, h_p_reader, h_l_reader_octs, hw⟩ := h
    refine ⟨_, (pss_one (ps_ret (pe_cmp (pc_eqI (vx_methX c_BitReader_get pat_BitReader_get_0 (.head _) hr (by decide) (takes_of rfl rfl rfl rfl) (pv 0) (pa_cons pe_int pa_nil) pk_nil) pe_int)))), ?_⟩
    obtain ⟨KK, EE, hK0, hE, hw⟩ := cW_gen hw
    have S0 := Sep.startM (M := [p_reader, l_reader_octs]) sG (all_cons (some_ne h_p_reader) (all_cons (some_ne h_l_reader_octs) all_nil)) gM
    unfold F__get_switch at hw
    refine ⟨_, rfl, _, _, _, rfl, h_p_reader, rfl, rfl, rfl, G, _, _, _, reader', _, rfl, S0.sG, (S0.gno (all_cons (.head _) (all_cons (.tail _ (.head _)) all_nil))), h_p_reader, h_l_reader_octs, cW_call hw (fun v657 hw H658 x659 h661 h662  => ?_) (fun e he H2 e2 => hE e he H2 (Same.trans (Same.refl _) e2))⟩
    have S660 := S0.mut x659 (all_cons (.head _) (all_cons (.tail _ (.head _)) all_nil)) (all_cons (some_ne h661) (all_cons (some_ne h662) all_nil))
    refine ⟨_, _, rfl, rfl, ?_⟩
    have hw := cW_ok hw
    exact hK0 _ hw _ S660.base h661 h662

abbrev N_BitReader__zeros : List Str := ["self", "zeros"]
theorem sc_BitReader__zeros : FnScope N_BitReader__zeros ["self"] (defScope s_BitReader__zeros) := ⟨rfl, rfl, rfl, by decide +kernel, rfl, by decide +kernel, by decide +kernel⟩
theorem ok_BitReader__zeros (D : MethX K AD.c_BitReader "BitReader._zeros" "_zeros" s_BitReader__zeros ["self"] pats_BitReader__zeros) (T : Txt w K mg AD) (c_BitReader__look : MetX P w K mg base 1 AD.c_BitReader "_look" (sp_BitReader__look K AD) pats_BitReader__look) : MetX P w K mg base 2 AD.c_BitReader "_zeros" (sp_BitReader__zeros K AD) pats_BitReader__zeros := by
  refine D.ok T.cl_BitReader sc_BitReader__zeros (fun vs H Q E h => ?_) (fun f cdv A_ outer s H vs Q E hr h => ?_)
  · obtain ⟨G, p_self, l_self_octs, dx_self, self', rfl, _⟩ := h
    rfl
  · obtain ⟨G, p_self, l_self_octs, dx_self, self', rfl, sG, h_p_self, h_l_self_octs, hw⟩ := h
    refine ⟨_, (pss_cons (ps_set (i := 1) sc_BitReader__zeros.nd rfl (Or.inl rfl) pe_int)
      (pss_cons (ps_while (passes_of rfl) (pt_cmp (pc_eqI (vx_methX c_BitReader__look pat_BitReader__look_0 (.head _) hr (by decide) (takes_of rfl rfl rfl rfl) (pv 0) (pa_cons (pe_op op_add (fldK (K := K) (pv 0)) (pv 1)) (pa_cons pe_int pa_nil)) pk_nil) pe_int)) (pss_cons (ps_aug (i := 1) sc_BitReader__zeros.nd rfl (Or.inl rfl) pe_int (pip iop_add))
      (pss_one (ps_if (pt_cmp (pc_gt (pv 1) (C8.pe_gc rfl T.g_MOST_ZEROS))) (pss_one (ps_raise rfl (takes_of rfl rfl rfl rfl) (pmk_own PySem.F.excBase_ValueError T.xx_BadOctets T.xg_BadOctets T.xk_BadOctets (raises_own T.xb_BadOctets T.xt_BadOctets) rfl))) pss_nil))))
      (pss_one (ps_ret (pv 1))))), ?_⟩
    obtain ⟨KK, EE, hK0, hE, hw⟩ := cW_gen hw
    have S0 := Sep.startG sG
    unfold F_BitReader__zeros at hw
    obtain ⟨K668, hK669, hw⟩ := cW_push hw
    refine ⟨fun m σ H' => ∃ (zeros_670 : Int) (G' : Hp), σ = [some (V.ref p_self), some (V.int zeros_670)] ∧ Same G G' ∧ Sep [] H G G' H' [] ∧ cW (whileR m zeros_670 (fun s => F_BitReader__zeros_b1 (self') s)) K668 EE, ?_, ?_⟩
    · exact ⟨_, ⟨(0), _, rfl, (Same.refl _), S0, hw⟩⟩
    · intro m σ H671 hw
      obtain ⟨zeros_670, G673, rfl, eG674, S672, hw⟩ := hw
      obtain ⟨m675, rfl, hw2⟩ := cW_whileR hw
      have hw := hw2
      have hw : cW (F_BitReader__zeros_b1 (self') (zeros_670)) _ EE := hw
      unfold F_BitReader__zeros_b1 at hw
      obtain ⟨K677, hK678, hw⟩ := cW_name hw
      refine ⟨_, rfl, _, _, _, rfl, (S672.bM _ _ h_p_self), rfl, _, rfl, _, _, _, _, _, rfl, (S672.bM _ _ h_p_self), T.cl_BitReader, T.n_BitReader__place, rfl, _, rfl, _, _, rfl, rfl, rfl, rfl, G673, _, _, _, self', _, _, rfl, S672.sG, (hide_nil (S672.bM _ _ h_p_self)), (hide_nil (S672.bM _ _ h_l_self_octs)), cW_call hw (fun v679 hw H680 e681 => ?_) (fun e he H2 e2 => hE e he H2 (Same.trans S672.b0 e2))⟩
      have S682 := S672.same e681
      refine ⟨_, _, rfl, rfl, _, rfl, ?_⟩
      refine iteD (fun c683 => ?_) (fun c683 => ?_)
      · have hw := cW_pos c683 hw
        refine ⟨(fun σ H' => ∃ m, (∃ (zeros_670 : Int) (G' : Hp), σ = [some (V.ref p_self), some (V.int zeros_670)] ∧ Same G G' ∧ Sep [] H G G' H' [] ∧ cW (whileR m zeros_670 (fun s => F_BitReader__zeros_b1 (self') s)) K668 EE) ∧ m < m675 + 1), (fun _ _ ⟨m', a, b⟩ => ⟨m', b, a⟩), ?_⟩
        refine ⟨_, rfl, _, _, rfl, rfl, ?_⟩
        have hw := cW_bnd hw
        refine ⟨_, rfl, _, _, rfl, rfl, _, rfl, ?_⟩
        refine iteD (fun c685 => ?_) (fun c685 => ?_)
        · have hw := cW_pos c685 hw
          exact hE 4 (cW_er hw) _ S682.b0
        · have hw := cW_neg c685 hw
          have hw := cW_ok hw
          have hw := hK678 _ hw
          exact ⟨m675, ⟨((zeros_670 + 1)), _, rfl, eG674, S682, hw⟩, Nat.lt_succ_self _⟩
      · have hw := cW_neg c683 hw
        have hw := cW_ok hw
        have hw := hK678 _ hw
        have hw := cW_aftgo (hK669 (.go _) hw)
        have hw : cW (F_BitReader__zeros_r1  (zeros_670)) _ EE := hw
        unfold F_BitReader__zeros_r1 at hw
        refine ⟨_, rfl, ?_⟩
        have hw := cW_ok hw
        exact hK0 _ hw _ S682.b0

abbrev N_BitReader_get_ue : List Str := ["self", "zeros"]
theorem sc_BitReader_get_ue : FnScope N_BitReader_get_ue ["self"] (defScope s_BitReader_get_ue) := ⟨rfl, rfl, rfl, by decide +kernel, rfl, by decide +kernel, by decide +kernel⟩
theorem ok_BitReader_get_ue (D : MethX K AD.c_BitReader "BitReader.get_ue" "get_ue" s_BitReader_get_ue ["self"] pats_BitReader_get_ue) (T : Txt w K mg AD) (c_BitReader__zeros : MetX P w K mg base 2 AD.c_BitReader "_zeros" (sp_BitReader__zeros K AD) pats_BitReader__zeros) (c_BitReader__take : MetX P w K mg base 2 AD.c_BitReader "_take" (sp_BitReader__take K AD) pats_BitReader__take) : MetX P w K mg base 3 AD.c_BitReader "get_ue" (sp_BitReader_get_ue K AD) pats_BitReader_get_ue := by
  refine D.ok T.cl_BitReader sc_BitReader_get_ue (fun vs H Q E h => ?_) (fun f cdv A_ outer s H vs Q E hr h => ?_)
  · obtain ⟨G, p_self, l_self_octs, dx_self, self', rfl, _⟩ := h
    rfl
  · obtain ⟨G, p_self, l_self_octs, dx_self, self', rfl, sG, gM, h_p_self, h_l_self_octs, hw⟩ := h
    refine ⟨_, (pss_cons (ps_set (i := 1) sc_BitReader_get_ue.nd rfl (Or.inl rfl) (vx_methX0 c_BitReader__zeros pat_BitReader__zeros_0 (.head _) hr (by decide) (takes_of rfl rfl rfl rfl) (pv 0)))
      (pss_one (ps_ret (pe_op op_sub (vx_methX c_BitReader__take pat_BitReader__take_0 (.head _) hr (by decide) (takes_of rfl rfl rfl rfl) (pv 0) (pa_cons (pe_op op_add (pe_op op_mul pe_int (pv 1)) pe_int) pa_nil) pk_nil) pe_int)))), ?_⟩
    obtain ⟨KK, EE, hK0, hE, hw⟩ := cW_gen hw
    have S0 := Sep.startM (M := [p_self, l_self_octs]) sG (all_cons (some_ne h_p_self) (all_cons (some_ne h_l_self_octs) all_nil)) gM
    unfold F_BitReader_get_ue at hw
    refine ⟨_, rfl, _, _, _, rfl, h_p_self, rfl, rfl, rfl, G, _, _, _, self', rfl, S0.sG, (hide_nil h_p_self), (hide_nil h_l_self_octs), cW_call hw (fun v687 hw H688 e689 => ?_) (fun e he H2 e2 => hE e he H2 (Same.trans (Same.refl _) e2))⟩
    have S690 := S0.same e689
    have h691 := (e689 _ _ h_p_self)
    have h692 := (e689 _ _ h_l_self_octs)
    refine ⟨_, rfl, _, _, _, rfl, h691, rfl, _, rfl, _, _, rfl, rfl, (.inl ⟨by decide, by decide⟩), _, _, rfl, rfl, rfl, rfl, G, _, _, _, self', _, rfl, S690.sG, (S690.gno (all_cons (.head _) (all_cons (.tail _ (.head _)) all_nil))), h691, h692, cW_call hw (fun v693 hw H694 x695 h697 h698  => ?_) (fun e he H2 e2 => hE e he H2 (Same.trans e689 e2))⟩
    have S696 := S690.mut x695 (all_cons (.head _) (all_cons (.tail _ (.head _)) all_nil)) (all_cons (some_ne h697) (all_cons (some_ne h698) all_nil))
    refine ⟨_, _, rfl, rfl, ?_⟩
    have hw := cW_ok hw
    exact hK0 _ hw _ S696.base h697 h698

abbrev N__get_settings : List Str := ["reader", "width", "height", "depth", "fmt", "slots", "rows", "deblock", "offset", "layers"]
theorem sc__get_settings : FnScope N__get_settings ["reader"] (defScope s__get_settings) := ⟨rfl, rfl, rfl, by decide +kernel, rfl, by decide +kernel, by decide +kernel⟩
theorem ok__get_settings (D : DefX K mg "_get_settings" s__get_settings ["reader"] pats__get_settings) (T : Txt w K mg AD) (c__require : CalX P w K mg base 1 "_require" (sp__require K AD) pats__require) (c_BitReader_get : MetX P w K mg base 3 AD.c_BitReader "get" (sp_BitReader_get K AD) pats_BitReader_get) (c_BitReader_get_ue : MetX P w K mg base 3 AD.c_BitReader "get_ue" (sp_BitReader_get_ue K AD) pats_BitReader_get_ue) (c_Format___init__ : MakX P w K mg base 1 "Format" AD.c_Format (sp_Format___init__ K AD) pats_Format___init__) (c__get_switch : CalX P w K mg base 4 "_get_switch" (sp__get_switch K AD) pats__get_switch) (c_Settings___init__ : MakX P w K mg base 2 "Settings" AD.c_Settings (sp_Settings___init__ K AD) pats_Settings___init__) : CalX P w K mg base 5 "_get_settings" (sp__get_settings K AD) pats__get_settings := by
  refine D.ok sc__get_settings (fun vs H Q E h => ?_) (fun f cdv A_ outer s H vs Q E hr h => ?_)
  · obtain ⟨G, p_reader, l_reader_octs, dx_reader, reader', rfl, _⟩ := h
    rfl
  · obtain ⟨G, p_reader, l_reader_octs, dx_reader, reader', rfl, sG, gM, h_p_reader, h_l_reader_octs, hw⟩ := h
    refine ⟨_, (C8.pss_cut (ps_expr (vx_callX c__require pat__require_0 (.head _) hr (by decide) (takes_of rfl rfl rfl rfl) rfl (pa_cons (pe_cmp (pc_eqI (vx_methX c_BitReader_get pat_BitReader_get_0 (.head _) hr (by decide) (takes_of rfl rfl rfl rfl) (pv 0) (pa_cons pe_int pa_nil) pk_nil) (C8.pe_gc rfl T.g_VERSION))) (pa_cons pe_str pa_nil)) pk_nil))
      (pss_cons (ps_set (i := 1) sc__get_settings.nd rfl (Or.inl rfl) (pe_op op_add (vx_methX0 c_BitReader_get_ue pat_BitReader_get_ue_0 (.head _) hr (by decide) (takes_of rfl rfl rfl rfl) (pv 0)) pe_int))
      (pss_cons (ps_set (i := 2) sc__get_settings.nd rfl (Or.inl rfl) (pe_op op_add (vx_methX0 c_BitReader_get_ue pat_BitReader_get_ue_0 (.head _) hr (by decide) (takes_of rfl rfl rfl rfl) (pv 0)) pe_int))
      (pss_cons (ps_set (i := 3) sc__get_settings.nd rfl (Or.inl rfl) (pe_op op_add (vx_methX0 c_BitReader_get_ue pat_BitReader_get_ue_0 (.head _) hr (by decide) (takes_of rfl rfl rfl rfl) (pv 0)) pe_int))
      (pss_cons (ps_set (i := 4) sc__get_settings.nd rfl (Or.inl rfl) (vx_makeX c_Format___init__ pat_Format___init___0 (.head _) hr (by decide) (takes_of rfl rfl rfl rfl) rfl (pa_cons (pv 1) (pa_cons (pv 2) pa_nil)) (pk_cons (pv 3) (pk_cons (vx_methX0 c_BitReader_get_ue pat_BitReader_get_ue_0 (.head _) hr (by decide) (takes_of rfl rfl rfl rfl) (pv 0)) pk_nil))))
      (pss_cons (ps_set (i := 5) sc__get_settings.nd rfl (Or.inl rfl) (pe_op op_add (vx_methX0 c_BitReader_get_ue pat_BitReader_get_ue_0 (.head _) hr (by decide) (takes_of rfl rfl rfl rfl) (pv 0)) pe_int))
      (pss_cons (ps_set (i := 6) sc__get_settings.nd rfl (Or.inl rfl) (pe_op op_add (vx_methX0 c_BitReader_get_ue pat_BitReader_get_ue_0 (.head _) hr (by decide) (takes_of rfl rfl rfl rfl) (pv 0)) pe_int))
      (pss_cons (ps_set (i := 7) sc__get_settings.nd rfl (Or.inl rfl) (vx_callX c__get_switch pat__get_switch_0 (.head _) hr (by decide) (takes_of rfl rfl rfl rfl) rfl (pa_cons (pv 0) pa_nil) pk_nil))
      (pss_cons (ps_set (i := 8) sc__get_settings.nd rfl (Or.inl rfl) (vx_callX c__get_switch pat__get_switch_0 (.head _) hr (by decide) (takes_of rfl rfl rfl rfl) rfl (pa_cons (pv 0) pa_nil) pk_nil))
      (pss_cons (ps_set (i := 9) sc__get_settings.nd rfl (Or.inl rfl) (pe_op op_add (vx_methX0 c_BitReader_get_ue pat_BitReader_get_ue_0 (.head _) hr (by decide) (takes_of rfl rfl rfl rfl) (pv 0)) pe_int))
      (pss_one (ps_ret (vx_makeX c_Settings___init__ pat_Settings___init___0 (.head _) hr (by decide) (takes_of rfl rfl rfl rfl) rfl (pa_cons (pv 4) pa_nil) (pk_cons (pv 5) (pk_cons (pv 6) (pk_cons (pv 7) (pk_cons (pv 8) (pk_cons (pv 9) pk_nil)))))))))))))))))), ?_⟩
    obtain ⟨KK, EE, hK0, hE, hw⟩ := cW_gen hw
    have S0 := Sep.startM (M := [p_reader, l_reader_octs]) sG (all_cons (some_ne h_p_reader) (all_cons (some_ne h_l_reader_octs) all_nil)) gM
    unfold F__get_settings at hw
    refine ⟨fun σ H' => ∃ (reader_704 : St_BitReader) (G' : Hp), σ = [some (V.ref p_reader), none, none, none, none, none, none, none, none, none] ∧ Same G G' ∧ Sep [p_reader, l_reader_octs] H G G' H' [p_reader, l_reader_octs] ∧ H' p_reader = some (.ins AD.c_BitReader dx_reader [("_octets", V.ref l_reader_octs), ("_place", V.int (reader_704.place)), ("_end", V.int (reader_704.stop))]) ∧ H' l_reader_octs = some (.lst ((reader_704.octs : (List Int)).map V.int)) ∧ cW (F__get_settings_k1  reader_704) KK EE, ?_, ?_⟩
    · obtain ⟨K705, hK706, hw⟩ := cW_push hw
      refine ⟨_, rfl, _, _, _, rfl, h_p_reader, rfl, rfl, rfl, G, _, _, _, reader', _, rfl, S0.sG, (S0.gno (all_cons (.head _) (all_cons (.tail _ (.head _)) all_nil))), h_p_reader, h_l_reader_octs, cW_call hw (fun v707 hw H708 x709 h711 h712  => ?_) (fun e he H2 e2 => hE e he H2 (Same.trans (Same.refl _) e2))⟩
      have S710 := S0.mut x709 (all_cons (.head _) (all_cons (.tail _ (.head _)) all_nil)) (all_cons (some_ne h711) (all_cons (some_ne h712) all_nil))
      refine ⟨_, _, rfl, rfl, rfl, rfl, G, _, _, rfl, S710.sG, cW_callN hw (fun v717 hw => ?_) trivial⟩
      have hw := cW_ok hw
      have hw := hK706 _ hw
      exact ⟨(v707.2), _, rfl, (Same.refl _), S710, h711, h712, hw⟩
    · intro σ H718 hw
      obtain ⟨reader_704, G722, rfl, eG723, S719, h720, h721, hw⟩ := hw
      unfold F__get_settings_k1 at hw
      refine ⟨_, rfl, _, _, _, rfl, h720, rfl, rfl, rfl, G722, _, _, _, reader_704, rfl, S719.sG, (S719.gno (all_cons (.head _) (all_cons (.tail _ (.head _)) all_nil))), h720, h721, cW_callN hw (fun v724 hw H725 x726 h728 h729  => ?_) trivial⟩
      have S727 := S719.mut x726 (all_cons (.head _) (all_cons (.tail _ (.head _)) all_nil)) (all_cons (some_ne h728) (all_cons (some_ne h729) all_nil))
      refine ⟨_, _, rfl, rfl, ?_⟩
      have hw := cW_bnd hw
      refine ⟨_, rfl, _, _, _, rfl, h728, rfl, rfl, rfl, G722, _, _, _, v724.2, rfl, S727.sG, (S727.gno (all_cons (.head _) (all_cons (.tail _ (.head _)) all_nil))), h728, h729, cW_callN hw (fun v735 hw H736 x737 h739 h740  => ?_) trivial⟩
      have S738 := S727.mut x737 (all_cons (.head _) (all_cons (.tail _ (.head _)) all_nil)) (all_cons (some_ne h739) (all_cons (some_ne h740) all_nil))
      refine ⟨_, _, rfl, rfl, ?_⟩
      have hw := cW_bnd hw
      refine ⟨_, rfl, _, _, _, rfl, h739, rfl, rfl, rfl, G722, _, _, _, v735.2, rfl, S738.sG, (S738.gno (all_cons (.head _) (all_cons (.tail _ (.head _)) all_nil))), h739, h740, cW_callN hw (fun v746 hw H747 x748 h750 h751  => ?_) trivial⟩
      have S749 := S738.mut x748 (all_cons (.head _) (all_cons (.tail _ (.head _)) all_nil)) (all_cons (some_ne h750) (all_cons (some_ne h751) all_nil))
      refine ⟨_, _, rfl, rfl, ?_⟩
      have hw := cW_bnd hw
      refine ⟨_, rfl, _, rfl, _, rfl, _, rfl, _, _, _, rfl, h750, rfl, rfl, rfl, G722, _, _, _, v746.2, rfl, S749.sG, (S749.gno (all_cons (.head _) (all_cons (.tail _ (.head _)) all_nil))), h750, h751, cW_callN hw (fun v757 hw H758 x759 h761 h762  => ?_) trivial⟩
      have S760 := S749.mut x759 (all_cons (.head _) (all_cons (.tail _ (.head _)) all_nil)) (all_cons (some_ne h761) (all_cons (some_ne h762) all_nil))
      refine ⟨rfl, rfl, fun x767 dx768 n769 n770 n771 => ?_⟩
      generalize g772 : upd (upd H758 dx768 _) x767 _ = H773
      obtain ⟨e774, h775⟩ := gen_obj n769 n770 n771 g772
      have fr776 := S760.free n769
      have S777 := S760.new n769 e774 h775 fr776
      refine ⟨G722, _, _, _, _, _, _, rfl, S777.sG, (S777.gno (all_cons (.head _) all_nil)), h775, cW_callN hw (fun v778 hw H779 x780 h781 => ⟨rfl, ?_⟩) trivial⟩
      have S782 : Sep _ _ _ _ H779 [x767, p_reader, l_reader_octs] := Sep.init S777 x780 (.head _) h781 [] all_nil
      have h783 := ((SameXs.of x780) _ _ (e774 _ _ h761) (ni1 (ne_of_none h761 n769)))
      have h784 := ((SameXs.of x780) _ _ (e774 _ _ h762) (ni1 (ne_of_none h762 n769)))
      refine ⟨_, rfl, _, _, _, rfl, h783, rfl, rfl, rfl, G722, _, _, _, v757.2, rfl, S782.sG, (S782.gno (all_cons (.tail _ (.head _)) (all_cons (.tail _ (.tail _ (.head _))) all_nil))), h783, h784, cW_callN hw (fun v785 hw H786 x787 h789 h790  => ?_) trivial⟩
      have S788 := S782.mut x787 (all_cons (.tail _ (.head _)) (all_cons (.tail _ (.tail _ (.head _))) all_nil)) (all_cons (some_ne h789) (all_cons (some_ne h790) all_nil))
      refine ⟨_, _, rfl, rfl, ?_⟩
      have hw := cW_bnd hw
      refine ⟨_, rfl, _, _, _, rfl, h789, rfl, rfl, rfl, G722, _, _, _, v785.2, rfl, S788.sG, (S788.gno (all_cons (.tail _ (.head _)) (all_cons (.tail _ (.tail _ (.head _))) all_nil))), h789, h790, cW_callN hw (fun v796 hw H797 x798 h800 h801  => ?_) trivial⟩
      have S799 := S788.mut x798 (all_cons (.tail _ (.head _)) (all_cons (.tail _ (.tail _ (.head _))) all_nil)) (all_cons (some_ne h800) (all_cons (some_ne h801) all_nil))
      refine ⟨_, _, rfl, rfl, ?_⟩
      have hw := cW_bnd hw
      refine ⟨_, rfl, rfl, rfl, G722, _, _, _, v796.2, rfl, S799.sG, (S799.gno (all_cons (.tail _ (.head _)) (all_cons (.tail _ (.tail _ (.head _))) all_nil))), h800, h801, cW_callN hw (fun v807 hw H808 x809 h811 h812  => ?_) trivial⟩
      have S810 := S799.mut x809 (all_cons (.tail _ (.head _)) (all_cons (.tail _ (.tail _ (.head _))) all_nil)) (all_cons (some_ne h811) (all_cons (some_ne h812) all_nil))
      refine ⟨_, rfl, rfl, rfl, G722, _, _, _, v807.2, rfl, S810.sG, (S810.gno (all_cons (.tail _ (.head _)) (all_cons (.tail _ (.tail _ (.head _))) all_nil))), h811, h812, cW_callN hw (fun v817 hw H818 x819 h821 h822  => ?_) trivial⟩
      have S820 := S810.mut x819 (all_cons (.tail _ (.head _)) (all_cons (.tail _ (.tail _ (.head _))) all_nil)) (all_cons (some_ne h821) (all_cons (some_ne h822) all_nil))
      refine ⟨_, rfl, _, _, _, rfl, h821, rfl, rfl, rfl, G722, _, _, _, v817.2, rfl, S820.sG, (S820.gno (all_cons (.tail _ (.head _)) (all_cons (.tail _ (.tail _ (.head _))) all_nil))), h821, h822, cW_callN hw (fun v827 hw H828 x829 h831 h832  => ?_) trivial⟩
      have S830 := S820.mut x829 (all_cons (.tail _ (.head _)) (all_cons (.tail _ (.tail _ (.head _))) all_nil)) (all_cons (some_ne h831) (all_cons (some_ne h832) all_nil))
      refine ⟨_, _, rfl, rfl, ?_⟩
      have hw := cW_bnd hw
      refine ⟨_, rfl, _, rfl, _, rfl, _, rfl, _, rfl, _, rfl, rfl, rfl, fun x838 dx839 n840 n841 n842 => ?_⟩
      generalize g843 : upd (upd H828 dx839 _) x838 _ = H844
      obtain ⟨e845, h846⟩ := gen_obj n840 n841 n842 g843
      have fr847 := S830.free n840
      have S848 := S830.new n840 e845 h846 fr847
      have h849 := (e845 _ _ (x829 _ _ (x819 _ _ (x809 _ _ (x798 _ _ (x787 _ _ h781 (ni2 (ne_of_none h761 n769).symm (ne_of_none h762 n769).symm)) (ni2 (ne_of_none h761 n769).symm (ne_of_none h762 n769).symm)) (ni2 (ne_of_none h761 n769).symm (ne_of_none h762 n769).symm)) (ni2 (ne_of_none h761 n769).symm (ne_of_none h762 n769).symm)) (ni2 (ne_of_none h761 n769).symm (ne_of_none h762 n769).symm)))
      refine ⟨G722, _, _, _, _, v778, _, _, _, _, _, rfl, S848.sG, (S848.gno (all_cons (.head _) all_nil)), h846, ((hideL_out (ni1 (ne_of_none (x829 _ _ (x819 _ _ (x809 _ _ (x798 _ _ (x787 _ _ h781 (ni2 (ne_of_none h761 n769).symm (ne_of_none h762 n769).symm)) (ni2 (ne_of_none h761 n769).symm (ne_of_none h762 n769).symm)) (ni2 (ne_of_none h761 n769).symm (ne_of_none h762 n769).symm)) (ni2 (ne_of_none h761 n769).symm (ne_of_none h762 n769).symm)) (ni2 (ne_of_none h761 n769).symm (ne_of_none h762 n769).symm)) n840))).trans h849), cW_callN hw (fun v850 hw H851 x852 h853 => ⟨rfl, ?_⟩) trivial⟩
      have S854 : Sep _ _ _ _ H851 [x838, x767, p_reader, l_reader_octs] := Sep.init S848 x852 (.head _) h853 [] all_nil
      have h855 := ((SameXs.of x852) _ _ (e845 _ _ h831) (ni1 (ne_of_none h831 n840)))
      have h856 := ((SameXs.of x852) _ _ (e845 _ _ h832) (ni1 (ne_of_none h832 n840)))
      have h857 := ((SameXs.of x852) _ _ h849 (ni1 (ne_of_none (x829 _ _ (x819 _ _ (x809 _ _ (x798 _ _ (x787 _ _ h781 (ni2 (ne_of_none h761 n769).symm (ne_of_none h762 n769).symm)) (ni2 (ne_of_none h761 n769).symm (ne_of_none h762 n769).symm)) (ni2 (ne_of_none h761 n769).symm (ne_of_none h762 n769).symm)) (ni2 (ne_of_none h761 n769).symm (ne_of_none h762 n769).symm)) (ni2 (ne_of_none h761 n769).symm (ne_of_none h762 n769).symm)) n840)))
      have hw := cW_ok hw
      exact hK0 _ hw _ S854.base h855 h856 _ _ _ _ fr847 fr776 (ne_of_none (x829 _ _ (x819 _ _ (x809 _ _ (x798 _ _ (x787 _ _ h781 (ni2 (ne_of_none h761 n769).symm (ne_of_none h762 n769).symm)) (ni2 (ne_of_none h761 n769).symm (ne_of_none h762 n769).symm)) (ni2 (ne_of_none h761 n769).symm (ne_of_none h762 n769).symm)) (ni2 (ne_of_none h761 n769).symm (ne_of_none h762 n769).symm)) (ni2 (ne_of_none h761 n769).symm (ne_of_none h762 n769).symm)) n840).symm h853 h857

abbrev N_BitReader_left : List Str := ["self"]
theorem sc_BitReader_left : FnScope N_BitReader_left ["self"] (defScope s_BitReader_left) := ⟨rfl, rfl, rfl, by decide +kernel, rfl, by decide +kernel, by decide +kernel⟩
theorem ok_BitReader_left (D : PropX K AD.c_BitReader "BitReader.left" "left" s_BitReader_left ["self"] pats_BitReader_left) (T : Txt w K mg AD)  : PropY P w K mg base 1 AD.c_BitReader "left" (sp_BitReader_left K AD) pats_BitReader_left := by
  refine D.ok T.cl_BitReader sc_BitReader_left (fun vs H Q E h => ?_) (fun f cdv A_ outer s H vs Q E hr h => ?_)
  · obtain ⟨G, p_self, l_self_octs, dx_self, self', rfl, _⟩ := h
    rfl
  · obtain ⟨G, p_self, l_self_octs, dx_self, self', rfl, sG, h_p_self, h_l_self_octs, hw⟩ := h
    refine ⟨_, (pss_one (ps_ret (pe_op op_sub (fldK (K := K) (pv 0)) (fldK (K := K) (pv 0))))), ?_⟩
    obtain ⟨KK, EE, hK0, hE, hw⟩ := cW_gen hw
    have S0 := Sep.startG sG
    unfold F_BitReader_left at hw
    refine ⟨_, rfl, _, _, _, _, _, rfl, (S0.bM _ _ h_p_self), T.cl_BitReader, T.n_BitReader__end, rfl, _, rfl, _, _, _, _, _, rfl, (S0.bM _ _ h_p_self), T.cl_BitReader, T.n_BitReader__place, rfl, _, _, rfl, rfl, ?_⟩
    have hw := cW_ok hw
    exact hK0 _ hw _ S0.b0

abbrev N_read_settings : List Str := ["payload", "reader", "settings"]
theorem sc_read_settings : FnScope N_read_settings ["payload"] (defScope s_read_settings) := ⟨rfl, rfl, rfl, by decide +kernel, rfl, by decide +kernel, by decide +kernel⟩
theorem ok_read_settings (D : DefX K mg "read_settings" s_read_settings ["payload"] pats_read_settings) (T : Txt w K mg AD) (c_BitReader___init__ : MakX P w K mg base 2 "BitReader" AD.c_BitReader (sp_BitReader___init__ K AD) pats_BitReader___init__) (c__get_settings : CalX P w K mg base 5 "_get_settings" (sp__get_settings K AD) pats__get_settings) (c__require : CalX P w K mg base 1 "_require" (sp__require K AD) pats__require) (c_BitReader_left : PropY P w K mg base 1 AD.c_BitReader "left" (sp_BitReader_left K AD) pats_BitReader_left) : CalX P w K mg base 6 "read_settings" (sp_read_settings K AD) pats_read_settings := by
  refine D.ok sc_read_settings (fun vs H Q E h => ?_) (fun f cdv A_ outer s H vs Q E hr h => ?_)
  · obtain ⟨G, a_payload, payload', rfl, _⟩ := h
    rfl
  · obtain ⟨G, a_payload, payload', rfl, sG, q_payload, hw⟩ := h
    refine ⟨_, (pss_cons (ps_try_thru0 (pss_cons (ps_set (i := 1) sc_read_settings.nd rfl (Or.inl rfl) (vx_makeX c_BitReader___init__ pat_BitReader___init___0 (.head _) hr (by decide) takes0 rfl (pa_cons (pv 0) pa_nil) pk_nil))
      (pss_one (ps_set (i := 2) sc_read_settings.nd rfl (Or.inl rfl) (vx_callX c__get_settings pat__get_settings_0 (.head _) hr (by decide) takes0 rfl (pa_cons (pv 1) pa_nil) pk_nil)))))
      (C8.pss_cut (ps_expr (vx_callX c__require pat__require_0 (.head _) hr (by decide) (takes_of rfl rfl rfl rfl) rfl (pa_cons (pe_cmp (pc_eqI (vx_propX c_BitReader_left hr (by decide) (pv 1)) pe_int)) (pa_cons pe_str pa_nil)) pk_nil))
      (pss_one (ps_ret (pv 2))))), ?_⟩
    obtain ⟨KK, EE, hK0, hE, hw⟩ := cW_gen hw
    have S0 := Sep.startG sG
    unfold F_read_settings at hw
    refine ⟨_, rfl, rfl, rfl, fun x858 dx859 n860 n861 n862 => ?_⟩
    generalize g863 : upd (upd H dx859 _) x858 _ = H864
    obtain ⟨e865, h866⟩ := gen_obj n860 n861 n862 g863
    have fr867 := S0.free n860
    have S868 := S0.new n860 e865 h866 fr867
    refine ⟨G, _, _, _, _, rfl, S868.sG, (S868.gno (all_cons (.head _) all_nil)), h866, ((hideL_out (ni1 (b_ne q_payload S868 (.head _)))).trans (S868.bM _ _ q_payload)), cW_callN hw (fun v869 hw H871 l870 x872 n876 h873 h875 => ⟨rfl, ?_⟩) trivial⟩
    have fr877 := S868.free n876
    have S874 : Sep _ _ _ _ H871 [l870, x858] := Sep.init S868 x872 (.head _) h873 [l870] (all_cons ⟨n876, some_ne h875, fr877⟩ all_nil)
    refine ⟨_, rfl, rfl, rfl, G, _, _, _, v869, rfl, S874.sG, (S874.gno (all_cons (.tail _ (.head _)) (all_cons (.head _) all_nil))), h873, h875, cW_callN hw (fun v878 hw H879 x880 h882 h883 p884 p885 dx886 dx887 n888 n889 ne892 h890 h891 => ?_) trivial⟩
    have fr893 := S874.free n888
    have fr894 := S874.free n889
    have S881 := Sep.mutnews S874 x880 (all_cons (.tail _ (.head _)) (all_cons (.head _) all_nil)) (all_cons (some_ne h882) (all_cons (some_ne h883) all_nil)) [p884, p885] (all_cons ⟨n888, some_ne h890, fr893⟩ (all_cons ⟨n889, some_ne h891, fr894⟩ all_nil))
    refine ⟨fun σ H' => ∃ (G' : Hp), σ = [some (V.ref a_payload), some (V.ref x858), some (V.ref p884)] ∧ Same G G' ∧ Sep [] H G G' H' [x858, l870, p884, p885] ∧ H' x858 = some (.ins AD.c_BitReader dx859 [("_octets", V.ref l870), ("_place", V.int (v878.2.place)), ("_end", V.int (v878.2.stop))]) ∧ H' l870 = some (.lst ((v878.2.octs : (List Int)).map V.int)) ∧ H' p884 = some (.ins AD.c_Settings dx886 [("fmt", V.ref p885), ("slots", V.int (v878.1.slots)), ("rows", V.int (v878.1.rows)), ("deblock", V.bl (v878.1.deblock)), ("offset", V.bl (v878.1.offset)), ("layers", V.int (v878.1.layers))]) ∧ H' p885 = some (.ins AD.c_Format dx887 [("width", V.int (v878.1.fmt.width)), ("height", V.int (v878.1.fmt.height)), ("depth", V.int (v878.1.fmt.depth)), ("chroma", V.int (v878.1.fmt.chroma))]) ∧ cW (F_read_settings_k1 (v878.1) ) KK EE, ?_, ?_⟩
    · obtain ⟨K896, hK897, hw⟩ := cW_push hw
      refine ⟨_, rfl, _, _, _, rfl, h882, G, _, _, _, v878.2, rfl, S881.sG, (hide_nil h882), (hide_nil h883), cW_callN hw (fun v898 hw H899 e900 => ?_) trivial⟩
      have S901 := S881.same e900
      refine ⟨_, _, rfl, rfl, rfl, rfl, G, _, _, rfl, S901.sG, cW_call hw (fun v902 hw => ?_) (fun e he => hE e he _ S901.b0)⟩
      have hw := cW_ok hw
      have hw := hK897 _ hw
      have h903 := (e900 _ _ h882)
      have h904 := (e900 _ _ h883)
      have h905 := (e900 _ _ h890)
      have h906 := (e900 _ _ h891)
      exact ⟨_, rfl, (Same.refl _), (S901.sub (all_cons (.tail _ (.tail _ (.tail _ (.head _)))) (all_cons (.tail _ (.tail _ (.head _))) (all_cons (.head _) (all_cons (.tail _ (.head _)) all_nil))))), h903, h904, h905, h906, hw⟩
    · intro σ H907 hw
      obtain ⟨G913, rfl, eG914, S908, h909, h910, h911, h912, hw⟩ := hw
      unfold F_read_settings_k1 at hw
      refine ⟨_, rfl, ?_⟩
      have hw := cW_ok hw
      exact hK0 _ hw _ _ _ _ _ S908.b0 fr893 fr894 ne892 h911 h912

abbrev N__law_same : List Str := ["settings", "n", "fmt", "switch"]
theorem sc__law_same : FnScope N__law_same ["settings", "n"] (defScope s__law_same) := ⟨rfl, rfl, rfl, by decide +kernel, rfl, by decide +kernel, by decide +kernel⟩
theorem ok__law_same (D : DefX K mg "_law_same" s__law_same ["settings", "n"] pats__law_same) (T : Txt w K mg AD)  : CalX P w K mg base 1 "_law_same" (sp__law_same K AD) pats__law_same := by
  refine D.ok sc__law_same (fun vs H Q E h => ?_) (fun f cdv A_ outer s H vs Q E hr h => ?_)
  · obtain ⟨G, p_settings, p_settings_fmt, dx_settings, dx_settings_fmt, settings', a_n, n', rfl, _⟩ := h
    rfl
  · obtain ⟨G, p_settings, p_settings_fmt, dx_settings, dx_settings_fmt, settings', a_n, n', rfl, sG, h_p_settings, h_p_settings_fmt, q_n, hw⟩ := h
    refine ⟨_, (pss_cons (ps_set (i := 2) sc__law_same.nd rfl (Or.inl rfl) (fldK (K := K) (pv 0)))
      (pss_cons (ps_if (pt_cmpR (op_neT (encOk_L encOk_int) hr.units) (pe_lst (pa_cons (fldK (K := K) (pv 2)) (pa_cons (fldK (K := K) (pv 2)) (pa_cons (fldK (K := K) (pv 2)) (pa_cons (fldK (K := K) (pv 2)) (pa_cons (fldK (K := K) (pv 0)) (pa_cons (fldK (K := K) (pv 0)) (pa_cons (fldK (K := K) (pv 0)) pa_nil)))))))) (pe_op op_cat (pe_slice (sl_listK (K := K)) (pv 1) po_none (po_some pe_int)) (pe_slice (sl_listK (K := K)) (pv 1) (po_some pe_int) po_none)) (nomark _)) (pss_one (ps_ret pe_bl)) pss_nil)
      (pss_cons (ps_for (passes_of rfl) rfl (pi_listK (K := K) (pe_lst (pa_cons (fldK (K := K) (pv 0)) (pa_cons (fldK (K := K) (pv 0)) pa_nil)))) (pg_name (i := 3) sc__law_same.nd rfl (Or.inl rfl)) (pss_one (ps_if (pt_not (pt_val (pe_callB call_isi (by rfl) T.b_isinstance (by decide +kernel) (pa_cons (pv 3) (pa_cons (pe_bltn (v := V.ty "bool") (u := Value.type "bool") (by rfl) T.b_bool (by decide +kernel) rfl) pa_nil))))) (pss_one (ps_ret pe_bl)) pss_nil)))
      (pss_one (ps_ret (pe_cmpR (op_eqT (encOk_L encOk_int) hr.units) (pe_lst (pa_cons (pe_callTy call_int1 (by rfl) T.b_int (by decide +kernel) (pa_cons (fldK (K := K) (pv 0)) pa_nil)) (pa_cons (pe_callTy call_int1 (by rfl) T.b_int (by decide +kernel) (pa_cons (fldK (K := K) (pv 0)) pa_nil)) pa_nil))) (pe_slice (sl_listK (K := K)) (pv 1) (po_some pe_int) (po_some pe_int)) (nomark _))))))), ?_⟩
    obtain ⟨KK, EE, hK0, hE, hw⟩ := cW_gen hw
    have S0 := Sep.startG sG
    unfold F__law_same at hw
    refine ⟨_, rfl, _, _, _, _, _, rfl, (S0.bM _ _ h_p_settings), T.cl_Settings, T.n_Settings_fmt, rfl, _, rfl, _, _, _, _, _, rfl, (S0.bM _ _ h_p_settings_fmt), T.cl_Format, T.n_Format_width, rfl, _, rfl, _, _, _, _, _, rfl, (S0.bM _ _ h_p_settings_fmt), T.cl_Format, T.n_Format_height, rfl, _, rfl, _, _, _, _, _, rfl, (S0.bM _ _ h_p_settings_fmt), T.cl_Format, T.n_Format_depth, rfl, _, rfl, _, _, _, _, _, rfl, (S0.bM _ _ h_p_settings_fmt), T.cl_Format, T.n_Format_chroma, rfl, _, rfl, _, _, _, _, _, rfl, (S0.bM _ _ h_p_settings), T.cl_Settings, T.n_Settings_slots, rfl, _, rfl, _, _, _, _, _, rfl, (S0.bM _ _ h_p_settings), T.cl_Settings, T.n_Settings_rows, rfl, _, rfl, _, _, _, _, _, rfl, (S0.bM _ _ h_p_settings), T.cl_Settings, T.n_Settings_layers, rfl, (by show 7 ≤ sizeLine; decide), fun p915 n916 => ?_⟩
    generalize g917 : upd H p915 _ = H918
    obtain ⟨e919, h920⟩ := gen_new n916 g917
    have h921 : H918 p915 = some (.lst (([settings'.fmt.width, settings'.fmt.height, settings'.fmt.depth, settings'.fmt.chroma, settings'.slots, settings'.rows, settings'.layers] : (List Int)).map V.int)) := h920
    have fr922 := S0.free n916
    have S923 := S0.new n916 e919 h921 fr922
    refine ⟨_, rfl, _, rfl, _, _, rfl, (SqL.of (S923.bM _ _ q_n)), fun p924 n925 => ?_⟩
    generalize g926 : upd H918 p924 _ = H927
    obtain ⟨e928, h929⟩ := gen_new n925 g926
    have h930 : H927 p924 = some (.lst ((cutL (n') none (some (6)) : (List Int)).map V.int)) := cut_map h929
    have fr931 := S923.free n925
    have S932 := S923.new n925 e928 h930 fr931
    refine ⟨_, rfl, _, rfl, _, _, rfl, (SqL.of (S932.bM _ _ q_n)), fun p933 n934 => ?_⟩
    generalize g935 : upd H927 p933 _ = H936
    obtain ⟨e937, h938⟩ := gen_new n934 g935
    have h939 : H936 p933 = some (.lst ((cutL (n') (some (8)) none : (List Int)).map V.int)) := cut_map h938
    have fr940 := S932.free n934
    have S941 := S932.new n934 e937 h939 fr940
    obtain ⟨g942, hw⟩ := cW_grd hw
    have h943 := (e937 _ _ h930)
    refine ⟨_, _, _, _, rfl, rfl, h943, h939, (cat_lenM g942), fun p944 n945 => ?_⟩
    generalize g946 : upd H936 p944 _ = H947
    obtain ⟨e948, h949⟩ := gen_new n945 g946
    have h950 : H947 p944 = some (.lst (((cutL (n') none (some (6))) ++ (cutL (n') (some (8)) none) : (List Int)).map V.int)) := cat_map h949
    have fr951 := S941.free n945
    have S952 := S941.new n945 e948 h950 fr951
    have h953 := (e948 _ _ (e937 _ _ (e928 _ _ h921)))
    refine ⟨_, _, (rp_mk_ints h953), (rp_mk_ints h950), _, rfl, ?_⟩
    refine iteN (fun c954 => ?_) (fun c954 => ?_)
    · have hw := cW_neg c954 hw
      have hw := cW_ok hw
      exact hK0 _ hw _ S952.b0
    · have hw := cW_pos c954 hw
      refine ⟨_, rfl, _, _, _, _, _, rfl, (S952.bM _ _ h_p_settings), T.cl_Settings, T.n_Settings_deblock, rfl, _, rfl, _, _, _, _, _, rfl, (S952.bM _ _ h_p_settings), T.cl_Settings, T.n_Settings_offset, rfl, (by show 2 ≤ sizeLine; decide), fun p955 n956 => ?_⟩
      generalize g957 : upd H947 p955 _ = H958
      obtain ⟨e959, h960⟩ := gen_new n956 g957
      have h961 : H958 p955 = some (.lst (([settings'.deblock, settings'.offset] : (List Bool)).map V.bl)) := h960
      have fr962 := S952.free n956
      have S963 := S952.new n956 e959 h961 fr962
      obtain ⟨K966, hK967, hw⟩ := cW_push hw
      refine ⟨_, rfl, ⟨_, (SqL.of h961)⟩, for_list (K := K) (a := p955) (xs := ([settings'.deblock, settings'.offset] : (List Bool)).map V.bl) (fun i σ H' => ∃ (u968 : Option V) (G' : Hp), σ = [some (V.ref p_settings), some (V.ref a_n), some (V.ref p_settings_fmt), u968] ∧ Same G G' ∧ Sep [] H G G' H' [p955] ∧ H' p955 = some (.lst (([settings'.deblock, settings'.offset] : (List Bool)).map V.bl)) ∧ cW (forR (List.drop i ([settings'.deblock, settings'.offset])) () (fun s x => F__law_same_b1   x)) K966 EE) ?_ ?_ ?_ ?_⟩
      · exact ⟨_, _, rfl, (Same.refl _), (S963.sub (all_cons (.head _) all_nil)), h961, hw⟩
      · intro i σ H969 _ hw
        obtain ⟨u968, G972, rfl, eG973, S970, h971, hw⟩ := hw
        exact (SqL.of h971)
      · intro i x σ H974 hj hw
        obtain ⟨u968, G977, rfl, eG978, S975, h976, hw⟩ := hw
        obtain ⟨x979, hx, rfl⟩ := map_getF hj
        have hw := cW_forR hx hw
        have hw : cW (F__law_same_b1   (x979)) _ EE := hw
        unfold F__law_same_b1 at hw
        obtain ⟨K980, hK981, hw⟩ := cW_name hw
        refine ⟨_, rfl, _, _, _, _, _, rfl, (.ty _), (.base (.bl _)), rfl, _, rfl, ?_⟩
        refine iteF ?_
        have hw := cW_ok hw
        have hw := hK981 _ hw
        exact ⟨_, _, rfl, eG978, S975, h976, hw⟩
      · intro σ H983 hw
        obtain ⟨u968, G986, rfl, eG987, S984, h985, hw⟩ := hw
        have hw := cW_aftgo (hK967 _ (cW_forR0 (by rw [List.length_map]) hw))
        have hw : cW (F__law_same_r1 (settings') (n') ) _ EE := hw
        unfold F__law_same_r1 at hw
        refine ⟨_, rfl, _, _, _, _, _, rfl, (S984.bM _ _ h_p_settings), T.cl_Settings, T.n_Settings_deblock, rfl, .inr ⟨_, rfl, ?_⟩⟩
        refine ⟨_, rfl, _, _, _, _, _, rfl, (S984.bM _ _ h_p_settings), T.cl_Settings, T.n_Settings_offset, rfl, .inr ⟨_, rfl, ?_⟩⟩
        refine ⟨(by show 2 ≤ sizeLine; decide), fun p988 n989 => ?_⟩
        generalize g990 : upd H983 p988 _ = H991
        obtain ⟨e992, h993⟩ := gen_new n989 g990
        have h994 : H991 p988 = some (.lst (([(if settings'.deblock = true then 1 else 0), (if settings'.offset = true then 1 else 0)] : (List Int)).map V.int)) := h993
        have fr995 := S984.free n989
        have S996 := S984.new n989 e992 h994 fr995
        refine ⟨_, rfl, _, rfl, _, rfl, _, _, rfl, (SqL.of (S996.bM _ _ q_n)), fun p997 n998 => ?_⟩
        generalize g999 : upd H991 p997 _ = H1000
        obtain ⟨e1001, h1002⟩ := gen_new n998 g999
        have h1003 : H1000 p997 = some (.lst ((cutL (n') (some (6)) (some (8)) : (List Int)).map V.int)) := cut_map h1002
        have fr1004 := S996.free n998
        have S1005 := S996.new n998 e1001 h1003 fr1004
        have h1006 := (e1001 _ _ h994)
        refine ⟨_, _, (rp_mk_ints h1006), (rp_mk_ints h1003), ?_⟩
        have hw := cW_ok hw
        exact hK0 _ hw _ S1005.b0

abbrev N__law_cell : List Str := ["script", "k"]
theorem sc__law_cell : FnScope N__law_cell ["script", "k"] (defScope s__law_cell) := ⟨rfl, rfl, rfl, by decide +kernel, rfl, by decide +kernel, by decide +kernel⟩
theorem ok__law_cell (D : DefX K mg "_law_cell" s__law_cell ["script", "k"] pats__law_cell) (T : Txt w K mg AD)  : CalX P w K mg base 1 "_law_cell" (sp__law_cell K AD) pats__law_cell := by
  refine D.ok sc__law_cell (fun vs H Q E h => ?_) (fun f cdv A_ outer s H vs Q E hr h => ?_)
  · obtain ⟨G, a_script, script', k', rfl, _⟩ := h
    rfl
  · obtain ⟨G, a_script, script', k', rfl, sG, q_script, hw⟩ := h
    refine ⟨_, (pss_cons (ps_if (pt_cmp (pc_lt (pv 1) (pe_callB (call_lenLiK (K := K)) (by rfl) T.b_len (by decide +kernel) (pa_cons (pv 0) pa_nil)))) (pss_one (ps_ret (pe_callTy call_int1 (by rfl) T.b_int (by decide +kernel) (pa_cons (pe_ix (ix_listK (K := K)) (pv 0) (pv 1) (fun _ _ => rfl)) pa_nil)))) pss_nil)
      (pss_one (ps_ret pe_int))), ?_⟩
    obtain ⟨KK, EE, hK0, hE, hw⟩ := cW_gen hw
    have S0 := Sep.startG sG
    unfold F__law_cell at hw
    refine ⟨_, rfl, _, rfl, _, _, rfl, (S0.b0.seq q_script), _, _, rfl, rfl, _, rfl, ?_⟩
    refine iteD (fun c1007 => ?_) (fun c1007 => ?_)
    · have hw := cW_pos c1007 hw
      obtain ⟨g1008, hw⟩ := cW_grd hw
      refine ⟨_, rfl, _, rfl, _, _, _, _, rfl, rfl, (S0.b0.seq q_script), (atI_map g1008), .inl ⟨_, rfl, ?_⟩⟩
      have hw := cW_ok hw
      exact hK0 _ hw
    · have hw := cW_neg c1007 hw
      have hw := cW_ok hw
      exact hK0 _ hw

abbrev N__law_packed : List Str := ["bits", "k", "j"]
theorem sc__law_packed : FnScope N__law_packed ["bits"] (defScope s__law_packed) := ⟨rfl, rfl, rfl, by decide +kernel, rfl, by decide +kernel, by decide +kernel⟩
theorem ok__law_packed (D : DefX K mg "_law_packed" s__law_packed ["bits"] pats__law_packed) (T : Txt w K mg AD)  : CalX P w K mg base 1 "_law_packed" (sp__law_packed K AD) pats__law_packed := by
  refine D.ok sc__law_packed (fun vs H Q E h => ?_) (fun f cdv A_ outer s H vs Q E hr h => ?_)
  · obtain ⟨G, a_bits, bits', rfl, _⟩ := h
    rfl
  · obtain ⟨G, a_bits, bits', rfl, sG, q_bits, hw⟩ := h
    refine ⟨_, (pss_cons (ps_set (i := 0) sc__law_packed.nd rfl (Or.inr rfl) (pe_op op_cat (pv 0) (pe_lst (pa_cons pe_int pa_nil))))
      (pss_cons (ps_set (i := 0) sc__law_packed.nd rfl (Or.inr rfl) (pe_op op_cat (pv 0) (pe_op op_rep (pe_lst (pa_cons pe_int pa_nil)) (pe_op op_mod (pe_op op_sub pe_int (pe_op op_mod (pe_callB (call_lenLiK (K := K)) (by rfl) T.b_len (by decide +kernel) (pa_cons (pv 0) pa_nil)) pe_int)) pe_int))))
      (pss_one (ps_ret (pe_lc (own := [("k", 1)]) (g := gName 1) (by rfl) sc__law_packed.nd (pi_range1 rfl T.b_range (pa_cons (pe_op op_fdivW (pe_callB (call_lenLiK (K := K)) (by rfl) T.b_len (by decide +kernel) (pa_cons (pv 0) pa_nil)) pe_int) pa_nil)) (blkOk_by (own := [("k", 1)]) (N := N__law_packed) (sc := defScope s__law_packed) (by decide +kernel)) (fun _ _ _ _ _ => (pg_name (i := 1) sc__law_packed.nd rfl (Or.inr rfl))) (fun _ _ _ _ _ => pts_nil) (fun _ _ _ _ _ => (pe_callB (cr_sumK (K := K) rfl) (by rfl) T.b_sum (by decide +kernel) (pa_cons (pe_lc (own := [("j", 2)]) (g := gName 2) (by rfl) sc__law_packed.nd (pi_range1 rfl T.b_range (pa_cons pe_int pa_nil)) (blk_relabel (blkOk_by (own := [("j", 2)]) (N := N__law_packed) (by decide +kernel))) (fun _ _ _ _ _ => (pg_name (i := 2) sc__law_packed.nd rfl (Or.inl rfl))) (fun _ _ _ _ _ => pts_nil) (fun _ _ _ _ _ => (pe_op op_shlW (pe_ix (ix_listK (K := K)) (pv 0) (pe_op op_add (pe_op op_mul pe_int (pv 1)) (pv 2)) (fun _ _ => rfl)) (pe_op op_sub pe_int (pv 2))))) pa_nil)))))))), ?_⟩
    obtain ⟨KK, EE, hK0, hE, hw⟩ := cW_gen hw
    have S0 := Sep.startG sG
    unfold F__law_packed at hw
    refine ⟨_, rfl, (by show 1 ≤ sizeLine; decide), fun p1009 n1010 => ?_⟩
    generalize g1011 : upd H p1009 _ = H1012
    obtain ⟨e1013, h1014⟩ := gen_new n1010 g1011
    have h1015 : H1012 p1009 = some (.lst (([1] : (List Int)).map V.int)) := h1014
    have fr1016 := S0.free n1010
    have S1017 := S0.new n1010 e1013 h1015 fr1016
    obtain ⟨g1018, hw⟩ := cW_grd hw
    refine ⟨_, _, _, _, rfl, rfl, (S1017.bM _ _ q_bits), h1015, (cat_lenM g1018), fun p1019 n1020 => ?_⟩
    generalize g1021 : upd H1012 p1019 _ = H1022
    obtain ⟨e1023, h1024⟩ := gen_new n1020 g1021
    have h1025 : H1022 p1019 = some (.lst (((bits') ++ ([1]) : (List Int)).map V.int)) := cat_map h1024
    have fr1026 := S1017.free n1020
    have S1027 := S1017.new n1020 e1023 h1025 fr1026
    refine ⟨_, rfl, (by show 1 ≤ sizeLine; decide), fun p1028 n1029 => ?_⟩
    generalize g1030 : upd H1022 p1028 _ = H1031
    obtain ⟨e1032, h1033⟩ := gen_new n1029 g1030
    have h1034 : H1031 p1028 = some (.lst (([0] : (List Int)).map V.int)) := h1033
    have fr1035 := S1027.free n1029
    have S1036 := S1027.new n1029 e1032 h1034 fr1035
    have h1037 := (e1032 _ _ h1025)
    obtain ⟨g1038, hw⟩ := cW_grd hw
    refine ⟨_, rfl, _, _, rfl, (SqL.of h1037), _, _, rfl, rfl, (show (0 : Int) < 8 by decide), _, _, rfl, rfl, _, _, rfl, rfl, (show (0 : Int) < 8 by decide), _, _, _, rfl, rfl, h1034, g1038.1, g1038.2.1, (rep_lenM g1038.2.2), fun p1039 n1040 => ?_⟩
    generalize g1041 : upd H1031 p1039 _ = H1042
    obtain ⟨e1043, h1044⟩ := gen_new n1040 g1041
    have h1045 : H1042 p1039 = some (.lst ((repL ([0]) (((8 - (((((bits') ++ ([1])) : (List Int)).length : Int) % 8)) % 8)) : (List Int)).map V.int)) := rep_map h1044
    have fr1046 := S1036.free n1040
    have S1047 := S1036.new n1040 e1043 h1045 fr1046
    obtain ⟨g1048, hw⟩ := cW_grd hw
    have h1049 := (e1043 _ _ h1037)
    refine ⟨_, _, _, _, rfl, rfl, h1049, h1045, (cat_lenM g1048), fun p1050 n1051 => ?_⟩
    generalize g1052 : upd H1042 p1050 _ = H1053
    obtain ⟨e1054, h1055⟩ := gen_new n1051 g1052
    have h1056 : H1053 p1050 = some (.lst ((((bits') ++ ([1])) ++ (repL ([0]) (((8 - (((((bits') ++ ([1])) : (List Int)).length : Int) % 8)) % 8))) : (List Int)).map V.int)) := cat_map h1055
    have fr1057 := S1047.free n1051
    have S1058 := S1047.new n1051 e1054 h1056 fr1057
    obtain ⟨g1059, hw⟩ := cW_grd hw
    obtain ⟨K1062, hK1063, hw⟩ := cW_push hw
    refine ⟨_, rfl, _, _, rfl, (SqL.of h1056), _, _, rfl, rfl, (divW_lit (by decide) (by decide)), _, rfl, g1059.1, g1059.2, fun D1064 n1065 => lc_range (lo := 0) (n := Int.toNat (((((((bits') ++ ([1])) ++ (repL ([0]) (((8 - (((((bits') ++ ([1])) : (List Int)).length : Int) % 8)) % 8)))) : (List Int)).length : Int) / 8))) (fun i H' => ∃ (G' : Hp) (acc1067 : (List Int)), Same G G' ∧ Sep [] H G G' H' [D1064, p1050] ∧ H' p1050 = some (.lst ((((bits') ++ ([1])) ++ (repL ([0]) (((8 - (((((bits') ++ ([1])) : (List Int)).length : Int) % 8)) % 8))) : (List Int)).map V.int)) ∧ H' D1064 = some (.lst ((acc1067 : (List Int)).map V.int)) ∧ Same H1053 H' ∧ cW (mapA (List.drop i (rng (0) (Int.toNat (((((((bits') ++ ([1])) ++ (repL ([0]) (((8 - (((((bits') ++ ([1])) : (List Int)).length : Int) % 8)) % 8)))) : (List Int)).length : Int) / 8))))) acc1067 (fun x => noEr (F__law_packed_c1 (((bits') ++ ([1])) ++ (repL ([0]) (((8 - (((((bits') ++ ([1])) : (List Int)).length : Int) % 8)) % 8)))) x))) K1062 EE) ?_ ?_ ?_⟩
    · generalize g1069 : upd H1053 D1064 _ = H1070
      obtain ⟨e1071, h1072⟩ := gen_new n1065 g1069
      have fr1073 := S1058.free n1065
      have S1074 := S1058.new n1065 e1071 h1072 fr1073
      have h1075 := (e1071 _ _ h1056)
      exact ⟨_, [], Same.refl _, (S1074.sub (all_cons (.head _) (all_cons (.tail _ (.head _)) all_nil))), h1075, h1072, e1071, hw⟩
    · intro i H1076 hi hw
      obtain ⟨G1079, acc1081, eG1080, S1077, h1088, h1078, eo1087, hw⟩ := hw
      obtain ⟨z1089, hw⟩ := cW_mapA (rng_get hi) hw
      generalize (0 + (i : Int)) = x1090 at hw ⊢
      have hw := cW_noEr hw
      have hw : cW (F__law_packed_c1 (((bits') ++ ([1])) ++ (repL ([0]) (((8 - (((((bits') ++ ([1])) : (List Int)).length : Int) % 8)) % 8)))) (x1090)) _ (fun _ => False) := hw
      unfold F__law_packed_c1 at hw
      refine ⟨rfl, ?_⟩
      refine tyes_go ?_
      obtain ⟨K1095, hK1096, hw⟩ := cW_push hw
      refine ⟨_, rfl, (by decide), (by decide), fun D1097 n1098 => lc_range (lo := 0) (n := Int.toNat (8)) (fun i2 H' => ∃ (G' : Hp) (acc1100 : (List Int)), Same G1079 G' ∧ Sep [] H G G' H' [D1097, p1050, D1064] ∧ H' p1050 = some (.lst ((((bits') ++ ([1])) ++ (repL ([0]) (((8 - (((((bits') ++ ([1])) : (List Int)).length : Int) % 8)) % 8))) : (List Int)).map V.int)) ∧ H' D1064 = some (.lst ((acc1081 : (List Int)).map V.int)) ∧ H' D1097 = some (.lst ((acc1100 : (List Int)).map V.int)) ∧ Same H1076 H' ∧ cW (mapA (List.drop i2 (rng (0) (Int.toNat (8)))) acc1100 (fun x => noEr (F__law_packed_c2 (((bits') ++ ([1])) ++ (repL ([0]) (((8 - (((((bits') ++ ([1])) : (List Int)).length : Int) % 8)) % 8)))) (x1090) x))) K1095 (fun _ => False)) ?_ ?_ ?_⟩
      · generalize g1102 : upd H1076 D1097 _ = H1103
        obtain ⟨e1104, h1105⟩ := gen_new n1098 g1102
        have fr1106 := S1077.free n1098
        have S1107 := S1077.new n1098 e1104 h1105 fr1106
        have h1108 := (e1104 _ _ h1088)
        have h1109 := (e1104 _ _ h1078)
        exact ⟨_, [], Same.refl _, (S1107.sub (all_cons (.head _) (all_cons (.tail _ (.tail _ (.head _))) (all_cons (.tail _ (.head _)) all_nil)))), h1108, h1109, h1105, e1104, hw⟩
      · intro i2 H1110 hi hw
        obtain ⟨G1113, acc1115, eG1114, S1111, h1122, h1123, h1112, eo1121, hw⟩ := hw
        obtain ⟨z1124, hw⟩ := cW_mapA (rng_get hi) hw
        generalize (0 + (i2 : Int)) = x1125 at hw ⊢
        have hw := cW_noEr hw
        have hw : cW (F__law_packed_c2 (((bits') ++ ([1])) ++ (repL ([0]) (((8 - (((((bits') ++ ([1])) : (List Int)).length : Int) % 8)) % 8)))) (x1090) (x1125)) _ (fun _ => False) := hw
        unfold F__law_packed_c2 at hw
        refine ⟨rfl, ?_⟩
        refine tyes_go ?_
        obtain ⟨g1127, hw⟩ := cW_grd hw
        obtain ⟨g1128, hw⟩ := cW_grd hw
        refine ⟨_, rfl, _, rfl, _, _, rfl, rfl, (.inl ⟨by decide, by decide⟩), _, rfl, _, _, rfl, rfl, _, _, _, _, rfl, rfl, (SqL.of h1122), (atI_map g1127), _, rfl, _, _, rfl, rfl, _, _, rfl, rfl, (shl_side g1128.1 g1128.2.1 g1128.2.2.1 g1128.2.2.2), _, h1112, (app_lenM z1124), ?_⟩
        generalize g1129 : upd H1110 D1097 _ = H1130
        obtain ⟨x1131, h1132⟩ := gen_mut g1129
        have S1133 := S1111.mut1 x1131 (.head _) h1132
        have hw := cW_ok hw
        have h1134 := (x1131 _ _ h1122 (ne_of_none h1088 n1098))
        have h1135 := (x1131 _ _ h1123 (ne_of_none h1078 n1098))
        exact ⟨_, (acc1115 ++ [((itD (((bits') ++ ([1])) ++ (repL ([0]) (((8 - (((((bits') ++ ([1])) : (List Int)).length : Int) % 8)) % 8)))) (((8 * x1090) + x1125))) * 2 ^ Int.toNat ((7 - x1125)))]), eG1114, S1133, h1134, h1135, (snoc_map h1132), (same_mut eo1121 x1131 n1098), hw⟩
      intro H1136 hw
      obtain ⟨G1139, acc1141, eG1140, S1137, h1148, h1149, h1138, eo1147, hw⟩ := hw
      have hw := hK1096 _ (cW_mapA0 (rng_len _ _).symm hw)
      have fr1150 := S1077.free n1098
      refine ⟨_, _, rfl, (SqL.of h1138), _, h1149, (app_lenM z1089), ?_⟩
      generalize g1151 : upd H1136 D1064 _ = H1152
      obtain ⟨x1153, h1154⟩ := gen_mut g1151
      have S1155 := S1137.mut1 x1153 (.tail _ (.tail _ (.head _))) h1154
      have hw := cW_ok hw
      have h1156 := (x1153 _ _ h1148 (ne_of_none h1056 n1065))
      exact ⟨_, (acc1081 ++ [(List.sum (acc1141))]), (Same.trans eG1080 eG1140), (S1155.sub (all_cons (.tail _ (.tail _ (.head _))) (all_cons (.tail _ (.head _)) all_nil))), h1156, (snoc_map h1154), (same_mut (Same.trans eo1087 eo1147) x1153 n1065), hw⟩
    intro H1157 hw
    obtain ⟨G1160, acc1162, eG1161, S1158, h1169, h1159, eo1168, hw⟩ := hw
    have hw := hK1063 _ (cW_mapA0 (rng_len _ _).symm hw)
    have fr1170 := S1058.free n1065
    have hw := cW_ok hw
    exact hK0 _ hw _ _ fr1170 S1158.b0 h1159

abbrev N__law_bits : List Str := ["value", "count", "k"]
theorem sc__law_bits : FnScope N__law_bits ["value", "count"] (defScope s__law_bits) := ⟨rfl, rfl, rfl, by decide +kernel, rfl, by decide +kernel, by decide +kernel⟩
theorem ok__law_bits (D : DefX K mg "_law_bits" s__law_bits ["value", "count"] pats__law_bits) (T : Txt w K mg AD)  : CalX P w K mg base 1 "_law_bits" (sp__law_bits K AD) pats__law_bits := by
  refine D.ok sc__law_bits (fun vs H Q E h => ?_) (fun f cdv A_ outer s H vs Q E hr h => ?_)
  · obtain ⟨G, value', count', rfl, _⟩ := h
    rfl
  · obtain ⟨G, value', count', rfl, sG, hw⟩ := h
    refine ⟨_, (pss_one (ps_ret (pe_lc (own := [("k", 2)]) (g := gName 2) (by rfl) sc__law_bits.nd (pi_range1 rfl T.b_range (pa_cons (pv 1) pa_nil)) (blkOk_by (own := [("k", 2)]) (N := N__law_bits) (sc := defScope s__law_bits) (by decide +kernel)) (fun _ _ _ _ _ => (pg_name (i := 2) sc__law_bits.nd rfl (Or.inl rfl))) (fun _ _ _ _ _ => pts_nil) (fun _ _ _ _ _ => (pe_op op_and (pe_op op_shr (pv 0) (pe_op op_sub (pe_op op_sub (pv 1) pe_int) (pv 2))) pe_int))))), ?_⟩
    obtain ⟨KK, EE, hK0, hE, hw⟩ := cW_gen hw
    have S0 := Sep.startG sG
    unfold F__law_bits at hw
    obtain ⟨g1171, hw⟩ := cW_grd hw
    obtain ⟨K1175, hK1176, hw⟩ := cW_push hw
    refine ⟨_, rfl, _, rfl, g1171.1, g1171.2, fun D1177 n1178 => lc_range (lo := 0) (n := Int.toNat (count')) (fun i H' => ∃ (G' : Hp) (acc1180 : (List Int)), Same G G' ∧ Sep [] H G G' H' [D1177] ∧ H' D1177 = some (.lst ((acc1180 : (List Int)).map V.int)) ∧ Same H H' ∧ cW (mapA (List.drop i (rng (0) (Int.toNat (count')))) acc1180 (fun x => noEr (F__law_bits_c1 (value') (count') x))) K1175 EE) ?_ ?_ ?_⟩
    · generalize g1182 : upd H D1177 _ = H1183
      obtain ⟨e1184, h1185⟩ := gen_new n1178 g1182
      have fr1186 := S0.free n1178
      have S1187 := S0.new n1178 e1184 h1185 fr1186
      exact ⟨_, [], Same.refl _, S1187, h1185, e1184, hw⟩
    · intro i H1188 hi hw
      obtain ⟨G1191, acc1193, eG1192, S1189, h1190, eo1199, hw⟩ := hw
      obtain ⟨z1200, hw⟩ := cW_mapA (rng_get hi) hw
      generalize (0 + (i : Int)) = x1201 at hw ⊢
      have hw := cW_noEr hw
      have hw : cW (F__law_bits_c1 (value') (count') (x1201)) _ (fun _ => False) := hw
      unfold F__law_bits_c1 at hw
      refine ⟨rfl, ?_⟩
      refine tyes_go ?_
      obtain ⟨g1203, hw⟩ := cW_grd hw
      refine ⟨_, rfl, _, rfl, _, _, rfl, rfl, _, rfl, _, _, rfl, rfl, _, _, rfl, rfl, g1203, _, _, rfl, rfl, _, h1190, (app_lenM z1200), ?_⟩
      generalize g1204 : upd H1188 D1177 _ = H1205
      obtain ⟨x1206, h1207⟩ := gen_mut g1204
      have S1208 := S1189.mut1 x1206 (.head _) h1207
      have hw := cW_ok hw
      exact ⟨_, (acc1193 ++ [(PySem.Builtin.bitAnd ((value' / 2 ^ Int.toNat (((count' - 1) - x1201)))) (1))]), eG1192, S1208, (snoc_map h1207), (same_mut eo1199 x1206 n1178), hw⟩
    intro H1209 hw
    obtain ⟨G1212, acc1214, eG1213, S1210, h1211, eo1220, hw⟩ := hw
    have hw := hK1176 _ (cW_mapA0 (rng_len _ _).symm hw)
    have fr1221 := S0.free n1178
    have hw := cW_ok hw
    exact hK0 _ hw _ _ fr1221 S1210.b0 h1211

abbrev N__law_ue : List Str := ["value", "size"]
theorem sc__law_ue : FnScope N__law_ue ["value"] (defScope s__law_ue) := ⟨rfl, rfl, rfl, by decide +kernel, rfl, by decide +kernel, by decide +kernel⟩
theorem ok__law_ue (D : DefX K mg "_law_ue" s__law_ue ["value"] pats__law_ue) (T : Txt w K mg AD) (c__law_bits : CalX P w K mg base 1 "_law_bits" (sp__law_bits K AD) pats__law_bits) : CalX P w K mg base 2 "_law_ue" (sp__law_ue K AD) pats__law_ue := by
  refine D.ok sc__law_ue (fun vs H Q E h => ?_) (fun f cdv A_ outer s H vs Q E hr h => ?_)
  · obtain ⟨G, value', rfl, _⟩ := h
    rfl
  · obtain ⟨G, value', rfl, sG, hw⟩ := h
    refine ⟨_, (pss_cons (ps_set (i := 1) sc__law_ue.nd rfl (Or.inl rfl) (pe_bits (pe_op op_add (pv 0) pe_int)))
      (pss_one (ps_ret (pe_op op_cat (pe_op op_rep (pe_lst (pa_cons pe_int pa_nil)) (pe_op op_sub (pv 1) pe_int)) (vx_callX c__law_bits pat__law_bits_0 (.head _) hr (by decide) (takes_of rfl rfl rfl rfl) rfl (pa_cons (pe_op op_add (pv 0) pe_int) (pa_cons (pv 1) pa_nil)) pk_nil))))), ?_⟩
    obtain ⟨KK, EE, hK0, hE, hw⟩ := cW_gen hw
    have S0 := Sep.startG sG
    unfold F__law_ue at hw
    refine ⟨_, rfl, _, _, rfl, rfl, _, rfl, ?_⟩
    have hw := cW_bnd hw
    refine ⟨(by show 1 ≤ sizeLine; decide), fun p1223 n1224 => ?_⟩
    generalize g1225 : upd H p1223 _ = H1226
    obtain ⟨e1227, h1228⟩ := gen_new n1224 g1225
    have h1229 : H1226 p1223 = some (.lst (([0] : (List Int)).map V.int)) := h1228
    have fr1230 := S0.free n1224
    have S1231 := S0.new n1224 e1227 h1229 fr1230
    obtain ⟨g1232, hw⟩ := cW_grd hw
    refine ⟨_, rfl, _, _, rfl, rfl, _, _, _, rfl, rfl, h1229, g1232.1, g1232.2.1, (rep_lenM g1232.2.2), fun p1233 n1234 => ?_⟩
    generalize g1235 : upd H1226 p1233 _ = H1236
    obtain ⟨e1237, h1238⟩ := gen_new n1234 g1235
    have h1239 : H1236 p1233 = some (.lst ((repL ([0]) ((((PySem.Builtin.Int.intBits ((value' + 1)) : Nat) : Int) - 1)) : (List Int)).map V.int)) := rep_map h1238
    have fr1240 := S1231.free n1234
    have S1241 := S1231.new n1234 e1237 h1239 fr1240
    refine ⟨_, rfl, _, _, rfl, rfl, _, rfl, rfl, rfl, G, _, _, rfl, S1241.sG, cW_call hw (fun v1242 hw p1245 H1243 n1246 e1244 h1247 => ?_) (fun e he H2 e2 => hE e he H2 (Same.trans S1241.b0 e2))⟩
    have h1248 : H1243 p1245 = some (.lst ((v1242 : (List Int)).map V.int)) := h1247
    have fr1249 := S1241.free n1246
    have S1250 := S1241.new n1246 e1244 h1248 fr1249
    obtain ⟨g1251, hw⟩ := cW_grd hw
    have h1252 := (e1244 _ _ h1239)
    refine ⟨_, _, _, _, rfl, rfl, h1252, h1248, (cat_lenM g1251), fun p1253 n1254 => ?_⟩
    generalize g1255 : upd H1243 p1253 _ = H1256
    obtain ⟨e1257, h1258⟩ := gen_new n1254 g1255
    have h1259 : H1256 p1253 = some (.lst (((repL ([0]) ((((PySem.Builtin.Int.intBits ((value' + 1)) : Nat) : Int) - 1))) ++ (v1242) : (List Int)).map V.int)) := cat_map h1258
    have fr1260 := S1250.free n1254
    have S1261 := S1250.new n1254 e1257 h1259 fr1260
    have hw := cW_ok hw
    exact hK0 _ hw _ _ fr1260 S1261.b0 h1259

abbrev N__law_settings_payload : List Str := ["n", "bits"]
theorem sc__law_settings_payload : FnScope N__law_settings_payload ["n"] (defScope s__law_settings_payload) := ⟨rfl, rfl, rfl, by decide +kernel, rfl, by decide +kernel, by decide +kernel⟩
theorem ok__law_settings_payload (D : DefX K mg "_law_settings_payload" s__law_settings_payload ["n"] pats__law_settings_payload) (T : Txt w K mg AD) (c__law_bits : CalX P w K mg base 1 "_law_bits" (sp__law_bits K AD) pats__law_bits) (c__law_ue : CalX P w K mg base 2 "_law_ue" (sp__law_ue K AD) pats__law_ue) (c__law_packed : CalX P w K mg base 1 "_law_packed" (sp__law_packed K AD) pats__law_packed) : CalX P w K mg base 3 "_law_settings_payload" (sp__law_settings_payload K AD) pats__law_settings_payload := by
  refine D.ok sc__law_settings_payload (fun vs H Q E h => ?_) (fun f cdv A_ outer s H vs Q E hr h => ?_)
  · obtain ⟨G, a_n, n', rfl, _⟩ := h
    rfl
  · obtain ⟨G, a_n, n', rfl, sG, q_n, hw⟩ := h
    refine ⟨_, (pss_cons (ps_set (i := 1) sc__law_settings_payload.nd rfl (Or.inl rfl) (pe_op op_cat (pe_op op_cat (pe_op op_cat (pe_op op_cat (vx_callX c__law_bits pat__law_bits_0 (.head _) hr (by decide) (takes_of rfl rfl rfl rfl) rfl (pa_cons pe_int (pa_cons pe_int pa_nil)) pk_nil) (vx_callX c__law_ue pat__law_ue_0 (.head _) hr (by decide) (takes_of rfl rfl rfl rfl) rfl (pa_cons (pe_op op_sub (pe_ix (ix_listK (K := K)) (pv 0) pe_int (fun _ _ => rfl)) pe_int) pa_nil) pk_nil)) (vx_callX c__law_ue pat__law_ue_0 (.head _) hr (by decide) (takes_of rfl rfl rfl rfl) rfl (pa_cons (pe_op op_sub (pe_ix (ix_listK (K := K)) (pv 0) pe_int (fun _ _ => rfl)) pe_int) pa_nil) pk_nil)) (vx_callX c__law_ue pat__law_ue_0 (.head _) hr (by decide) (takes_of rfl rfl rfl rfl) rfl (pa_cons (pe_op op_sub (pe_ix (ix_listK (K := K)) (pv 0) pe_int (fun _ _ => rfl)) pe_int) pa_nil) pk_nil)) (vx_callX c__law_ue pat__law_ue_0 (.head _) hr (by decide) (takes_of rfl rfl rfl rfl) rfl (pa_cons (pe_ix (ix_listK (K := K)) (pv 0) pe_int (fun _ _ => rfl)) pa_nil) pk_nil)))
      (pss_cons (ps_set (i := 1) sc__law_settings_payload.nd rfl (Or.inl rfl) (pe_op op_cat (pe_op op_cat (pe_op op_cat (pe_op op_cat (pv 1) (vx_callX c__law_ue pat__law_ue_0 (.head _) hr (by decide) (takes_of rfl rfl rfl rfl) rfl (pa_cons (pe_op op_sub (pe_ix (ix_listK (K := K)) (pv 0) pe_int (fun _ _ => rfl)) pe_int) pa_nil) pk_nil)) (vx_callX c__law_ue pat__law_ue_0 (.head _) hr (by decide) (takes_of rfl rfl rfl rfl) rfl (pa_cons (pe_op op_sub (pe_ix (ix_listK (K := K)) (pv 0) pe_int (fun _ _ => rfl)) pe_int) pa_nil) pk_nil)) (pe_lst (pa_cons (pe_ix (ix_listK (K := K)) (pv 0) pe_int (fun _ _ => rfl)) (pa_cons (pe_ix (ix_listK (K := K)) (pv 0) pe_int (fun _ _ => rfl)) pa_nil)))) (vx_callX c__law_ue pat__law_ue_0 (.head _) hr (by decide) (takes_of rfl rfl rfl rfl) rfl (pa_cons (pe_op op_sub (pe_ix (ix_listK (K := K)) (pv 0) pe_int (fun _ _ => rfl)) pe_int) pa_nil) pk_nil)))
      (pss_one (ps_ret (vx_callX c__law_packed pat__law_packed_0 (.head _) hr (by decide) (takes_of rfl rfl rfl rfl) rfl (pa_cons (pv 1) pa_nil) pk_nil))))), ?_⟩
    obtain ⟨KK, EE, hK0, hE, hw⟩ := cW_gen hw
    have S0 := Sep.startG sG
    unfold F__law_settings_payload at hw
    refine ⟨rfl, rfl, G, _, _, rfl, S0.sG, cW_call hw (fun v1262 hw p1265 H1263 n1266 e1264 h1267 => ?_) (fun e he H2 e2 => hE e he H2 (Same.trans S0.b0 e2))⟩
    have h1268 : H1263 p1265 = some (.lst ((v1262 : (List Int)).map V.int)) := h1267
    have fr1269 := S0.free n1266
    have S1270 := S0.new n1266 e1264 h1268 fr1269
    obtain ⟨g1271, hw⟩ := cW_grd hw
    refine ⟨_, rfl, _, _, _, _, rfl, rfl, (SqL.of (S1270.bM _ _ q_n)), (atI_map g1271), _, _, rfl, rfl, rfl, rfl, G, _, rfl, S1270.sG, cW_call hw (fun v1272 hw p1275 H1273 n1276 e1274 h1277 => ?_) (fun e he H2 e2 => hE e he H2 (Same.trans S1270.b0 e2))⟩
    have h1278 : H1273 p1275 = some (.lst ((v1272 : (List Int)).map V.int)) := h1277
    have fr1279 := S1270.free n1276
    have S1280 := S1270.new n1276 e1274 h1278 fr1279
    obtain ⟨g1281, hw⟩ := cW_grd hw
    have h1282 := (e1274 _ _ h1268)
    refine ⟨_, _, _, _, rfl, rfl, h1282, h1278, (cat_lenM g1281), fun p1283 n1284 => ?_⟩
    generalize g1285 : upd H1273 p1283 _ = H1286
    obtain ⟨e1287, h1288⟩ := gen_new n1284 g1285
    have h1289 : H1286 p1283 = some (.lst (((v1262) ++ (v1272) : (List Int)).map V.int)) := cat_map h1288
    have fr1290 := S1280.free n1284
    have S1291 := S1280.new n1284 e1287 h1289 fr1290
    obtain ⟨g1292, hw⟩ := cW_grd hw
    refine ⟨_, rfl, _, _, _, _, rfl, rfl, (SqL.of (S1291.bM _ _ q_n)), (atI_map g1292), _, _, rfl, rfl, rfl, rfl, G, _, rfl, S1291.sG, cW_call hw (fun v1293 hw p1296 H1294 n1297 e1295 h1298 => ?_) (fun e he H2 e2 => hE e he H2 (Same.trans S1291.b0 e2))⟩
    have h1299 : H1294 p1296 = some (.lst ((v1293 : (List Int)).map V.int)) := h1298
    have fr1300 := S1291.free n1297
    have S1301 := S1291.new n1297 e1295 h1299 fr1300
    obtain ⟨g1302, hw⟩ := cW_grd hw
    have h1303 := (e1295 _ _ h1289)
    refine ⟨_, _, _, _, rfl, rfl, h1303, h1299, (cat_lenM g1302), fun p1304 n1305 => ?_⟩
    generalize g1306 : upd H1294 p1304 _ = H1307
    obtain ⟨e1308, h1309⟩ := gen_new n1305 g1306
    have h1310 : H1307 p1304 = some (.lst ((((v1262) ++ (v1272)) ++ (v1293) : (List Int)).map V.int)) := cat_map h1309
    have fr1311 := S1301.free n1305
    have S1312 := S1301.new n1305 e1308 h1310 fr1311
    obtain ⟨g1313, hw⟩ := cW_grd hw
    refine ⟨_, rfl, _, _, _, _, rfl, rfl, (SqL.of (S1312.bM _ _ q_n)), (atI_map g1313), _, _, rfl, rfl, rfl, rfl, G, _, rfl, S1312.sG, cW_call hw (fun v1314 hw p1317 H1315 n1318 e1316 h1319 => ?_) (fun e he H2 e2 => hE e he H2 (Same.trans S1312.b0 e2))⟩
    have h1320 : H1315 p1317 = some (.lst ((v1314 : (List Int)).map V.int)) := h1319
    have fr1321 := S1312.free n1318
    have S1322 := S1312.new n1318 e1316 h1320 fr1321
    obtain ⟨g1323, hw⟩ := cW_grd hw
    have h1324 := (e1316 _ _ h1310)
    refine ⟨_, _, _, _, rfl, rfl, h1324, h1320, (cat_lenM g1323), fun p1325 n1326 => ?_⟩
    generalize g1327 : upd H1315 p1325 _ = H1328
    obtain ⟨e1329, h1330⟩ := gen_new n1326 g1327
    have h1331 : H1328 p1325 = some (.lst (((((v1262) ++ (v1272)) ++ (v1293)) ++ (v1314) : (List Int)).map V.int)) := cat_map h1330
    have fr1332 := S1322.free n1326
    have S1333 := S1322.new n1326 e1329 h1331 fr1332
    obtain ⟨g1334, hw⟩ := cW_grd hw
    refine ⟨_, rfl, _, _, _, _, rfl, rfl, (SqL.of (S1333.bM _ _ q_n)), (atI_map g1334), rfl, rfl, G, _, rfl, S1333.sG, cW_call hw (fun v1335 hw p1338 H1336 n1339 e1337 h1340 => ?_) (fun e he H2 e2 => hE e he H2 (Same.trans S1333.b0 e2))⟩
    have h1341 : H1336 p1338 = some (.lst ((v1335 : (List Int)).map V.int)) := h1340
    have fr1342 := S1333.free n1339
    have S1343 := S1333.new n1339 e1337 h1341 fr1342
    obtain ⟨g1344, hw⟩ := cW_grd hw
    have h1345 := (e1337 _ _ h1331)
    refine ⟨_, _, _, _, rfl, rfl, h1345, h1341, (cat_lenM g1344), fun p1346 n1347 => ?_⟩
    generalize g1348 : upd H1336 p1346 _ = H1349
    obtain ⟨e1350, h1351⟩ := gen_new n1347 g1348
    have h1352 : H1349 p1346 = some (.lst ((((((v1262) ++ (v1272)) ++ (v1293)) ++ (v1314)) ++ (v1335) : (List Int)).map V.int)) := cat_map h1351
    have fr1353 := S1343.free n1347
    have S1354 := S1343.new n1347 e1350 h1352 fr1353
    obtain ⟨g1355, hw⟩ := cW_grd hw
    refine ⟨_, rfl, _, rfl, _, _, _, _, rfl, rfl, (SqL.of (S1354.bM _ _ q_n)), (atI_map g1355), _, _, rfl, rfl, rfl, rfl, G, _, rfl, S1354.sG, cW_call hw (fun v1356 hw p1359 H1357 n1360 e1358 h1361 => ?_) (fun e he H2 e2 => hE e he H2 (Same.trans S1354.b0 e2))⟩
    have h1362 : H1357 p1359 = some (.lst ((v1356 : (List Int)).map V.int)) := h1361
    have fr1363 := S1354.free n1360
    have S1364 := S1354.new n1360 e1358 h1362 fr1363
    obtain ⟨g1365, hw⟩ := cW_grd hw
    have h1366 := (e1358 _ _ h1352)
    refine ⟨_, _, _, _, rfl, rfl, h1366, h1362, (cat_lenM g1365), fun p1367 n1368 => ?_⟩
    generalize g1369 : upd H1357 p1367 _ = H1370
    obtain ⟨e1371, h1372⟩ := gen_new n1368 g1369
    have h1373 : H1370 p1367 = some (.lst (((((((v1262) ++ (v1272)) ++ (v1293)) ++ (v1314)) ++ (v1335)) ++ (v1356) : (List Int)).map V.int)) := cat_map h1372
    have fr1374 := S1364.free n1368
    have S1375 := S1364.new n1368 e1371 h1373 fr1374
    obtain ⟨g1376, hw⟩ := cW_grd hw
    refine ⟨_, rfl, _, _, _, _, rfl, rfl, (SqL.of (S1375.bM _ _ q_n)), (atI_map g1376), _, _, rfl, rfl, rfl, rfl, G, _, rfl, S1375.sG, cW_call hw (fun v1377 hw p1380 H1378 n1381 e1379 h1382 => ?_) (fun e he H2 e2 => hE e he H2 (Same.trans S1375.b0 e2))⟩
    have h1383 : H1378 p1380 = some (.lst ((v1377 : (List Int)).map V.int)) := h1382
    have fr1384 := S1375.free n1381
    have S1385 := S1375.new n1381 e1379 h1383 fr1384
    obtain ⟨g1386, hw⟩ := cW_grd hw
    have h1387 := (e1379 _ _ h1373)
    refine ⟨_, _, _, _, rfl, rfl, h1387, h1383, (cat_lenM g1386), fun p1388 n1389 => ?_⟩
    generalize g1390 : upd H1378 p1388 _ = H1391
    obtain ⟨e1392, h1393⟩ := gen_new n1389 g1390
    have h1394 : H1391 p1388 = some (.lst ((((((((v1262) ++ (v1272)) ++ (v1293)) ++ (v1314)) ++ (v1335)) ++ (v1356)) ++ (v1377) : (List Int)).map V.int)) := cat_map h1393
    have fr1395 := S1385.free n1389
    have S1396 := S1385.new n1389 e1392 h1394 fr1395
    obtain ⟨g1397, hw⟩ := cW_grd hw
    obtain ⟨g1398, hw⟩ := cW_grd hw
    refine ⟨_, rfl, _, _, _, _, rfl, rfl, (SqL.of (S1396.bM _ _ q_n)), (atI_map g1397), _, rfl, _, _, _, _, rfl, rfl, (SqL.of (S1396.bM _ _ q_n)), (atI_map g1398), (by show 2 ≤ sizeLine; decide), fun p1399 n1400 => ?_⟩
    generalize g1401 : upd H1391 p1399 _ = H1402
    obtain ⟨e1403, h1404⟩ := gen_new n1400 g1401
    have h1405 : H1402 p1399 = some (.lst (([(itD (n') (6)), (itD (n') (7))] : (List Int)).map V.int)) := h1404
    have fr1406 := S1396.free n1400
    have S1407 := S1396.new n1400 e1403 h1405 fr1406
    obtain ⟨g1408, hw⟩ := cW_grd hw
    have h1409 := (e1403 _ _ h1394)
    refine ⟨_, _, _, _, rfl, rfl, h1409, h1405, (cat_lenM g1408), fun p1410 n1411 => ?_⟩
    generalize g1412 : upd H1402 p1410 _ = H1413
    obtain ⟨e1414, h1415⟩ := gen_new n1411 g1412
    have h1416 : H1413 p1410 = some (.lst (((((((((v1262) ++ (v1272)) ++ (v1293)) ++ (v1314)) ++ (v1335)) ++ (v1356)) ++ (v1377)) ++ ([(itD (n') (6)), (itD (n') (7))]) : (List Int)).map V.int)) := cat_map h1415
    have fr1417 := S1407.free n1411
    have S1418 := S1407.new n1411 e1414 h1416 fr1417
    obtain ⟨g1419, hw⟩ := cW_grd hw
    refine ⟨_, rfl, _, _, _, _, rfl, rfl, (SqL.of (S1418.bM _ _ q_n)), (atI_map g1419), _, _, rfl, rfl, rfl, rfl, G, _, rfl, S1418.sG, cW_call hw (fun v1420 hw p1423 H1421 n1424 e1422 h1425 => ?_) (fun e he H2 e2 => hE e he H2 (Same.trans S1418.b0 e2))⟩
    have h1426 : H1421 p1423 = some (.lst ((v1420 : (List Int)).map V.int)) := h1425
    have fr1427 := S1418.free n1424
    have S1428 := S1418.new n1424 e1422 h1426 fr1427
    obtain ⟨g1429, hw⟩ := cW_grd hw
    have h1430 := (e1422 _ _ h1416)
    refine ⟨_, _, _, _, rfl, rfl, h1430, h1426, (cat_lenM g1429), fun p1431 n1432 => ?_⟩
    generalize g1433 : upd H1421 p1431 _ = H1434
    obtain ⟨e1435, h1436⟩ := gen_new n1432 g1433
    have h1437 : H1434 p1431 = some (.lst ((((((((((v1262) ++ (v1272)) ++ (v1293)) ++ (v1314)) ++ (v1335)) ++ (v1356)) ++ (v1377)) ++ ([(itD (n') (6)), (itD (n') (7))])) ++ (v1420) : (List Int)).map V.int)) := cat_map h1436
    have fr1438 := S1428.free n1432
    have S1439 := S1428.new n1432 e1435 h1437 fr1438
    refine ⟨_, rfl, rfl, rfl, G, _, _, rfl, S1439.sG, (hide_nil h1437), cW_call hw (fun v1440 hw p1443 H1441 n1444 e1442 h1445 => ?_) (fun e he H2 e2 => hE e he H2 (Same.trans S1439.b0 e2))⟩
    have h1446 : H1441 p1443 = some (.lst ((v1440 : (List Int)).map V.int)) := h1445
    have fr1447 := S1439.free n1444
    have S1448 := S1439.new n1444 e1442 h1446 fr1447
    have hw := cW_ok hw
    exact hK0 _ hw _ _ fr1447 S1448.b0 h1446

abbrev N_Format___eq__ : List Str := ["self", "other"]
theorem sc_Format___eq__ : FnScope N_Format___eq__ ["self", "other"] (defScope s_Format___eq__) := ⟨rfl, rfl, rfl, by decide +kernel, rfl, by decide +kernel, by decide +kernel⟩
theorem ok_Format___eq__ (D : MethX K AD.c_Format "Format.__eq__" "__eq__" s_Format___eq__ ["self", "other"] pats_Format___eq__) (T : Txt w K mg AD)  : MetX P w K mg base 1 AD.c_Format "__eq__" (sp_Format___eq__ K AD) pats_Format___eq__ := by
  refine D.ok T.cl_Format sc_Format___eq__ (fun vs H Q E h => ?_) (fun f cdv A_ outer s H vs Q E hr h => ?_)
  · obtain ⟨G, p_self, dx_self, self', p_other, dx_other, other', rfl, _⟩ := h
    rfl
  · obtain ⟨G, p_self, dx_self, self', p_other, dx_other, other', rfl, sG, h_p_self, h_p_other, hw⟩ := h
    refine ⟨_, (pss_one (ps_ret (pe_and (pe_callB call_isi (by rfl) T.b_isinstance (by decide +kernel) (pa_cons (pv 1) (pa_cons (C8.pe_gc (v := V.ref AD.c_Format) rfl ⟨_, T.cg_Format, rfl⟩) pa_nil))) (pe_and (pe_cmp (pc_eqI (fldK (K := K) (pv 0)) (fldK (K := K) (pv 1)))) (pe_and (pe_cmp (pc_eqI (fldK (K := K) (pv 0)) (fldK (K := K) (pv 1)))) (pe_and (pe_cmp (pc_eqI (fldK (K := K) (pv 0)) (fldK (K := K) (pv 1)))) (pe_one (pe_cmp (pc_eqI (fldK (K := K) (pv 0)) (fldK (K := K) (pv 1))))))))))), ?_⟩
    obtain ⟨KK, EE, hK0, hE, hw⟩ := cW_gen hw
    have S0 := Sep.startG sG
    unfold F_Format___eq__ at hw
    refine ⟨_, rfl, _, _, _, _, _, rfl, (.own _), (tyX_ins (S0.bM _ _ h_p_other) T.cl_Format T.ci_Format), kit_self, _, rfl, ?_⟩
    refine iteT ?_
    refine ⟨_, rfl, _, _, _, _, _, rfl, (S0.bM _ _ h_p_self), T.cl_Format, T.n_Format_width, rfl, _, rfl, _, _, _, _, _, rfl, (S0.bM _ _ h_p_other), T.cl_Format, T.n_Format_width, rfl, _, _, rfl, rfl, _, rfl, ?_⟩
    refine iteB (fun c1449 => ?_) (fun c1449 => ?_)
    · have hw := cW_pos c1449 hw
      refine ⟨_, rfl, _, _, _, _, _, rfl, (S0.bM _ _ h_p_self), T.cl_Format, T.n_Format_height, rfl, _, rfl, _, _, _, _, _, rfl, (S0.bM _ _ h_p_other), T.cl_Format, T.n_Format_height, rfl, _, _, rfl, rfl, _, rfl, ?_⟩
      refine iteB (fun c1450 => ?_) (fun c1450 => ?_)
      · have hw := cW_pos c1450 hw
        refine ⟨_, rfl, _, _, _, _, _, rfl, (S0.bM _ _ h_p_self), T.cl_Format, T.n_Format_depth, rfl, _, rfl, _, _, _, _, _, rfl, (S0.bM _ _ h_p_other), T.cl_Format, T.n_Format_depth, rfl, _, _, rfl, rfl, _, rfl, ?_⟩
        refine iteB (fun c1451 => ?_) (fun c1451 => ?_)
        · have hw := cW_pos c1451 hw
          refine ⟨_, rfl, _, _, _, _, _, rfl, (S0.bM _ _ h_p_self), T.cl_Format, T.n_Format_chroma, rfl, _, rfl, _, _, _, _, _, rfl, (S0.bM _ _ h_p_other), T.cl_Format, T.n_Format_chroma, rfl, _, _, rfl, rfl, ?_⟩
          have hw := cW_ok hw
          exact hK0 _ hw _ S0.b0
        · have hw := cW_negB c1451 hw
          have hw := cW_ok hw
          exact hK0 _ hw _ S0.b0
      · have hw := cW_negB c1450 hw
        have hw := cW_ok hw
        exact hK0 _ hw _ S0.b0
    · have hw := cW_negB c1449 hw
      have hw := cW_ok hw
      exact hK0 _ hw _ S0.b0

abbrev N_Settings___eq__ : List Str := ["self", "other"]
theorem sc_Settings___eq__ : FnScope N_Settings___eq__ ["self", "other"] (defScope s_Settings___eq__) := ⟨rfl, rfl, rfl, by decide +kernel, rfl, by decide +kernel, by decide +kernel⟩
theorem ok_Settings___eq__ (D : MethX K AD.c_Settings "Settings.__eq__" "__eq__" s_Settings___eq__ ["self", "other"] pats_Settings___eq__) (T : Txt w K mg AD) (c_Format___eq__ : MetX P w K mg base 1 AD.c_Format "__eq__" (sp_Format___eq__ K AD) pats_Format___eq__) : MetX P w K mg base 2 AD.c_Settings "__eq__" (sp_Settings___eq__ K AD) pats_Settings___eq__ := by
  refine D.ok T.cl_Settings sc_Settings___eq__ (fun vs H Q E h => ?_) (fun f cdv A_ outer s H vs Q E hr h => ?_)
  · obtain ⟨G, p_self, p_self_fmt, dx_self, dx_self_fmt, self', p_other, p_other_fmt, dx_other, dx_other_fmt, other', rfl, _⟩ := h
    rfl
  · obtain ⟨G, p_self, p_self_fmt, dx_self, dx_self_fmt, self', p_other, p_other_fmt, dx_other, dx_other_fmt, other', rfl, sG, h_p_self, h_p_self_fmt, h_p_other, h_p_other_fmt, hw⟩ := h
    refine ⟨_, (pss_one (ps_ret (pe_and (pe_callB call_isi (by rfl) T.b_isinstance (by decide +kernel) (pa_cons (pv 1) (pa_cons (C8.pe_gc (v := V.ref AD.c_Settings) rfl ⟨_, T.cg_Settings, rfl⟩) pa_nil))) (pe_and (pe_cmpR (op_eqX c_Format___eq__ pat_Format___eq___0 (.head _) hr (by decide)) (fldK (K := K) (pv 0)) (fldK (K := K) (pv 1)) (nomark _)) (pe_and (pe_cmp (pc_eqI (fldK (K := K) (pv 0)) (fldK (K := K) (pv 1)))) (pe_and (pe_cmp (pc_eqI (fldK (K := K) (pv 0)) (fldK (K := K) (pv 1)))) (pe_and (pe_cmpR op_eq (fldK (K := K) (pv 0)) (fldK (K := K) (pv 1)) (nomark _)) (pe_and (pe_cmpR op_eq (fldK (K := K) (pv 0)) (fldK (K := K) (pv 1)) (nomark _)) (pe_one (pe_cmp (pc_eqI (fldK (K := K) (pv 0)) (fldK (K := K) (pv 1))))))))))))), ?_⟩
    obtain ⟨KK, EE, hK0, hE, hw⟩ := cW_gen hw
    have S0 := Sep.startG sG
    unfold F_Settings___eq__ at hw
    refine ⟨_, rfl, _, _, _, _, _, rfl, (.own _), (tyX_ins (S0.bM _ _ h_p_other) T.cl_Settings T.ci_Settings), kit_self, _, rfl, ?_⟩
    refine iteT ?_
    refine ⟨_, rfl, _, _, _, _, _, rfl, (S0.bM _ _ h_p_self), T.cl_Settings, T.n_Settings_fmt, rfl, _, rfl, _, _, _, _, _, rfl, (S0.bM _ _ h_p_other), T.cl_Settings, T.n_Settings_fmt, rfl, _, _, _, _, _, _, rfl, rfl, (S0.bM _ _ h_p_self_fmt), (S0.bM _ _ h_p_other_fmt), rfl, rfl, G, _, _, self'.fmt, _, _, other'.fmt, rfl, S0.sG, (hide_nil (S0.bM _ _ h_p_self_fmt)), (hide_nil (S0.bM _ _ h_p_other_fmt)), cW_callN hw (fun v1452 hw H1453 e1454 => ?_) trivial⟩
    have S1455 := S0.same e1454
    refine ⟨⟨_, rfl⟩, _, rfl, ?_⟩
    refine iteB (fun c1456 => ?_) (fun c1456 => ?_)
    · have hw := cW_pos c1456 hw
      refine ⟨_, rfl, _, _, _, _, _, rfl, (S1455.bM _ _ h_p_self), T.cl_Settings, T.n_Settings_slots, rfl, _, rfl, _, _, _, _, _, rfl, (S1455.bM _ _ h_p_other), T.cl_Settings, T.n_Settings_slots, rfl, _, _, rfl, rfl, _, rfl, ?_⟩
      refine iteB (fun c1457 => ?_) (fun c1457 => ?_)
      · have hw := cW_pos c1457 hw
        refine ⟨_, rfl, _, _, _, _, _, rfl, (S1455.bM _ _ h_p_self), T.cl_Settings, T.n_Settings_rows, rfl, _, rfl, _, _, _, _, _, rfl, (S1455.bM _ _ h_p_other), T.cl_Settings, T.n_Settings_rows, rfl, _, _, rfl, rfl, _, rfl, ?_⟩
        refine iteB (fun c1458 => ?_) (fun c1458 => ?_)
        · have hw := cW_pos c1458 hw
          refine ⟨_, rfl, _, _, _, _, _, rfl, (S1455.bM _ _ h_p_self), T.cl_Settings, T.n_Settings_deblock, rfl, _, rfl, _, _, _, _, _, rfl, (S1455.bM _ _ h_p_other), T.cl_Settings, T.n_Settings_deblock, rfl, rfl, _, rfl, ?_⟩
          refine iteB (fun c1459 => ?_) (fun c1459 => ?_)
          · have hw := cW_pos c1459 hw
            refine ⟨_, rfl, _, _, _, _, _, rfl, (S1455.bM _ _ h_p_self), T.cl_Settings, T.n_Settings_offset, rfl, _, rfl, _, _, _, _, _, rfl, (S1455.bM _ _ h_p_other), T.cl_Settings, T.n_Settings_offset, rfl, rfl, _, rfl, ?_⟩
            refine iteB (fun c1460 => ?_) (fun c1460 => ?_)
            · have hw := cW_pos c1460 hw
              refine ⟨_, rfl, _, _, _, _, _, rfl, (S1455.bM _ _ h_p_self), T.cl_Settings, T.n_Settings_layers, rfl, _, rfl, _, _, _, _, _, rfl, (S1455.bM _ _ h_p_other), T.cl_Settings, T.n_Settings_layers, rfl, _, _, rfl, rfl, ?_⟩
              have hw := cW_ok hw
              exact hK0 _ hw _ S1455.b0
            · have hw := cW_negB c1460 hw
              have hw := cW_ok hw
              exact hK0 _ hw _ S1455.b0
          · have hw := cW_negB c1459 hw
            have hw := cW_ok hw
            exact hK0 _ hw _ S1455.b0
        · have hw := cW_negB c1458 hw
          have hw := cW_ok hw
          exact hK0 _ hw _ S1455.b0
      · have hw := cW_negB c1457 hw
        have hw := cW_ok hw
        exact hK0 _ hw _ S1455.b0
    · have hw := cW_negB c1456 hw
      have hw := cW_ok hw
      exact hK0 _ hw _ S1455.b0

abbrev N_law : List Str := ["script", "n", "settings", "payload", "kept", "back", "other", "draws", "change", "twin", "plain"]
theorem sc_law : FnScope N_law ["script"] (defScope s_law) := ⟨rfl, rfl, rfl, by decide +kernel, rfl, by decide +kernel, by decide +kernel⟩
theorem ok_law {f : Addr} {fd : FuncData} (F : FunD K "law" "law" (defArgs s_law) (defBody s_law) (defScope s_law) [] [] f fd) (T : Txt w K mg AD) (c__law_numbers : CalX P w K mg base 2 "_law_numbers" (sp__law_numbers K AD) pats__law_numbers) (c__law_cell : CalX P w K mg base 1 "_law_cell" (sp__law_cell K AD) pats__law_cell) (c__law_settings : CalX P w K mg base 4 "_law_settings" (sp__law_settings K AD) pats__law_settings) (c__law_same : CalX P w K mg base 1 "_law_same" (sp__law_same K AD) pats__law_same) (c_write_settings : CalX P w K mg base 4 "write_settings" (sp_write_settings K AD) pats_write_settings) (c__law_settings_payload : CalX P w K mg base 3 "_law_settings_payload" (sp__law_settings_payload K AD) pats__law_settings_payload) (c_read_settings : CalX P w K mg base 6 "read_settings" (sp_read_settings K AD) pats_read_settings) (c_Settings___eq__ : MetX P w K mg base 2 AD.c_Settings "__eq__" (sp_Settings___eq__ K AD) pats_Settings___eq__) (c__law_draws : CalX P w K mg base 1 "_law_draws" (sp__law_draws K AD) pats__law_draws) (c_Settings___init__ : MakX P w K mg base 2 "Settings" AD.c_Settings (sp_Settings___init__ K AD) pats_Settings___init__) (c_Format___init__ : MakX P w K mg base 1 "Format" AD.c_Format (sp_Format___init__ K AD) pats_Format___init__) : FnG P w K mg base CX0 7 f fd ["script"] (sp_law K AD) := by
  refine FnG.bodyN F sc_law (fun vs H Q E h => ?_) (fun cdv A_ outer s H vs Q E hr h => ?_)
  · obtain ⟨a_script, script, rfl, _⟩ := h
    rfl
  · obtain ⟨a_script, script', rfl, q_script, hw, k⟩ := h
    refine ⟨_, (pss_cons (ps_set (i := 1) sc_law.nd rfl (Or.inl rfl) (vx_callX c__law_numbers pat__law_numbers_0 (.head _) hr (by decide) takes0 rfl (pa_cons (vx_callX c__law_cell pat__law_cell_0 (.head _) hr (by decide) takes0 rfl (pa_cons (pv 0) (pa_cons pe_int pa_nil)) pk_nil) pa_nil) pk_nil))
      (pss_cons (ps_set (i := 2) sc_law.nd rfl (Or.inl rfl) (vx_callX c__law_settings pat__law_settings_0 (.head _) hr (by decide) takes0 rfl (pa_cons (pv 1) pa_nil) pk_nil))
      (pss_cons (ps_if (pt_not (pt_val (vx_callX c__law_same pat__law_same_0 (.head _) hr (by decide) takes0 rfl (pa_cons (pv 2) (pa_cons (pv 1) pa_nil)) pk_nil))) (pss_one (ps_ret pe_bl)) pss_nil)
      (pss_cons (ps_set (i := 3) sc_law.nd rfl (Or.inl rfl) (vx_callX c_write_settings pat_write_settings_0 (.head _) hr (by decide) takes0 rfl (pa_cons (pv 2) pa_nil) pk_nil))
      (pss_cons (ps_if (PW.pt (pw_or (pt_not (pt_val (pe_callB call_isi (by rfl) T.b_isinstance (by decide +kernel) (pa_cons (pv 3) (pa_cons (pe_bltn (v := V.ty "list") (u := Value.type "list") (by rfl) T.b_list (by decide +kernel) rfl) pa_nil))))) (pw_or1 (pt_cmpR (op_neT (encOk_L encOk_int) hr.units) (pv 3) (vx_callX c__law_settings_payload pat__law_settings_payload_0 (.head _) hr (by decide) takes0 rfl (pa_cons (pv 1) pa_nil) pk_nil) (nomark _))))) (pss_one (ps_ret pe_bl)) pss_nil)
      (pss_cons (ps_set (i := 4) sc_law.nd rfl (Or.inl rfl) (pe_callTy (call_listLK (K := K)) (by rfl) T.b_list (by decide +kernel) (pa_cons (pv 3) pa_nil)))
      (pss_cons (ps_set (i := 5) sc_law.nd rfl (Or.inl rfl) (vx_callX c_read_settings pat_read_settings_0 (.head _) hr (by decide) takes0 rfl (pa_cons (pv 3) pa_nil) pk_nil))
      (pss_cons (ps_if (PW.pt (pw_or (pt_not (pt_val (pe_callB call_isi (by rfl) T.b_isinstance (by decide +kernel) (pa_cons (pv 5) (pa_cons (C8.pe_gc (v := V.ref AD.c_Settings) rfl ⟨_, T.cg_Settings, rfl⟩) pa_nil))))) (pw_or (pt_not (pt_val (vx_callX c__law_same pat__law_same_0 (.head _) hr (by decide) takes0 rfl (pa_cons (pv 5) (pa_cons (pv 1) pa_nil)) pk_nil))) (pw_or (pt_cmpR op_notTrue (pe_cmpR (op_eqX c_Settings___eq__ pat_Settings___eq___0 (.head _) hr (by decide)) (pv 5) (pv 2) (nomark _)) pe_bl (nomark _)) (pw_or1 (pt_cmpR (op_neT (encOk_L encOk_int) hr.units) (pv 3) (pv 4) (nomark _))))))) (pss_one (ps_ret pe_bl)) pss_nil)
      (pss_cons (ps_expr (pe_bm PySem.F.plainAttrs_list PySem.F.slot_list_append PySem.F.type_list_append mt_append (pv 3) (pa_cons pe_int pa_nil)))
      (pss_cons (ps_if (PW.pt (pw_or (pt_cmpR (op_neT (encOk_L encOk_int) hr.units) (vx_callX c_write_settings pat_write_settings_0 (.head _) hr (by decide) takes0 rfl (pa_cons (pv 2) pa_nil) pk_nil) (pv 4) (nomark _)) (pw_or1 (pt_not (pt_val (vx_callX c__law_same pat__law_same_0 (.head _) hr (by decide) takes0 rfl (pa_cons (vx_callX c_read_settings pat_read_settings_0 (.head _) hr (by decide) takes0 rfl (pa_cons (pv 4) pa_nil) pk_nil) (pa_cons (pv 1) pa_nil)) pk_nil)))))) (pss_one (ps_ret pe_bl)) pss_nil)
      (pss_cons (ps_set (i := 6) sc_law.nd rfl (Or.inl rfl) (vx_callX c__law_numbers pat__law_numbers_0 (.head _) hr (by decide) takes0 rfl (pa_cons (vx_callX c__law_cell pat__law_cell_0 (.head _) hr (by decide) takes0 rfl (pa_cons (pv 0) (pa_cons pe_int pa_nil)) pk_nil) pa_nil) pk_nil))
      (pss_cons (ps_set (i := 7) sc_law.nd rfl (Or.inl rfl) (vx_callX c__law_draws pat__law_draws_0 (.head _) hr (by decide) takes0 rfl (pa_cons (vx_callX c__law_cell pat__law_cell_0 (.head _) hr (by decide) takes0 rfl (pa_cons (pv 0) (pa_cons pe_int pa_nil)) pk_nil) (pa_cons (pe_lst (pa_cons pe_int pa_nil)) pa_nil)) pk_nil))
      (pss_cons (ps_set (i := 8) sc_law.nd rfl (Or.inl rfl) (pe_op op_cat (pe_op op_cat (pe_slice (sl_listK (K := K)) (pv 1) po_none (po_some (pe_ix (ix_listK (K := K)) (pv 7) pe_int (fun _ _ => rfl)))) (pe_lst (pa_cons (pe_ix (ix_listK (K := K)) (pv 6) (pe_ix (ix_listK (K := K)) (pv 7) pe_int (fun _ _ => rfl)) (fun _ _ => rfl)) pa_nil))) (pe_slice (sl_listK (K := K)) (pv 1) (po_some (pe_op op_add (pe_ix (ix_listK (K := K)) (pv 7) pe_int (fun _ _ => rfl)) pe_int)) po_none)))
      (pss_cons (ps_set (i := 9) sc_law.nd rfl (Or.inl rfl) (vx_callX c__law_settings pat__law_settings_0 (.head _) hr (by decide) takes0 rfl (pa_cons (pv 8) pa_nil) pk_nil))
      (pss_cons (ps_if (PW.pt (pw_or (pt_cmpR op_ne (pe_cmpR (op_eqX c_Settings___eq__ pat_Settings___eq___0 (.head _) hr (by decide)) (pv 9) (pv 2) (nomark _)) (pe_cmpR (op_eqT (encOk_L encOk_int) hr.units) (pv 8) (pv 1) (nomark _)) (nomark _)) (pw_or1 (pt_cmpR (op_neT (encOk_L encOk_int) hr.units) (vx_callX c_write_settings pat_write_settings_0 (.head _) hr (by decide) takes0 rfl (pa_cons (pv 9) pa_nil) pk_nil) (vx_callX c__law_settings_payload pat__law_settings_payload_0 (.head _) hr (by decide) takes0 rfl (pa_cons (pv 8) pa_nil) pk_nil) (nomark _))))) (pss_one (ps_ret pe_bl)) pss_nil)
      (pss_cons (ps_set (i := 10) sc_law.nd rfl (Or.inl rfl) (vx_makeX c_Settings___init__ pat_Settings___init___1 (.tail _ (.head _)) hr (by decide) takes0 rfl (pa_cons (vx_makeX c_Format___init__ pat_Format___init___0 (.head _) hr (by decide) takes0 rfl (pa_cons (pe_ix (ix_listK (K := K)) (pv 1) pe_int (fun _ _ => rfl)) (pa_cons (pe_ix (ix_listK (K := K)) (pv 1) pe_int (fun _ _ => rfl)) pa_nil)) (pk_cons (pe_ix (ix_listK (K := K)) (pv 1) pe_int (fun _ _ => rfl)) (pk_cons (pe_ix (ix_listK (K := K)) (pv 1) pe_int (fun _ _ => rfl)) pk_nil))) pa_nil) pk_nil))
      (pss_one (ps_ret (vx_callX c__law_same pat__law_same_0 (.head _) hr (by decide) takes0 rfl (pa_cons (pv 10) (pa_cons (pe_op op_cat (pe_slice (sl_listK (K := K)) (pv 1) po_none (po_some pe_int)) (pe_lst (pa_cons pe_int (pa_cons pe_int (pa_cons pe_int (pa_cons pe_int (pa_cons pe_int pa_nil))))))) pa_nil)) pk_nil))))))))))))))))))), ?_⟩
    obtain ⟨KK, EE, hK0, hE, hw⟩ := cW_gen hw
    have S0 := Sep.start0 H
    unfold F_law at hw
    refine ⟨_, rfl, rfl, rfl, H, _, _, _, rfl, S0.sG, (S0.b0.seq q_script), cW_call hw (fun v1461 hw => ?_) (fun e he => (hE e he).elim)⟩
    refine ⟨rfl, rfl, H, _, rfl, S0.sG, cW_call hw (fun v1462 hw p1465 H1463 n1466 e1464 h1467 => ?_) (fun e he => (hE e he).elim)⟩
    have h1468 : H1463 p1465 = some (.lst ((v1462 : (List Int)).map V.int)) := h1467
    have fr1469 := S0.free n1466
    have S1470 := S0.new n1466 e1464 h1468 fr1469
    refine ⟨_, rfl, rfl, rfl, H, _, _, rfl, S1470.sG, (hide_nil h1468), cW_call hw (fun v1471 hw H1472 p1474 p1475 dx1476 dx1477 e1473 n1478 n1479 ne1482 h1480 h1481 => ?_) (fun e he => (hE e he).elim)⟩
    have fr1483 := S1470.free n1478
    have fr1484 := S1470.free n1479
    have S1485 : Sep _ _ _ _ H1472 [p1474, p1475, p1465] := Sep.news S1470 e1473 [p1474, p1475] (all_cons ⟨n1478, some_ne h1480, fr1483⟩ (all_cons ⟨n1479, some_ne h1481, fr1484⟩ all_nil))
    have h1486 := (e1473 _ _ h1468)
    refine ⟨_, rfl, _, rfl, rfl, rfl, H, _, _, _, _, v1471, _, _, rfl, S1485.sG, (hide_nil h1480), (hide_nil h1481), (hide_nil h1486), cW_call hw (fun v1487 hw H1488 e1489 => ?_) (fun e he => (hE e he).elim)⟩
    have S1490 := S1485.same e1489
    refine ⟨_, rfl, ?_⟩
    refine iteBN (fun c1491 => ?_) (fun c1491 => ?_)
    · have hw := cW_negB c1491 hw
      have hw := cW_ok hw
      exact eq_bl (k _) (hK0 _ hw).symm
    · have hw := cW_pos c1491 hw
      have h1492 := (e1489 _ _ h1480)
      have h1493 := (e1489 _ _ h1481)
      refine ⟨_, rfl, rfl, rfl, H, _, _, _, _, v1471, rfl, S1490.sG, (hide_nil h1492), (hide_nil h1493), cW_call hw (fun v1494 hw p1497 H1495 n1498 e1496 h1499 => ?_) (fun e he => (hE e he).elim)⟩
      have h1500 : H1495 p1497 = some (.lst ((v1494 : (List Int)).map V.int)) := h1499
      have fr1501 := S1490.free n1498
      have S1502 := S1490.new n1498 e1496 h1500 fr1501
      refine ⟨_, rfl, _, _, _, _, _, rfl, (.ty _), (.base (.lst h1500)), rfl, _, rfl, ?_⟩
      refine iteF ?_
      have h1503 := (e1496 _ _ (e1489 _ _ h1486))
      refine ⟨_, rfl, _, rfl, rfl, rfl, H, _, _, rfl, S1502.sG, (hide_nil h1503), cW_call hw (fun v1504 hw p1507 H1505 n1508 e1506 h1509 => ?_) (fun e he => (hE e he).elim)⟩
      have h1510 : H1505 p1507 = some (.lst ((v1504 : (List Int)).map V.int)) := h1509
      have fr1511 := S1502.free n1508
      have S1512 := S1502.new n1508 e1506 h1510 fr1511
      have h1513 := (e1506 _ _ h1500)
      refine ⟨_, _, (rp_mk_ints h1513), (rp_mk_ints h1510), _, rfl, ?_⟩
      refine iteN (fun c1514 => ?_) (fun c1514 => ?_)
      · have hw := cW_neg c1514 hw
        have hw := cW_ok hw
        exact eq_bl (k _) (hK0 _ hw).symm
      · have hw := cW_pos c1514 hw
        refine ⟨_, rfl, _, _, rfl, (SqL.of h1513), fun p1515 n1516 => ?_⟩
        generalize g1517 : upd H1505 p1515 _ = H1518
        obtain ⟨e1519, h1520⟩ := gen_new n1516 g1517
        have h1521 : H1518 p1515 = some (.lst ((v1494 : (List Int)).map V.int)) := h1520
        have fr1522 := S1512.free n1516
        have S1523 := S1512.new n1516 e1519 h1521 fr1522
        have h1524 := (e1519 _ _ h1513)
        refine ⟨_, rfl, rfl, rfl, H, _, _, rfl, S1523.sG, (hide_nil h1524), cW_call hw (fun v1525 hw H1526 p1528 p1529 dx1530 dx1531 e1527 n1532 n1533 ne1536 h1534 h1535 => ?_) (fun e he => (hE e he).elim)⟩
        have fr1537 := S1523.free n1532
        have fr1538 := S1523.free n1533
        have S1539 : Sep _ _ _ _ H1526 [p1528, p1529, p1515, p1507, p1497, p1474, p1475, p1465] := Sep.news S1523 e1527 [p1528, p1529] (all_cons ⟨n1532, some_ne h1534, fr1537⟩ (all_cons ⟨n1533, some_ne h1535, fr1538⟩ all_nil))
        refine ⟨_, rfl, _, _, _, _, _, rfl, (.own _), (tyX_ins h1534 T.cl_Settings T.ci_Settings), kit_self, _, rfl, ?_⟩
        refine iteF ?_
        have h1540 := (e1527 _ _ (e1519 _ _ (e1506 _ _ h1503)))
        refine ⟨_, rfl, _, rfl, rfl, rfl, H, _, _, _, _, v1525, _, _, rfl, S1539.sG, (hide_nil h1534), (hide_nil h1535), (hide_nil h1540), cW_call hw (fun v1541 hw H1542 e1543 => ?_) (fun e he => (hE e he).elim)⟩
        have S1544 := S1539.same e1543
        refine ⟨_, rfl, ?_⟩
        refine iteBN (fun c1545 => ?_) (fun c1545 => ?_)
        · have hw := cW_negB c1545 hw
          refine iteT ?_
          have hw := cW_ok hw
          exact eq_bl (k _) (hK0 _ hw).symm
        · have hw := cW_pos c1545 hw
          have h1546 := (e1543 _ _ h1534)
          have h1547 := (e1543 _ _ (e1527 _ _ (e1519 _ _ (e1506 _ _ (e1496 _ _ h1492)))))
          have h1548 := (e1543 _ _ h1535)
          have h1549 := (e1543 _ _ (e1527 _ _ (e1519 _ _ (e1506 _ _ (e1496 _ _ h1493)))))
          refine ⟨_, rfl, _, rfl, _, _, _, _, _, _, rfl, rfl, h1546, h1547, rfl, rfl, H, _, _, _, _, v1525, _, _, _, _, v1471, rfl, S1544.sG, (hide_nil h1546), (hide_nil h1548), (hide_nil h1547), (hide_nil h1549), cW_callN hw (fun v1550 hw H1551 e1552 => ?_) trivial⟩
          have S1553 := S1544.same e1552
          refine ⟨⟨_, rfl⟩, _, rfl, rfl, _, rfl, ?_⟩
          refine iteB (fun c1554 => ?_) (fun c1554 => ?_)
          · have hw := cW_pos c1554 hw
            refine iteT ?_
            have hw := cW_ok hw
            exact eq_bl (k _) (hK0 _ hw).symm
          · have hw := cW_negB c1554 hw
            have h1555 := (e1552 _ _ (e1543 _ _ (e1527 _ _ h1524)))
            have h1556 := (e1552 _ _ (e1543 _ _ (e1527 _ _ h1521)))
            refine ⟨_, rfl, _, rfl, _, _, (rp_mk_ints h1555), (rp_mk_ints h1556), _, rfl, ?_⟩
            refine iteN (fun c1557 => ?_) (fun c1557 => ?_)
            · have hw := cW_neg c1557 hw
              have hw := cW_ok hw
              exact eq_bl (k _) (hK0 _ hw).symm
            · have hw := cW_pos c1557 hw
              obtain ⟨g1558, hw⟩ := cW_grd hw
              refine ⟨_, rfl, (.inl ⟨rfl, _, SqL.of h1555⟩), _, _, _, rfl, rfl, h1555, (app_lenM g1558), ?_⟩
              generalize g1559 : upd H1551 p1497 _ = H1560
              obtain ⟨x1561, h1562⟩ := gen_mut g1559
              have h1563 : H1560 p1497 = some (.lst (((v1494) ++ [9] : (List Int)).map V.int)) := snoc_map h1562
              have S1564 := S1553.mut1 x1561 (.tail _ (.tail _ (.tail _ (.tail _ (.head _))))) h1563
              have hw := cW_bnd hw
              have h1566 := (x1561 _ _ (e1552 _ _ h1547) (ne_of_none h1492 n1498))
              have h1567 := (x1561 _ _ (e1552 _ _ h1549) (ne_of_none h1493 n1498))
              refine ⟨_, rfl, rfl, rfl, H, _, _, _, _, v1471, rfl, S1564.sG, (hide_nil h1566), (hide_nil h1567), cW_call hw (fun v1568 hw p1571 H1569 n1572 e1570 h1573 => ?_) (fun e he => (hE e he).elim)⟩
              have h1574 : H1569 p1571 = some (.lst ((v1568 : (List Int)).map V.int)) := h1573
              have fr1575 := S1564.free n1572
              have S1576 := S1564.new n1572 e1570 h1574 fr1575
              have h1577 := (e1570 _ _ (x1561 _ _ h1556 (ne_of_none h1513 n1516).symm))
              refine ⟨_, rfl, _, _, (rp_mk_ints h1574), (rp_mk_ints h1577), _, rfl, ?_⟩
              refine iteN (fun c1578 => ?_) (fun c1578 => ?_)
              · have hw := cW_neg c1578 hw
                refine iteT ?_
                have hw := cW_ok hw
                exact eq_bl (k _) (hK0 _ hw).symm
              · have hw := cW_pos c1578 hw
                refine ⟨_, rfl, rfl, rfl, H, _, _, rfl, S1576.sG, (hide_nil h1577), cW_call hw (fun v1579 hw H1580 p1582 p1583 dx1584 dx1585 e1581 n1586 n1587 ne1590 h1588 h1589 => ?_) (fun e he => (hE e he).elim)⟩
                have fr1591 := S1576.free n1586
                have fr1592 := S1576.free n1587
                have S1593 : Sep _ _ _ _ H1580 [p1582, p1583, p1571, p1528, p1529, p1515, p1507, p1497, p1474, p1475, p1465] := Sep.news S1576 e1581 [p1582, p1583] (all_cons ⟨n1586, some_ne h1588, fr1591⟩ (all_cons ⟨n1587, some_ne h1589, fr1592⟩ all_nil))
                have h1594 := (e1581 _ _ (e1570 _ _ (x1561 _ _ (e1552 _ _ (e1543 _ _ h1540)) (ne_of_none (e1489 _ _ h1486) n1498))))
                refine ⟨_, rfl, rfl, rfl, H, _, _, _, _, v1579, _, _, rfl, S1593.sG, (hide_nil h1588), (hide_nil h1589), (hide_nil h1594), cW_call hw (fun v1595 hw H1596 e1597 => ?_) (fun e he => (hE e he).elim)⟩
                have S1598 := S1593.same e1597
                refine ⟨_, rfl, ?_⟩
                refine iteBN (fun c1599 => ?_) (fun c1599 => ?_)
                · have hw := cW_negB c1599 hw
                  have hw := cW_ok hw
                  exact eq_bl (k _) (hK0 _ hw).symm
                · have hw := cW_pos c1599 hw
                  refine ⟨_, rfl, rfl, rfl, H, _, _, _, rfl, S1598.sG, (S1598.b0.seq q_script), cW_call hw (fun v1600 hw => ?_) (fun e he => (hE e he).elim)⟩
                  refine ⟨rfl, rfl, H, _, rfl, S1598.sG, cW_call hw (fun v1601 hw p1604 H1602 n1605 e1603 h1606 => ?_) (fun e he => (hE e he).elim)⟩
                  have h1607 : H1602 p1604 = some (.lst ((v1601 : (List Int)).map V.int)) := h1606
                  have fr1608 := S1598.free n1605
                  have S1609 := S1598.new n1605 e1603 h1607 fr1608
                  refine ⟨_, rfl, rfl, rfl, H, _, _, _, rfl, S1609.sG, (S1609.b0.seq q_script), cW_call hw (fun v1610 hw => ?_) (fun e he => (hE e he).elim)⟩
                  refine ⟨(by show 1 ≤ sizeLine; decide), fun p1611 n1612 => ?_⟩
                  generalize g1613 : upd H1602 p1611 _ = H1614
                  obtain ⟨e1615, h1616⟩ := gen_new n1612 g1613
                  have h1617 : H1614 p1611 = some (.lst (([9] : (List Int)).map V.int)) := h1616
                  have fr1618 := S1609.free n1612
                  have S1619 := S1609.new n1612 e1615 h1617 fr1618
                  refine ⟨rfl, rfl, H, _, _, _, rfl, S1619.sG, (hide_nil h1617), cW_call hw (fun v1620 hw p1623 H1621 n1624 e1622 h1625 => ?_) (fun e he => (hE e he).elim)⟩
                  have h1626 : H1621 p1623 = some (.lst ((v1620 : (List Int)).map V.int)) := h1625
                  have fr1627 := S1619.free n1624
                  have S1628 := S1619.new n1624 e1622 h1626 fr1627
                  obtain ⟨g1629, hw⟩ := cW_grd hw
                  have h1630 := (e1622 _ _ (e1615 _ _ (e1603 _ _ (e1597 _ _ h1594))))
                  refine ⟨_, rfl, _, rfl, _, _, _, _, rfl, rfl, (SqL.of h1626), (atI_map g1629), _, rfl, _, _, rfl, (SqL.of h1630), fun p1631 n1632 => ?_⟩
                  generalize g1633 : upd H1621 p1631 _ = H1634
                  obtain ⟨e1635, h1636⟩ := gen_new n1632 g1633
                  have h1637 : H1634 p1631 = some (.lst ((cutL (v1462) none (some ((itD (v1620) (0)))) : (List Int)).map V.int)) := cut_map h1636
                  have fr1638 := S1628.free n1632
                  have S1639 := S1628.new n1632 e1635 h1637 fr1638
                  obtain ⟨g1640, hw⟩ := cW_grd hw
                  have h1641 := (e1635 _ _ h1626)
                  obtain ⟨g1642, hw⟩ := cW_grd hw
                  have h1643 := (e1635 _ _ (e1622 _ _ (e1615 _ _ h1607)))
                  refine ⟨_, rfl, _, rfl, _, _, _, _, rfl, rfl, (SqL.of h1641), (atI_map g1640), _, _, _, _, rfl, rfl, (SqL.of h1643), (atI_map g1642), (by show 1 ≤ sizeLine; decide), fun p1644 n1645 => ?_⟩
                  generalize g1646 : upd H1634 p1644 _ = H1647
                  obtain ⟨e1648, h1649⟩ := gen_new n1645 g1646
                  have h1650 : H1647 p1644 = some (.lst (([(itD (v1601) ((itD (v1620) (0))))] : (List Int)).map V.int)) := h1649
                  have fr1651 := S1639.free n1645
                  have S1652 := S1639.new n1645 e1648 h1650 fr1651
                  obtain ⟨g1653, hw⟩ := cW_grd hw
                  have h1654 := (e1648 _ _ h1637)
                  refine ⟨_, _, _, _, rfl, rfl, h1654, h1650, (cat_lenM g1653), fun p1655 n1656 => ?_⟩
                  generalize g1657 : upd H1647 p1655 _ = H1658
                  obtain ⟨e1659, h1660⟩ := gen_new n1656 g1657
                  have h1661 : H1658 p1655 = some (.lst (((cutL (v1462) none (some ((itD (v1620) (0))))) ++ ([(itD (v1601) ((itD (v1620) (0))))]) : (List Int)).map V.int)) := cat_map h1660
                  have fr1662 := S1652.free n1656
                  have S1663 := S1652.new n1656 e1659 h1661 fr1662
                  obtain ⟨g1664, hw⟩ := cW_grd hw
                  have h1665 := (e1659 _ _ (e1648 _ _ h1641))
                  have h1666 := (e1659 _ _ (e1648 _ _ (e1635 _ _ h1630)))
                  refine ⟨_, rfl, _, rfl, _, _, _, _, rfl, rfl, (SqL.of h1665), (atI_map g1664), _, _, rfl, rfl, _, rfl, _, _, rfl, (SqL.of h1666), fun p1667 n1668 => ?_⟩
                  generalize g1669 : upd H1658 p1667 _ = H1670
                  obtain ⟨e1671, h1672⟩ := gen_new n1668 g1669
                  have h1673 : H1670 p1667 = some (.lst ((cutL (v1462) (some (((itD (v1620) (0)) + 1))) none : (List Int)).map V.int)) := cut_map h1672
                  have fr1674 := S1663.free n1668
                  have S1675 := S1663.new n1668 e1671 h1673 fr1674
                  obtain ⟨g1676, hw⟩ := cW_grd hw
                  have h1677 := (e1671 _ _ h1661)
                  refine ⟨_, _, _, _, rfl, rfl, h1677, h1673, (cat_lenM g1676), fun p1678 n1679 => ?_⟩
                  generalize g1680 : upd H1670 p1678 _ = H1681
                  obtain ⟨e1682, h1683⟩ := gen_new n1679 g1680
                  have h1684 : H1681 p1678 = some (.lst ((((cutL (v1462) none (some ((itD (v1620) (0))))) ++ ([(itD (v1601) ((itD (v1620) (0))))])) ++ (cutL (v1462) (some (((itD (v1620) (0)) + 1))) none) : (List Int)).map V.int)) := cat_map h1683
                  have fr1685 := S1675.free n1679
                  have S1686 := S1675.new n1679 e1682 h1684 fr1685
                  refine ⟨_, rfl, rfl, rfl, H, _, _, rfl, S1686.sG, (hide_nil h1684), cW_call hw (fun v1687 hw H1688 p1690 p1691 dx1692 dx1693 e1689 n1694 n1695 ne1698 h1696 h1697 => ?_) (fun e he => (hE e he).elim)⟩
                  have fr1699 := S1686.free n1694
                  have fr1700 := S1686.free n1695
                  have S1701 : Sep _ _ _ _ H1688 [p1690, p1691, p1678, p1667, p1655, p1644, p1631, p1623, p1611, p1604, p1582, p1583, p1571, p1528, p1529, p1515, p1507, p1497, p1474, p1475, p1465] := Sep.news S1686 e1689 [p1690, p1691] (all_cons ⟨n1694, some_ne h1696, fr1699⟩ (all_cons ⟨n1695, some_ne h1697, fr1700⟩ all_nil))
                  have h1702 := (e1689 _ _ (e1682 _ _ (e1671 _ _ (e1659 _ _ (e1648 _ _ (e1635 _ _ (e1622 _ _ (e1615 _ _ (e1603 _ _ (e1597 _ _ (e1581 _ _ (e1570 _ _ h1566))))))))))))
                  have h1703 := (e1689 _ _ (e1682 _ _ (e1671 _ _ (e1659 _ _ (e1648 _ _ (e1635 _ _ (e1622 _ _ (e1615 _ _ (e1603 _ _ (e1597 _ _ (e1581 _ _ (e1570 _ _ h1567))))))))))))
                  refine ⟨_, rfl, _, rfl, _, _, _, _, _, _, rfl, rfl, h1696, h1702, rfl, rfl, H, _, _, _, _, v1687, _, _, _, _, v1471, rfl, S1701.sG, (hide_nil h1696), (hide_nil h1697), (hide_nil h1702), (hide_nil h1703), cW_callN hw (fun v1704 hw H1705 e1706 => ?_) trivial⟩
                  have S1707 := S1701.same e1706
                  have h1708 := (e1706 _ _ (e1689 _ _ h1684))
                  have h1709 := (e1706 _ _ (e1689 _ _ (e1682 _ _ (e1671 _ _ h1666))))
                  refine ⟨⟨_, rfl⟩, _, rfl, _, rfl, _, _, (rp_mk_ints h1708), (rp_mk_ints h1709), rfl, _, rfl, ?_⟩
                  refine iteN (fun c1710 => ?_) (fun c1710 => ?_)
                  · have hw := cW_neg c1710 hw
                    refine iteT ?_
                    have hw := cW_ok hw
                    exact eq_bl (k _) (hK0 _ hw).symm
                  · have hw := cW_pos c1710 hw
                    have h1711 := (e1706 _ _ h1696)
                    have h1712 := (e1706 _ _ h1697)
                    refine ⟨_, rfl, rfl, rfl, H, _, _, _, _, v1687, rfl, S1707.sG, (hide_nil h1711), (hide_nil h1712), cW_call hw (fun v1713 hw p1716 H1714 n1717 e1715 h1718 => ?_) (fun e he => (hE e he).elim)⟩
                    have h1719 : H1714 p1716 = some (.lst ((v1713 : (List Int)).map V.int)) := h1718
                    have fr1720 := S1707.free n1717
                    have S1721 := S1707.new n1717 e1715 h1719 fr1720
                    have h1722 := (e1715 _ _ h1708)
                    refine ⟨_, rfl, rfl, rfl, H, _, _, rfl, S1721.sG, (hide_nil h1722), cW_call hw (fun v1723 hw p1726 H1724 n1727 e1725 h1728 => ?_) (fun e he => (hE e he).elim)⟩
                    have h1729 : H1724 p1726 = some (.lst ((v1723 : (List Int)).map V.int)) := h1728
                    have fr1730 := S1721.free n1727
                    have S1731 := S1721.new n1727 e1725 h1729 fr1730
                    have h1732 := (e1725 _ _ h1719)
                    refine ⟨_, _, (rp_mk_ints h1732), (rp_mk_ints h1729), _, rfl, ?_⟩
                    refine iteN (fun c1733 => ?_) (fun c1733 => ?_)
                    · have hw := cW_neg c1733 hw
                      have hw := cW_ok hw
                      exact eq_bl (k _) (hK0 _ hw).symm
                    · have hw := cW_pos c1733 hw
                      obtain ⟨g1734, hw⟩ := cW_grd hw
                      have h1735 := (e1725 _ _ (e1715 _ _ h1709))
                      obtain ⟨g1736, hw⟩ := cW_grd hw
                      obtain ⟨g1737, hw⟩ := cW_grd hw
                      obtain ⟨g1738, hw⟩ := cW_grd hw
                      refine ⟨_, rfl, _, _, _, _, rfl, rfl, (SqL.of h1735), (atI_map g1734), _, rfl, _, _, _, _, rfl, rfl, (SqL.of h1735), (atI_map g1736), _, rfl, _, _, _, _, rfl, rfl, (SqL.of h1735), (atI_map g1737), _, rfl, _, _, _, _, rfl, rfl, (SqL.of h1735), (atI_map g1738), rfl, rfl, fun x1739 dx1740 n1741 n1742 n1743 => ?_⟩
                      generalize g1744 : upd (upd H1724 dx1740 _) x1739 _ = H1745
                      obtain ⟨e1746, h1747⟩ := gen_obj n1741 n1742 n1743 g1744
                      have fr1748 := S1731.free n1741
                      have S1749 := S1731.new n1741 e1746 h1747 fr1748
                      refine ⟨H, _, _, _, _, _, _, rfl, S1749.sG, (S1749.gno (all_cons (.head _) all_nil)), h1747, cW_call hw (fun v1750 hw H1751 x1752 h1753 => ⟨rfl, ?_⟩) (fun e he => (hE e he).elim)⟩
                      have S1754 : Sep _ _ _ _ H1751 [x1739, p1726, p1716, p1690, p1691, p1678, p1667, p1655, p1644, p1631, p1623, p1611, p1604, p1582, p1583, p1571, p1528, p1529, p1515, p1507, p1497, p1474, p1475, p1465] := Sep.init S1749 x1752 (.head _) h1753 [] all_nil
                      refine ⟨rfl, rfl, fun x1755 dx1756 n1757 n1758 n1759 => ?_⟩
                      generalize g1760 : upd (upd H1751 dx1756 _) x1755 _ = H1761
                      obtain ⟨e1762, h1763⟩ := gen_obj n1757 n1758 n1759 g1760
                      have fr1764 := S1754.free n1757
                      have S1765 := S1754.new n1757 e1762 h1763 fr1764
                      have h1766 := (e1762 _ _ h1753)
                      refine ⟨H, _, _, _, _, v1750, _, _, _, _, _, rfl, S1765.sG, (S1765.gno (all_cons (.head _) all_nil)), h1763, ((hideL_out (ni1 (ne_of_none h1753 n1757))).trans h1766), cW_call hw (fun v1767 hw H1768 x1769 h1770 => ⟨rfl, ?_⟩) (fun e he => (hE e he).elim)⟩
                      have S1771 : Sep _ _ _ _ H1768 [x1755, x1739, p1726, p1716, p1690, p1691, p1678, p1667, p1655, p1644, p1631, p1623, p1611, p1604, p1582, p1583, p1571, p1528, p1529, p1515, p1507, p1497, p1474, p1475, p1465] := Sep.init S1765 x1769 (.head _) h1770 [] all_nil
                      have h1772 := ((SameXs.of x1769) _ _ (e1762 _ _ ((SameXs.of x1752) _ _ (e1746 _ _ h1735) (ni1 (ne_of_none h1735 n1741)))) (ni1 (ne_of_none ((SameXs.of x1752) _ _ (e1746 _ _ h1735) (ni1 (ne_of_none h1735 n1741))) n1757)))
                      refine ⟨_, rfl, _, rfl, _, rfl, _, _, rfl, (SqL.of h1772), fun p1773 n1774 => ?_⟩
                      generalize g1775 : upd H1768 p1773 _ = H1776
                      obtain ⟨e1777, h1778⟩ := gen_new n1774 g1775
                      have h1779 : H1776 p1773 = some (.lst ((cutL (v1462) none (some (4)) : (List Int)).map V.int)) := cut_map h1778
                      have fr1780 := S1771.free n1774
                      have S1781 := S1771.new n1774 e1777 h1779 fr1780
                      refine ⟨(by show 5 ≤ sizeLine; decide), fun p1782 n1783 => ?_⟩
                      generalize g1784 : upd H1776 p1782 _ = H1785
                      obtain ⟨e1786, h1787⟩ := gen_new n1783 g1784
                      have h1788 : H1785 p1782 = some (.lst (([1, 1, 0, 0, 1] : (List Int)).map V.int)) := h1787
                      have fr1789 := S1781.free n1783
                      have S1790 := S1781.new n1783 e1786 h1788 fr1789
                      obtain ⟨g1791, hw⟩ := cW_grd hw
                      have h1792 := (e1786 _ _ h1779)
                      refine ⟨_, _, _, _, rfl, rfl, h1792, h1788, (cat_lenM g1791), fun p1793 n1794 => ?_⟩
                      generalize g1795 : upd H1785 p1793 _ = H1796
                      obtain ⟨e1797, h1798⟩ := gen_new n1794 g1795
                      have h1799 : H1796 p1793 = some (.lst (((cutL (v1462) none (some (4))) ++ ([1, 1, 0, 0, 1]) : (List Int)).map V.int)) := cat_map h1798
                      have fr1800 := S1790.free n1794
                      have S1801 := S1790.new n1794 e1797 h1799 fr1800
                      have h1802 := (e1797 _ _ (e1786 _ _ (e1777 _ _ h1770)))
                      have h1803 := (e1797 _ _ (e1786 _ _ (e1777 _ _ ((SameXs.of x1769) _ _ h1766 (ni1 (ne_of_none h1753 n1757))))))
                      refine ⟨rfl, rfl, H, _, _, _, _, (⟨v1750, v1767.slots, v1767.rows, v1767.deblock, v1767.offset, v1767.layers⟩ : St_Settings), _, _, rfl, S1801.sG, (hide_nil h1802), (hide_nil h1803), (hide_nil h1799), cW_call hw (fun v1804 hw H1805 e1806 => ?_) (fun e he => (hE e he).elim)⟩
                      have S1807 := S1801.same e1806
                      have hw := cW_ok hw
                      exact eq_bl (k _) (hK0 _ hw).symm
end
def spL (K : PySem.W.Frag) : Sp := fun vs H Q _ => ∃ (a_script : Addr) (script : List Int), vs = [.ref a_script] ∧ SqL K H a_script (script.map V.int) ∧ script.length ≤ 63 ∧ ∀ H', Q (.bl true) H'
theorem all_mk {l : PySem.W.OpenLaw} {w : World} {K : PySem.W.Frag} {h : Heap} {mg : Str → Option Value} {fa : Addr} (X : K.In h) (G : h.Ns mainGlobals mg) (hfa : mg "law" = some (.ref fa))
    {f0 f1 f2 f3 f4 f5 f6 f7 f8 f9 f10 f11 f12 f13 f14 f15 f16 f17 f18 f19 f20 f21 f22 f23 f24 f25 f26 f27 f28 f29 f30 f31 f32 f33 CBitWriter CBitReader CFormat CSettings XBadFormat XOutOfRange XOutOfBits XBadOctets XBadHeader : Addr} {od0 an0 od1 an1 od2 an2 od3 an3 od4 an4 od5 an5 od6 an6 od7 an7 od8 an8 od9 an9 od10 an10 od11 an11 od12 an12 od13 an13 od14 an14 od15 an15 od16 an16 od17 an17 od18 an18 od19 an19 od20 an20 od21 an21 od22 an22 od23 an23 od24 an24 od25 an25 od26 an26 od27 an27 od28 an28 od29 an29 od30 an30 od31 an31 od32 an32 od33 an33 : Option Addr} {sl0 sl1 sl2 sl3 sl4 sl5 sl6 sl7 sl8 sl9 sl10 sl11 sl12 sl13 sl14 sl15 sl16 sl17 sl18 sl19 sl20 sl21 sl22 sl23 sl24 sl25 sl26 sl27 sl28 sl29 sl30 sl31 sl32 sl33 : Array (Option Value)} {oc0 kV0 dc0 pm0 cd0 ct0 oc1 kV1 dc1 pm1 cd1 ct1 oc2 kV2 dc2 pm2 cd2 ct2 oc3 dc3 pm3 cd3 ct3 oc4 kV4 dc4 pm4 cd4 ct4 oc5 dc5 pm5 cd5 ct5 oc6 kV6 dc6 pm6 cd6 ct6 oc7 kV7 dc7 pm7 cd7 ct7 oc8 kV8 dc8 pm8 cd8 ct8 oc9 kV9 dc9 pm9 cd9 ct9 oc10 kV10 dc10 pm10 cd10 ct10 oc11 kV11 dc11 pm11 cd11 ct11 oc12 kV12 dc12 pm12 cd12 ct12 oc13 kV13 dc13 pm13 cd13 ct13 oc14 kV14 dc14 pm14 cd14 ct14 oc15 kV15 dc15 pm15 cd15 ct15 oc16 kV16 dc16 pm16 cd16 ct16 oc17 kV17 dc17 pm17 cd17 ct17 oc18 kV18 dc18 pm18 cd18 ct18 oc19 kV19 dc19 pm19 cd19 ct19 oc20 kV20 dc20 pm20 cd20 ct20 oc21 kV21 dc21 pm21 cd21 ct21 oc22 kV22 dc22 pm22 cd22 ct22 oc23 kV23 dc23 pm23 cd23 ct23 oc24 kV24 dc24 pm24 cd24 ct24 oc25 kV25 dc25 pm25 cd25 ct25 oc26 kV26 dc26 pm26 cd26 ct26 oc27 kV27 dc27 pm27 cd27 ct27 oc28 kV28 dc28 pm28 cd28 ct28 oc29 kV29 dc29 pm29 cd29 ct29 oc30 kV30 dc30 pm30 cd30 ct30 oc31 kV31 dc31 pm31 cd31 ct31 oc32 kV32 dc32 pm32 cd32 ct32 oc33 kV33 dc33 pm33 cd33 ct33 : Value} {D3 : Addr} {ktk3_0 : Tok} {ktk3_1 : Tok} {D5 : Addr} {ktk5_0 : Tok} {ktk5_1 : Tok} {ktk5_4 : Tok} {q23 : Addr} {rs23 : List Value} {tk3 tk4 tk7 : Tok}
    (wBitWriter : PySem.W.nsIn K mainGlobals "BitWriter" = some (some (.ref CBitWriter))) (wBitReader : PySem.W.nsIn K mainGlobals "BitReader" = some (some (.ref CBitReader))) (wFormat : PySem.W.nsIn K mainGlobals "Format" = some (some (.ref CFormat))) (wSettings : PySem.W.nsIn K mainGlobals "Settings" = some (some (.ref CSettings))) (vBadFormat : PySem.W.nsIn K mainGlobals "BadFormat" = some (some (.ref XBadFormat))) (vOutOfRange : PySem.W.nsIn K mainGlobals "OutOfRange" = some (some (.ref XOutOfRange))) (vOutOfBits : PySem.W.nsIn K mainGlobals "OutOfBits" = some (some (.ref XOutOfBits))) (vBadOctets : PySem.W.nsIn K mainGlobals "BadOctets" = some (some (.ref XBadOctets))) (vBadHeader : PySem.W.nsIn K mainGlobals "BadHeader" = some (some (.ref XBadHeader))) (a0 : PySem.W.nsIn K mainGlobals "_law_draws" = some (some (.ref f0))) (l0 : K.lookup f0 = some ⟨oc0, od0, .func (PySem.W.fnOf "_law_draws" "_law_draws" (defArgs s__law_draws) (defBody s__law_draws) (defScope s__law_draws) .none kV0 dc0 pm0 an0 cd0 ct0), sl0⟩) (c0 : PySem.W.codeIn K cd0 "_law_draws" = true) (k0 : PySem.W.keepIn K (.ref f0) = true) (a1 : PySem.W.nsIn K mainGlobals "_law_between" = some (some (.ref f1))) (l1 : K.lookup f1 = some ⟨oc1, od1, .func (PySem.W.fnOf "_law_between" "_law_between" (defArgs s__law_between) (defBody s__law_between) (defScope s__law_between) .none kV1 dc1 pm1 an1 cd1 ct1), sl1⟩) (c1 : PySem.W.codeIn K cd1 "_law_between" = true) (k1 : PySem.W.keepIn K (.ref f1) = true) (a2 : PySem.W.nsIn K mainGlobals "_law_numbers" = some (some (.ref f2))) (l2 : K.lookup f2 = some ⟨oc2, od2, .func (PySem.W.fnOf "_law_numbers" "_law_numbers" (defArgs s__law_numbers) (defBody s__law_numbers) (defScope s__law_numbers) .none kV2 dc2 pm2 an2 cd2 ct2), sl2⟩) (c2 : PySem.W.codeIn K cd2 "_law_numbers" = true) (k2 : PySem.W.keepIn K (.ref f2) = true) (a3 : PySem.W.findIn K (.ref CFormat) "__init__" = some (some (.ref f3))) (b3 : PySem.W.isFn K (.ref f3) = true) (d3 : PySem.W.makesIn K CFormat = true) (e3 : PySem.W.keepIn K (.ref CFormat) = true) (l3 : K.lookup f3 = some ⟨oc3, od3, .func (PySem.W.fnOf "__init__" "Format.__init__" (defArgs s_Format___init__) (defBody s_Format___init__) (defScope s_Format___init__) .none (.ref D3) dc3 pm3 an3 cd3 ct3), sl3⟩) (c3 : PySem.W.codeIn K cd3 "Format.__init__" = true) (k3 : PySem.W.keepIn K (.ref f3) = true) (kd3_0 : PySem.W.nsIn K D3 "depth" = some (some (.int 8 ktk3_0))) (kd3_1 : PySem.W.nsIn K D3 "chroma" = some (some (.int 0 ktk3_1))) (a4 : PySem.W.nsIn K mainGlobals "_require" = some (some (.ref f4))) (l4 : K.lookup f4 = some ⟨oc4, od4, .func (PySem.W.fnOf "_require" "_require" (defArgs s__require) (defBody s__require) (defScope s__require) .none kV4 dc4 pm4 an4 cd4 ct4), sl4⟩) (c4 : PySem.W.codeIn K cd4 "_require" = true) (k4 : PySem.W.keepIn K (.ref f4) = true) (a5 : PySem.W.findIn K (.ref CSettings) "__init__" = some (some (.ref f5))) (b5 : PySem.W.isFn K (.ref f5) = true) (d5 : PySem.W.makesIn K CSettings = true) (e5 : PySem.W.keepIn K (.ref CSettings) = true) (l5 : K.lookup f5 = some ⟨oc5, od5, .func (PySem.W.fnOf "__init__" "Settings.__init__" (defArgs s_Settings___init__) (defBody s_Settings___init__) (defScope s_Settings___init__) .none (.ref D5) dc5 pm5 an5 cd5 ct5), sl5⟩) (c5 : PySem.W.codeIn K cd5 "Settings.__init__" = true) (k5 : PySem.W.keepIn K (.ref f5) = true) (kd5_0 : PySem.W.nsIn K D5 "slots" = some (some (.int 1 ktk5_0))) (kd5_1 : PySem.W.nsIn K D5 "rows" = some (some (.int 1 ktk5_1))) (kd5_2 : PySem.W.nsIn K D5 "deblock" = some (some (.bool false))) (kd5_3 : PySem.W.nsIn K D5 "offset" = some (some (.bool false))) (kd5_4 : PySem.W.nsIn K D5 "layers" = some (some (.int 1 ktk5_4))) (a6 : PySem.W.nsIn K mainGlobals "_law_settings" = some (some (.ref f6))) (l6 : K.lookup f6 = some ⟨oc6, od6, .func (PySem.W.fnOf "_law_settings" "_law_settings" (defArgs s__law_settings) (defBody s__law_settings) (defScope s__law_settings) .none kV6 dc6 pm6 an6 cd6 ct6), sl6⟩) (c6 : PySem.W.codeIn K cd6 "_law_settings" = true) (k6 : PySem.W.keepIn K (.ref f6) = true) (a7 : PySem.W.findIn K (.ref CBitWriter) "__init__" = some (some (.ref f7))) (b7 : PySem.W.isFn K (.ref f7) = true) (d7 : PySem.W.makesIn K CBitWriter = true) (e7 : PySem.W.keepIn K (.ref CBitWriter) = true) (l7 : K.lookup f7 = some ⟨oc7, od7, .func (PySem.W.fnOf "__init__" "BitWriter.__init__" (defArgs s_BitWriter___init__) (defBody s_BitWriter___init__) (defScope s_BitWriter___init__) .none kV7 dc7 pm7 an7 cd7 ct7), sl7⟩) (c7 : PySem.W.codeIn K cd7 "BitWriter.__init__" = true) (k7 : PySem.W.keepIn K (.ref f7) = true) (a8 : PySem.W.findIn K (.ref CBitWriter) "_add" = some (some (.ref f8))) (b8 : PySem.W.isFn K (.ref f8) = true) (l8 : K.lookup f8 = some ⟨oc8, od8, .func (PySem.W.fnOf "_add" "BitWriter._add" (defArgs s_BitWriter__add) (defBody s_BitWriter__add) (defScope s_BitWriter__add) .none kV8 dc8 pm8 an8 cd8 ct8), sl8⟩) (c8 : PySem.W.codeIn K cd8 "BitWriter._add" = true) (k8 : PySem.W.keepIn K (.ref f8) = true) (a9 : PySem.W.findIn K (.ref CBitWriter) "put" = some (some (.ref f9))) (b9 : PySem.W.isFn K (.ref f9) = true) (l9 : K.lookup f9 = some ⟨oc9, od9, .func (PySem.W.fnOf "put" "BitWriter.put" (defArgs s_BitWriter_put) (defBody s_BitWriter_put) (defScope s_BitWriter_put) .none kV9 dc9 pm9 an9 cd9 ct9), sl9⟩) (c9 : PySem.W.codeIn K cd9 "BitWriter.put" = true) (k9 : PySem.W.keepIn K (.ref f9) = true) (a10 : PySem.W.nsIn K mainGlobals "_put_switch" = some (some (.ref f10))) (l10 : K.lookup f10 = some ⟨oc10, od10, .func (PySem.W.fnOf "_put_switch" "_put_switch" (defArgs s__put_switch) (defBody s__put_switch) (defScope s__put_switch) .none kV10 dc10 pm10 an10 cd10 ct10), sl10⟩) (c10 : PySem.W.codeIn K cd10 "_put_switch" = true) (k10 : PySem.W.keepIn K (.ref f10) = true) (a11 : PySem.W.findIn K (.ref CBitWriter) "put_ue" = some (some (.ref f11))) (b11 : PySem.W.isFn K (.ref f11) = true) (l11 : K.lookup f11 = some ⟨oc11, od11, .func (PySem.W.fnOf "put_ue" "BitWriter.put_ue" (defArgs s_BitWriter_put_ue) (defBody s_BitWriter_put_ue) (defScope s_BitWriter_put_ue) .none kV11 dc11 pm11 an11 cd11 ct11), sl11⟩) (c11 : PySem.W.codeIn K cd11 "BitWriter.put_ue" = true) (k11 : PySem.W.keepIn K (.ref f11) = true) (a12 : PySem.W.findIn K (.ref CBitWriter) "octets" = some (some (.ref f12))) (b12 : PySem.W.isFn K (.ref f12) = true) (l12 : K.lookup f12 = some ⟨oc12, od12, .func (PySem.W.fnOf "octets" "BitWriter.octets" (defArgs s_BitWriter_octets) (defBody s_BitWriter_octets) (defScope s_BitWriter_octets) .none kV12 dc12 pm12 an12 cd12 ct12), sl12⟩) (c12 : PySem.W.codeIn K cd12 "BitWriter.octets" = true) (k12 : PySem.W.keepIn K (.ref f12) = true) (a13 : PySem.W.nsIn K mainGlobals "write_settings" = some (some (.ref f13))) (l13 : K.lookup f13 = some ⟨oc13, od13, .func (PySem.W.fnOf "write_settings" "write_settings" (defArgs s_write_settings) (defBody s_write_settings) (defScope s_write_settings) .none kV13 dc13 pm13 an13 cd13 ct13), sl13⟩) (c13 : PySem.W.codeIn K cd13 "write_settings" = true) (k13 : PySem.W.keepIn K (.ref f13) = true) (a14 : PySem.W.nsIn K mainGlobals "_last_bit" = some (some (.ref f14))) (l14 : K.lookup f14 = some ⟨oc14, od14, .func (PySem.W.fnOf "_last_bit" "_last_bit" (defArgs s__last_bit) (defBody s__last_bit) (defScope s__last_bit) .none kV14 dc14 pm14 an14 cd14 ct14), sl14⟩) (c14 : PySem.W.codeIn K cd14 "_last_bit" = true) (k14 : PySem.W.keepIn K (.ref f14) = true) (a15 : PySem.W.findIn K (.ref CBitReader) "__init__" = some (some (.ref f15))) (b15 : PySem.W.isFn K (.ref f15) = true) (d15 : PySem.W.makesIn K CBitReader = true) (e15 : PySem.W.keepIn K (.ref CBitReader) = true) (l15 : K.lookup f15 = some ⟨oc15, od15, .func (PySem.W.fnOf "__init__" "BitReader.__init__" (defArgs s_BitReader___init__) (defBody s_BitReader___init__) (defScope s_BitReader___init__) .none kV15 dc15 pm15 an15 cd15 ct15), sl15⟩) (c15 : PySem.W.codeIn K cd15 "BitReader.__init__" = true) (k15 : PySem.W.keepIn K (.ref f15) = true) (a16 : PySem.W.findIn K (.ref CBitReader) "_look" = some (some (.ref f16))) (b16 : PySem.W.isFn K (.ref f16) = true) (l16 : K.lookup f16 = some ⟨oc16, od16, .func (PySem.W.fnOf "_look" "BitReader._look" (defArgs s_BitReader__look) (defBody s_BitReader__look) (defScope s_BitReader__look) .none kV16 dc16 pm16 an16 cd16 ct16), sl16⟩) (c16 : PySem.W.codeIn K cd16 "BitReader._look" = true) (k16 : PySem.W.keepIn K (.ref f16) = true) (a17 : PySem.W.findIn K (.ref CBitReader) "_take" = some (some (.ref f17))) (b17 : PySem.W.isFn K (.ref f17) = true) (l17 : K.lookup f17 = some ⟨oc17, od17, .func (PySem.W.fnOf "_take" "BitReader._take" (defArgs s_BitReader__take) (defBody s_BitReader__take) (defScope s_BitReader__take) .none kV17 dc17 pm17 an17 cd17 ct17), sl17⟩) (c17 : PySem.W.codeIn K cd17 "BitReader._take" = true) (k17 : PySem.W.keepIn K (.ref f17) = true) (a18 : PySem.W.findIn K (.ref CBitReader) "get" = some (some (.ref f18))) (b18 : PySem.W.isFn K (.ref f18) = true) (l18 : K.lookup f18 = some ⟨oc18, od18, .func (PySem.W.fnOf "get" "BitReader.get" (defArgs s_BitReader_get) (defBody s_BitReader_get) (defScope s_BitReader_get) .none kV18 dc18 pm18 an18 cd18 ct18), sl18⟩) (c18 : PySem.W.codeIn K cd18 "BitReader.get" = true) (k18 : PySem.W.keepIn K (.ref f18) = true) (a19 : PySem.W.nsIn K mainGlobals "_get_switch" = some (some (.ref f19))) (l19 : K.lookup f19 = some ⟨oc19, od19, .func (PySem.W.fnOf "_get_switch" "_get_switch" (defArgs s__get_switch) (defBody s__get_switch) (defScope s__get_switch) .none kV19 dc19 pm19 an19 cd19 ct19), sl19⟩) (c19 : PySem.W.codeIn K cd19 "_get_switch" = true) (k19 : PySem.W.keepIn K (.ref f19) = true) (a20 : PySem.W.findIn K (.ref CBitReader) "_zeros" = some (some (.ref f20))) (b20 : PySem.W.isFn K (.ref f20) = true) (l20 : K.lookup f20 = some ⟨oc20, od20, .func (PySem.W.fnOf "_zeros" "BitReader._zeros" (defArgs s_BitReader__zeros) (defBody s_BitReader__zeros) (defScope s_BitReader__zeros) .none kV20 dc20 pm20 an20 cd20 ct20), sl20⟩) (c20 : PySem.W.codeIn K cd20 "BitReader._zeros" = true) (k20 : PySem.W.keepIn K (.ref f20) = true) (a21 : PySem.W.findIn K (.ref CBitReader) "get_ue" = some (some (.ref f21))) (b21 : PySem.W.isFn K (.ref f21) = true) (l21 : K.lookup f21 = some ⟨oc21, od21, .func (PySem.W.fnOf "get_ue" "BitReader.get_ue" (defArgs s_BitReader_get_ue) (defBody s_BitReader_get_ue) (defScope s_BitReader_get_ue) .none kV21 dc21 pm21 an21 cd21 ct21), sl21⟩) (c21 : PySem.W.codeIn K cd21 "BitReader.get_ue" = true) (k21 : PySem.W.keepIn K (.ref f21) = true) (a22 : PySem.W.nsIn K mainGlobals "_get_settings" = some (some (.ref f22))) (l22 : K.lookup f22 = some ⟨oc22, od22, .func (PySem.W.fnOf "_get_settings" "_get_settings" (defArgs s__get_settings) (defBody s__get_settings) (defScope s__get_settings) .none kV22 dc22 pm22 an22 cd22 ct22), sl22⟩) (c22 : PySem.W.codeIn K cd22 "_get_settings" = true) (k22 : PySem.W.keepIn K (.ref f22) = true) (a23 : PySem.W.findIn K (.ref CBitReader) "left" = some (some (.ref q23))) (b23 : PySem.W.specialIn K (.ref q23) "__get__" = some (some (.builtin "property.__get__"))) (d23 : PySem.W.takesIn K (.ref q23) = some true) (e23 : PySem.W.recIn K q23 "property" = some (.ref f23 :: rs23)) (l23 : K.lookup f23 = some ⟨oc23, od23, .func (PySem.W.fnOf "left" "BitReader.left" (defArgs s_BitReader_left) (defBody s_BitReader_left) (defScope s_BitReader_left) .none kV23 dc23 pm23 an23 cd23 ct23), sl23⟩) (c23 : PySem.W.codeIn K cd23 "BitReader.left" = true) (k23 : PySem.W.keepIn K (.ref f23) = true) (a24 : PySem.W.nsIn K mainGlobals "read_settings" = some (some (.ref f24))) (l24 : K.lookup f24 = some ⟨oc24, od24, .func (PySem.W.fnOf "read_settings" "read_settings" (defArgs s_read_settings) (defBody s_read_settings) (defScope s_read_settings) .none kV24 dc24 pm24 an24 cd24 ct24), sl24⟩) (c24 : PySem.W.codeIn K cd24 "read_settings" = true) (k24 : PySem.W.keepIn K (.ref f24) = true) (a25 : PySem.W.nsIn K mainGlobals "_law_same" = some (some (.ref f25))) (l25 : K.lookup f25 = some ⟨oc25, od25, .func (PySem.W.fnOf "_law_same" "_law_same" (defArgs s__law_same) (defBody s__law_same) (defScope s__law_same) .none kV25 dc25 pm25 an25 cd25 ct25), sl25⟩) (c25 : PySem.W.codeIn K cd25 "_law_same" = true) (k25 : PySem.W.keepIn K (.ref f25) = true) (a26 : PySem.W.nsIn K mainGlobals "_law_cell" = some (some (.ref f26))) (l26 : K.lookup f26 = some ⟨oc26, od26, .func (PySem.W.fnOf "_law_cell" "_law_cell" (defArgs s__law_cell) (defBody s__law_cell) (defScope s__law_cell) .none kV26 dc26 pm26 an26 cd26 ct26), sl26⟩) (c26 : PySem.W.codeIn K cd26 "_law_cell" = true) (k26 : PySem.W.keepIn K (.ref f26) = true) (a27 : PySem.W.nsIn K mainGlobals "_law_packed" = some (some (.ref f27))) (l27 : K.lookup f27 = some ⟨oc27, od27, .func (PySem.W.fnOf "_law_packed" "_law_packed" (defArgs s__law_packed) (defBody s__law_packed) (defScope s__law_packed) .none kV27 dc27 pm27 an27 cd27 ct27), sl27⟩) (c27 : PySem.W.codeIn K cd27 "_law_packed" = true) (k27 : PySem.W.keepIn K (.ref f27) = true) (a28 : PySem.W.nsIn K mainGlobals "_law_bits" = some (some (.ref f28))) (l28 : K.lookup f28 = some ⟨oc28, od28, .func (PySem.W.fnOf "_law_bits" "_law_bits" (defArgs s__law_bits) (defBody s__law_bits) (defScope s__law_bits) .none kV28 dc28 pm28 an28 cd28 ct28), sl28⟩) (c28 : PySem.W.codeIn K cd28 "_law_bits" = true) (k28 : PySem.W.keepIn K (.ref f28) = true) (a29 : PySem.W.nsIn K mainGlobals "_law_ue" = some (some (.ref f29))) (l29 : K.lookup f29 = some ⟨oc29, od29, .func (PySem.W.fnOf "_law_ue" "_law_ue" (defArgs s__law_ue) (defBody s__law_ue) (defScope s__law_ue) .none kV29 dc29 pm29 an29 cd29 ct29), sl29⟩) (c29 : PySem.W.codeIn K cd29 "_law_ue" = true) (k29 : PySem.W.keepIn K (.ref f29) = true) (a30 : PySem.W.nsIn K mainGlobals "_law_settings_payload" = some (some (.ref f30))) (l30 : K.lookup f30 = some ⟨oc30, od30, .func (PySem.W.fnOf "_law_settings_payload" "_law_settings_payload" (defArgs s__law_settings_payload) (defBody s__law_settings_payload) (defScope s__law_settings_payload) .none kV30 dc30 pm30 an30 cd30 ct30), sl30⟩) (c30 : PySem.W.codeIn K cd30 "_law_settings_payload" = true) (k30 : PySem.W.keepIn K (.ref f30) = true) (a31 : PySem.W.findIn K (.ref CFormat) "__eq__" = some (some (.ref f31))) (b31 : PySem.W.isFn K (.ref f31) = true) (l31 : K.lookup f31 = some ⟨oc31, od31, .func (PySem.W.fnOf "__eq__" "Format.__eq__" (defArgs s_Format___eq__) (defBody s_Format___eq__) (defScope s_Format___eq__) .none kV31 dc31 pm31 an31 cd31 ct31), sl31⟩) (c31 : PySem.W.codeIn K cd31 "Format.__eq__" = true) (k31 : PySem.W.keepIn K (.ref f31) = true) (a32 : PySem.W.findIn K (.ref CSettings) "__eq__" = some (some (.ref f32))) (b32 : PySem.W.isFn K (.ref f32) = true) (l32 : K.lookup f32 = some ⟨oc32, od32, .func (PySem.W.fnOf "__eq__" "Settings.__eq__" (defArgs s_Settings___eq__) (defBody s_Settings___eq__) (defScope s_Settings___eq__) .none kV32 dc32 pm32 an32 cd32 ct32), sl32⟩) (c32 : PySem.W.codeIn K cd32 "Settings.__eq__" = true) (k32 : PySem.W.keepIn K (.ref f32) = true) (a33 : PySem.W.nsIn K mainGlobals "law" = some (some (.ref f33))) (l33 : K.lookup f33 = some ⟨oc33, od33, .func (PySem.W.fnOf "law" "law" (defArgs s_law) (defBody s_law) (defScope s_law) .none kV33 dc33 pm33 an33 cd33 ct33), sl33⟩) (c33 : PySem.W.codeIn K cd33 "law" = true) (k33 : PySem.W.keepIn K (.ref f33) = true)
    (z0 : PySem.W.nsIn K mainGlobals "abs" = some none) (z1 : PySem.W.nsIn K mainGlobals "int" = some none) (z2 : PySem.W.nsIn K mainGlobals "min" = some none) (z3 : PySem.W.nsIn K mainGlobals "MOST_BITS" = some (some (.int 64 tk3))) (z4 : PySem.W.nsIn K mainGlobals "VERSION" = some (some (.int 1 tk4))) (z5 : PySem.W.nsIn K mainGlobals "list" = some none) (z6 : PySem.W.nsIn K mainGlobals "len" = some none) (z7 : PySem.W.nsIn K mainGlobals "MOST_ZEROS" = some (some (.int 32 tk7))) (z8 : PySem.W.nsIn K mainGlobals "isinstance" = some none) (z9 : PySem.W.nsIn K mainGlobals "bool" = some none) (z10 : PySem.W.nsIn K mainGlobals "range" = some none) (z11 : PySem.W.nsIn K mainGlobals "sum" = some none) (yFormat0 : PySem.W.plainGet K CFormat Str.empty = true) (yFormat1 : PySem.W.hasDictIn K CFormat = true) (yFormat2 : PySem.W.plainOver K CFormat = true) (yFormat3 : PySem.W.findIn K (.ref CFormat) "__setattr__" = some (some (.builtin "object.__setattr__"))) (iFormat0 : PySem.W.findIn K (.ref CFormat) "__class__" = some (some (.builtin "object.__class__"))) (iFormat1 : PySem.W.specialIn K (.builtin "object.__class__") "__get__" = some (some (.builtin "getset_descriptor.__get__"))) (iFormat2 : PySem.W.takesIn K (.builtin "object.__class__") = some true) (iFormat3 : PySem.W.mroIn K CFormat (.type "object") = some true) (xFormat0 : PySem.W.findIn K (.ref CFormat) "width" = some none) (xFormat1 : PySem.W.findIn K (.ref CFormat) "height" = some none) (xFormat2 : PySem.W.findIn K (.ref CFormat) "depth" = some none) (xFormat3 : PySem.W.findIn K (.ref CFormat) "chroma" = some none) (ySettings0 : PySem.W.plainGet K CSettings Str.empty = true) (ySettings1 : PySem.W.hasDictIn K CSettings = true) (ySettings2 : PySem.W.plainOver K CSettings = true) (ySettings3 : PySem.W.findIn K (.ref CSettings) "__setattr__" = some (some (.builtin "object.__setattr__"))) (iSettings0 : PySem.W.findIn K (.ref CSettings) "__class__" = some (some (.builtin "object.__class__"))) (iSettings1 : PySem.W.specialIn K (.builtin "object.__class__") "__get__" = some (some (.builtin "getset_descriptor.__get__"))) (iSettings2 : PySem.W.takesIn K (.builtin "object.__class__") = some true) (iSettings3 : PySem.W.mroIn K CSettings (.type "object") = some true) (xSettings0 : PySem.W.findIn K (.ref CSettings) "fmt" = some none) (xSettings1 : PySem.W.findIn K (.ref CSettings) "slots" = some none) (xSettings2 : PySem.W.findIn K (.ref CSettings) "rows" = some none) (xSettings3 : PySem.W.findIn K (.ref CSettings) "deblock" = some none) (xSettings4 : PySem.W.findIn K (.ref CSettings) "offset" = some none) (xSettings5 : PySem.W.findIn K (.ref CSettings) "layers" = some none) (yBitWriter0 : PySem.W.plainGet K CBitWriter Str.empty = true) (yBitWriter1 : PySem.W.hasDictIn K CBitWriter = true) (yBitWriter2 : PySem.W.plainOver K CBitWriter = true) (yBitWriter3 : PySem.W.findIn K (.ref CBitWriter) "__setattr__" = some (some (.builtin "object.__setattr__"))) (xBitWriter0 : PySem.W.findIn K (.ref CBitWriter) "_full" = some none) (xBitWriter1 : PySem.W.findIn K (.ref CBitWriter) "_rest" = some none) (xBitWriter2 : PySem.W.findIn K (.ref CBitWriter) "_rest_bits" = some none) (yBitReader0 : PySem.W.plainGet K CBitReader Str.empty = true) (yBitReader1 : PySem.W.hasDictIn K CBitReader = true) (yBitReader2 : PySem.W.plainOver K CBitReader = true) (yBitReader3 : PySem.W.findIn K (.ref CBitReader) "__setattr__" = some (some (.builtin "object.__setattr__"))) (xBitReader0 : PySem.W.findIn K (.ref CBitReader) "_octets" = some none) (xBitReader1 : PySem.W.findIn K (.ref CBitReader) "_place" = some none) (xBitReader2 : PySem.W.findIn K (.ref CBitReader) "_end" = some none) (exBadFormat : PySem.W.excIn K XBadFormat [.type "ValueError", .type "Exception", .type "BaseException", .type "object"] "ValueError.__new__" = true) (ekBadFormat : PySem.W.keepIn K (.ref XBadFormat) = true) (ebBadFormat : PySem.W.subIn K (.ref XBadFormat) (.type "BaseException") = some true) (etBadFormat : PySem.W.typeIn K (.ref XBadFormat) = some (.type "type")) (exBadHeader : PySem.W.excIn K XBadHeader [.type "ValueError", .type "Exception", .type "BaseException", .type "object"] "ValueError.__new__" = true) (ekBadHeader : PySem.W.keepIn K (.ref XBadHeader) = true) (ebBadHeader : PySem.W.subIn K (.ref XBadHeader) (.type "BaseException") = some true) (etBadHeader : PySem.W.typeIn K (.ref XBadHeader) = some (.type "type")) (exOutOfRange : PySem.W.excIn K XOutOfRange [.type "ValueError", .type "Exception", .type "BaseException", .type "object"] "ValueError.__new__" = true) (ekOutOfRange : PySem.W.keepIn K (.ref XOutOfRange) = true) (ebOutOfRange : PySem.W.subIn K (.ref XOutOfRange) (.type "BaseException") = some true) (etOutOfRange : PySem.W.typeIn K (.ref XOutOfRange) = some (.type "type")) (exBadOctets : PySem.W.excIn K XBadOctets [.type "ValueError", .type "Exception", .type "BaseException", .type "object"] "ValueError.__new__" = true) (ekBadOctets : PySem.W.keepIn K (.ref XBadOctets) = true) (ebBadOctets : PySem.W.subIn K (.ref XBadOctets) (.type "BaseException") = some true) (etBadOctets : PySem.W.typeIn K (.ref XBadOctets) = some (.type "type")) (exOutOfBits : PySem.W.excIn K XOutOfBits [.type "ValueError", .type "Exception", .type "BaseException", .type "object"] "ValueError.__new__" = true) (ekOutOfBits : PySem.W.keepIn K (.ref XOutOfBits) = true) (ebOutOfBits : PySem.W.subIn K (.ref XOutOfBits) (.type "BaseException") = some true) (etOutOfBits : PySem.W.typeIn K (.ref XOutOfBits) = some (.type "type")) :
    ∃ fd : FuncData, (∀ (s : Shared) (v : Value), BindsTo s fd ⟨[v], []⟩ [("script", v)]) ∧ ∀ base : Heap, K.In base → base.Ns mainGlobals mg → FnG l.prog w K mg base CX0 7 fa fd ["script"] (spL K) := by
  have e := hfa.symm.trans (PySem.W.mg_of X G a33)
  cases e
  have T : Txt w K mg ⟨CBitWriter, CBitReader, CFormat, CSettings, fa, XBadFormat, XOutOfRange, XOutOfBits, XBadOctets, XBadHeader, fa⟩ := ⟨PySem.W.mg_none_of X G z0, PySem.W.mg_none_of X G z1, PySem.W.mg_none_of X G z2, ⟨_, PySem.W.mg_of X G z3, ⟨_, rfl⟩⟩, ⟨_, PySem.W.mg_of X G z4, ⟨_, rfl⟩⟩, PySem.W.mg_none_of X G z5, PySem.W.mg_none_of X G z6, ⟨_, PySem.W.mg_of X G z7, ⟨_, rfl⟩⟩, PySem.W.mg_none_of X G z8, PySem.W.mg_none_of X G z9, PySem.W.mg_none_of X G z10, PySem.W.mg_none_of X G z11, ⟨yFormat0, yFormat1, yFormat2, yFormat3⟩, PySem.W.mg_of X G wFormat, ⟨iFormat0, iFormat1, iFormat2, iFormat3⟩, xFormat0, xFormat1, xFormat2, xFormat3, ⟨ySettings0, ySettings1, ySettings2, ySettings3⟩, PySem.W.mg_of X G wSettings, ⟨iSettings0, iSettings1, iSettings2, iSettings3⟩, xSettings0, xSettings1, xSettings2, xSettings3, xSettings4, xSettings5, ⟨yBitWriter0, yBitWriter1, yBitWriter2, yBitWriter3⟩, xBitWriter0, xBitWriter1, xBitWriter2, ⟨yBitReader0, yBitReader1, yBitReader2, yBitReader3⟩, xBitReader0, xBitReader1, xBitReader2, PySem.W.mg_of X G vBadFormat, exBadFormat, ekBadFormat, ebBadFormat, etBadFormat, PySem.W.mg_of X G vBadHeader, exBadHeader, ekBadHeader, ebBadHeader, etBadHeader, PySem.W.mg_of X G vOutOfRange, exOutOfRange, ekOutOfRange, ebOutOfRange, etOutOfRange, PySem.W.mg_of X G vBadOctets, exBadOctets, ekBadOctets, ebBadOctets, etBadOctets, PySem.W.mg_of X G vOutOfBits, exOutOfBits, ekOutOfBits, ebOutOfBits, etOutOfBits⟩
  have F0 : FunD K "_law_draws" "_law_draws" (defArgs s__law_draws) (defBody s__law_draws) (defScope s__law_draws) [] [] f0 _ := ⟨⟨_, _, _, _, _, _, _, _, _, _, rfl, l0, c0, .inl ⟨rfl, rfl⟩, .inl rfl⟩, k0⟩
  have D_0 : DefX K mg "_law_draws" s__law_draws ["cell", "limits"] pats__law_draws := ⟨_, _, _, _, F0, PySem.W.mg_of X G a0, (all_consQ (Bnd.all fun us ws vs zs l1 l2 r rz => by
      obtain ⟨u0, u1, rfl⟩ := len2 (r.length.symm.trans l1)
      obtain rfl := len0 (rz.length.symm.trans l2)
      cases r with | cons r0 r =>
        cases r with | cons r1 r =>
          cases r
          cases rz
          exact ⟨[u0, u1], rfl, (.cons r0 (.cons r1 .nil))⟩) all_nilQ)⟩
  have F1 : FunD K "_law_between" "_law_between" (defArgs s__law_between) (defBody s__law_between) (defScope s__law_between) [] [] f1 _ := ⟨⟨_, _, _, _, _, _, _, _, _, _, rfl, l1, c1, .inl ⟨rfl, rfl⟩, .inl rfl⟩, k1⟩
  have D_1 : DefX K mg "_law_between" s__law_between ["first", "second", "low", "high"] pats__law_between := ⟨_, _, _, _, F1, PySem.W.mg_of X G a1, (all_consQ (Bnd.all fun us ws vs zs l1 l2 r rz => by
      obtain ⟨u0, u1, u2, u3, rfl⟩ := len4 (r.length.symm.trans l1)
      obtain rfl := len0 (rz.length.symm.trans l2)
      cases r with | cons r0 r =>
        cases r with | cons r1 r =>
          cases r with | cons r2 r =>
            cases r with | cons r3 r =>
              cases r
              cases rz
              exact ⟨[u0, u1, u2, u3], rfl, (.cons r0 (.cons r1 (.cons r2 (.cons r3 .nil))))⟩) all_nilQ)⟩
  have F2 : FunD K "_law_numbers" "_law_numbers" (defArgs s__law_numbers) (defBody s__law_numbers) (defScope s__law_numbers) [] [] f2 _ := ⟨⟨_, _, _, _, _, _, _, _, _, _, rfl, l2, c2, .inl ⟨rfl, rfl⟩, .inl rfl⟩, k2⟩
  have D_2 : DefX K mg "_law_numbers" s__law_numbers ["cell"] pats__law_numbers := ⟨_, _, _, _, F2, PySem.W.mg_of X G a2, (all_consQ (Bnd.all fun us ws vs zs l1 l2 r rz => by
      obtain ⟨u0, rfl⟩ := len1 (r.length.symm.trans l1)
      obtain rfl := len0 (rz.length.symm.trans l2)
      cases r with | cons r0 r =>
        cases r
        cases rz
        exact ⟨[u0], rfl, (.cons r0 .nil)⟩) all_nilQ)⟩
  have F3 : FunD K "__init__" "Format.__init__" (defArgs s_Format___init__) (defBody s_Format___init__) (defScope s_Format___init__) [] [("depth", V.int 8), ("chroma", V.int 0)] f3 _ := ⟨⟨_, _, _, _, _, _, _, _, _, _, rfl, l3, c3, .inl ⟨rfl, rfl⟩, (.inr ⟨_, rfl, (all_consQ ⟨_, kd3_0, ⟨_, rfl⟩⟩ (all_consQ ⟨_, kd3_1, ⟨_, rfl⟩⟩ all_nilQ))⟩)⟩, k3⟩
  have D_3 : InitX K mg CFormat "Format" "Format.__init__" s_Format___init__ ["self", "width", "height", "depth", "chroma"] pats_Format___init__ := ⟨_, _, _, _, F3, ⟨d3, a3, b3, e3⟩, PySem.W.mg_of X G wFormat, (all_consQ (Bnd.all fun us ws vs zs l1 l2 r rz => by
      obtain ⟨u0, u1, u2, rfl⟩ := len3 (r.length.symm.trans l1)
      obtain ⟨w0, w1, rfl⟩ := len2 (rz.length.symm.trans l2)
      cases r with | cons r0 r =>
        cases r with | cons r1 r =>
          cases r with | cons r2 r =>
            cases r
            cases rz with | cons q0 rz =>
              cases rz with | cons q1 rz =>
                cases rz
                exact ⟨[u0, u1, u2, w0, w1], rfl, (.cons r0 (.cons r1 (.cons r2 (.cons q0 (.cons q1 .nil)))))⟩) all_nilQ)⟩
  have F4 : FunD K "_require" "_require" (defArgs s__require) (defBody s__require) (defScope s__require) [] [] f4 _ := ⟨⟨_, _, _, _, _, _, _, _, _, _, rfl, l4, c4, .inl ⟨rfl, rfl⟩, .inl rfl⟩, k4⟩
  have D_4 : DefX K mg "_require" s__require ["holds", "text"] pats__require := ⟨_, _, _, _, F4, PySem.W.mg_of X G a4, (all_consQ (Bnd.all fun us ws vs zs l1 l2 r rz => by
      obtain ⟨u0, u1, rfl⟩ := len2 (r.length.symm.trans l1)
      obtain rfl := len0 (rz.length.symm.trans l2)
      cases r with | cons r0 r =>
        cases r with | cons r1 r =>
          cases r
          cases rz
          exact ⟨[u0, u1], rfl, (.cons r0 (.cons r1 .nil))⟩) all_nilQ)⟩
  have F5 : FunD K "__init__" "Settings.__init__" (defArgs s_Settings___init__) (defBody s_Settings___init__) (defScope s_Settings___init__) [] [("slots", V.int 1), ("rows", V.int 1), ("deblock", V.bl false), ("offset", V.bl false), ("layers", V.int 1)] f5 _ := ⟨⟨_, _, _, _, _, _, _, _, _, _, rfl, l5, c5, .inl ⟨rfl, rfl⟩, (.inr ⟨_, rfl, (all_consQ ⟨_, kd5_0, ⟨_, rfl⟩⟩ (all_consQ ⟨_, kd5_1, ⟨_, rfl⟩⟩ (all_consQ ⟨_, kd5_2, rfl⟩ (all_consQ ⟨_, kd5_3, rfl⟩ (all_consQ ⟨_, kd5_4, ⟨_, rfl⟩⟩ all_nilQ)))))⟩)⟩, k5⟩
  have D_5 : InitX K mg CSettings "Settings" "Settings.__init__" s_Settings___init__ ["self", "fmt", "slots", "rows", "deblock", "offset", "layers"] pats_Settings___init__ := ⟨_, _, _, _, F5, ⟨d5, a5, b5, e5⟩, PySem.W.mg_of X G wSettings, (all_consQ (Bnd.all fun us ws vs zs l1 l2 r rz => by
      obtain ⟨u0, u1, rfl⟩ := len2 (r.length.symm.trans l1)
      obtain ⟨w0, w1, w2, w3, w4, rfl⟩ := len5 (rz.length.symm.trans l2)
      cases r with | cons r0 r =>
        cases r with | cons r1 r =>
          cases r
          cases rz with | cons q0 rz =>
            cases rz with | cons q1 rz =>
              cases rz with | cons q2 rz =>
                cases rz with | cons q3 rz =>
                  cases rz with | cons q4 rz =>
                    cases rz
                    exact ⟨[u0, u1, w0, w1, w2, w3, w4], rfl, (.cons r0 (.cons r1 (.cons q0 (.cons q1 (.cons q2 (.cons q3 (.cons q4 .nil)))))))⟩) (all_consQ (Exists.elim (FunD.kbinds0 F5 2 [] [("slots", V.int 1), ("rows", V.int 1), ("deblock", V.bl false), ("offset", V.bl false), ("layers", V.int 1)] (fun {α} => gk_Settings___init___1 (α := α)) (by simp) (by simp) (fun r s q => gkrel_Settings___init___1 r s q) (fun D doc pm an cdv ct us mv ws h1 h2 h3 => by
        obtain ⟨u0, u1, rfl⟩ := len2 h1
        obtain ⟨m0, m1, m2, m3, m4, rfl⟩ := len5 h2
        obtain rfl := len0 h3
        exact ⟨_, _, _, _, _, _, rfl, rfl, ⟨_, _, _, _, _, _, rfl, rfl, ⟨_, _, _, _, _, _, rfl, rfl, ⟨_, _, _, _, _, _, rfl, rfl, ⟨_, _, _, _, _, _, rfl, rfl, rfl⟩⟩⟩⟩⟩)) fun _ hb => Bnd.of_kbn hb) all_nilQ))⟩
  have F6 : FunD K "_law_settings" "_law_settings" (defArgs s__law_settings) (defBody s__law_settings) (defScope s__law_settings) [] [] f6 _ := ⟨⟨_, _, _, _, _, _, _, _, _, _, rfl, l6, c6, .inl ⟨rfl, rfl⟩, .inl rfl⟩, k6⟩
  have D_6 : DefX K mg "_law_settings" s__law_settings ["n"] pats__law_settings := ⟨_, _, _, _, F6, PySem.W.mg_of X G a6, (all_consQ (Bnd.all fun us ws vs zs l1 l2 r rz => by
      obtain ⟨u0, rfl⟩ := len1 (r.length.symm.trans l1)
      obtain rfl := len0 (rz.length.symm.trans l2)
      cases r with | cons r0 r =>
        cases r
        cases rz
        exact ⟨[u0], rfl, (.cons r0 .nil)⟩) all_nilQ)⟩
  have F7 : FunD K "__init__" "BitWriter.__init__" (defArgs s_BitWriter___init__) (defBody s_BitWriter___init__) (defScope s_BitWriter___init__) [] [] f7 _ := ⟨⟨_, _, _, _, _, _, _, _, _, _, rfl, l7, c7, .inl ⟨rfl, rfl⟩, .inl rfl⟩, k7⟩
  have D_7 : InitX K mg CBitWriter "BitWriter" "BitWriter.__init__" s_BitWriter___init__ ["self"] pats_BitWriter___init__ := ⟨_, _, _, _, F7, ⟨d7, a7, b7, e7⟩, PySem.W.mg_of X G wBitWriter, (all_consQ (Bnd.all fun us ws vs zs l1 l2 r rz => by
      obtain ⟨u0, rfl⟩ := len1 (r.length.symm.trans l1)
      obtain rfl := len0 (rz.length.symm.trans l2)
      cases r with | cons r0 r =>
        cases r
        cases rz
        exact ⟨[u0], rfl, (.cons r0 .nil)⟩) all_nilQ)⟩
  have F8 : FunD K "_add" "BitWriter._add" (defArgs s_BitWriter__add) (defBody s_BitWriter__add) (defScope s_BitWriter__add) [] [] f8 _ := ⟨⟨_, _, _, _, _, _, _, _, _, _, rfl, l8, c8, .inl ⟨rfl, rfl⟩, .inl rfl⟩, k8⟩
  have D_8 : MethX K CBitWriter "BitWriter._add" "_add" s_BitWriter__add ["self", "value", "count"] pats_BitWriter__add := ⟨_, _, _, _, F8, ⟨a8, b8, k8⟩, (all_consQ (Bnd.all fun us ws vs zs l1 l2 r rz => by
      obtain ⟨u0, u1, u2, rfl⟩ := len3 (r.length.symm.trans l1)
      obtain rfl := len0 (rz.length.symm.trans l2)
      cases r with | cons r0 r =>
        cases r with | cons r1 r =>
          cases r with | cons r2 r =>
            cases r
            cases rz
            exact ⟨[u0, u1, u2], rfl, (.cons r0 (.cons r1 (.cons r2 .nil)))⟩) all_nilQ)⟩
  have F9 : FunD K "put" "BitWriter.put" (defArgs s_BitWriter_put) (defBody s_BitWriter_put) (defScope s_BitWriter_put) [] [] f9 _ := ⟨⟨_, _, _, _, _, _, _, _, _, _, rfl, l9, c9, .inl ⟨rfl, rfl⟩, .inl rfl⟩, k9⟩
  have D_9 : MethX K CBitWriter "BitWriter.put" "put" s_BitWriter_put ["self", "value", "count"] pats_BitWriter_put := ⟨_, _, _, _, F9, ⟨a9, b9, k9⟩, (all_consQ (Bnd.all fun us ws vs zs l1 l2 r rz => by
      obtain ⟨u0, u1, u2, rfl⟩ := len3 (r.length.symm.trans l1)
      obtain rfl := len0 (rz.length.symm.trans l2)
      cases r with | cons r0 r =>
        cases r with | cons r1 r =>
          cases r with | cons r2 r =>
            cases r
            cases rz
            exact ⟨[u0, u1, u2], rfl, (.cons r0 (.cons r1 (.cons r2 .nil)))⟩) all_nilQ)⟩
  have F10 : FunD K "_put_switch" "_put_switch" (defArgs s__put_switch) (defBody s__put_switch) (defScope s__put_switch) [] [] f10 _ := ⟨⟨_, _, _, _, _, _, _, _, _, _, rfl, l10, c10, .inl ⟨rfl, rfl⟩, .inl rfl⟩, k10⟩
  have D_10 : DefX K mg "_put_switch" s__put_switch ["writer", "switch"] pats__put_switch := ⟨_, _, _, _, F10, PySem.W.mg_of X G a10, (all_consQ (Bnd.all fun us ws vs zs l1 l2 r rz => by
      obtain ⟨u0, u1, rfl⟩ := len2 (r.length.symm.trans l1)
      obtain rfl := len0 (rz.length.symm.trans l2)
      cases r with | cons r0 r =>
        cases r with | cons r1 r =>
          cases r
          cases rz
          exact ⟨[u0, u1], rfl, (.cons r0 (.cons r1 .nil))⟩) all_nilQ)⟩
  have F11 : FunD K "put_ue" "BitWriter.put_ue" (defArgs s_BitWriter_put_ue) (defBody s_BitWriter_put_ue) (defScope s_BitWriter_put_ue) [] [] f11 _ := ⟨⟨_, _, _, _, _, _, _, _, _, _, rfl, l11, c11, .inl ⟨rfl, rfl⟩, .inl rfl⟩, k11⟩
  have D_11 : MethX K CBitWriter "BitWriter.put_ue" "put_ue" s_BitWriter_put_ue ["self", "value"] pats_BitWriter_put_ue := ⟨_, _, _, _, F11, ⟨a11, b11, k11⟩, (all_consQ (Bnd.all fun us ws vs zs l1 l2 r rz => by
      obtain ⟨u0, u1, rfl⟩ := len2 (r.length.symm.trans l1)
      obtain rfl := len0 (rz.length.symm.trans l2)
      cases r with | cons r0 r =>
        cases r with | cons r1 r =>
          cases r
          cases rz
          exact ⟨[u0, u1], rfl, (.cons r0 (.cons r1 .nil))⟩) all_nilQ)⟩
  have F12 : FunD K "octets" "BitWriter.octets" (defArgs s_BitWriter_octets) (defBody s_BitWriter_octets) (defScope s_BitWriter_octets) [] [] f12 _ := ⟨⟨_, _, _, _, _, _, _, _, _, _, rfl, l12, c12, .inl ⟨rfl, rfl⟩, .inl rfl⟩, k12⟩
  have D_12 : MethX K CBitWriter "BitWriter.octets" "octets" s_BitWriter_octets ["self"] pats_BitWriter_octets := ⟨_, _, _, _, F12, ⟨a12, b12, k12⟩, (all_consQ (Bnd.all fun us ws vs zs l1 l2 r rz => by
      obtain ⟨u0, rfl⟩ := len1 (r.length.symm.trans l1)
      obtain rfl := len0 (rz.length.symm.trans l2)
      cases r with | cons r0 r =>
        cases r
        cases rz
        exact ⟨[u0], rfl, (.cons r0 .nil)⟩) all_nilQ)⟩
  have F13 : FunD K "write_settings" "write_settings" (defArgs s_write_settings) (defBody s_write_settings) (defScope s_write_settings) [] [] f13 _ := ⟨⟨_, _, _, _, _, _, _, _, _, _, rfl, l13, c13, .inl ⟨rfl, rfl⟩, .inl rfl⟩, k13⟩
  have D_13 : DefX K mg "write_settings" s_write_settings ["settings"] pats_write_settings := ⟨_, _, _, _, F13, PySem.W.mg_of X G a13, (all_consQ (Bnd.all fun us ws vs zs l1 l2 r rz => by
      obtain ⟨u0, rfl⟩ := len1 (r.length.symm.trans l1)
      obtain rfl := len0 (rz.length.symm.trans l2)
      cases r with | cons r0 r =>
        cases r
        cases rz
        exact ⟨[u0], rfl, (.cons r0 .nil)⟩) all_nilQ)⟩
  have F14 : FunD K "_last_bit" "_last_bit" (defArgs s__last_bit) (defBody s__last_bit) (defScope s__last_bit) [] [] f14 _ := ⟨⟨_, _, _, _, _, _, _, _, _, _, rfl, l14, c14, .inl ⟨rfl, rfl⟩, .inl rfl⟩, k14⟩
  have D_14 : DefX K mg "_last_bit" s__last_bit ["octet"] pats__last_bit := ⟨_, _, _, _, F14, PySem.W.mg_of X G a14, (all_consQ (Bnd.all fun us ws vs zs l1 l2 r rz => by
      obtain ⟨u0, rfl⟩ := len1 (r.length.symm.trans l1)
      obtain rfl := len0 (rz.length.symm.trans l2)
      cases r with | cons r0 r =>
        cases r
        cases rz
        exact ⟨[u0], rfl, (.cons r0 .nil)⟩) all_nilQ)⟩
  have F15 : FunD K "__init__" "BitReader.__init__" (defArgs s_BitReader___init__) (defBody s_BitReader___init__) (defScope s_BitReader___init__) [] [] f15 _ := ⟨⟨_, _, _, _, _, _, _, _, _, _, rfl, l15, c15, .inl ⟨rfl, rfl⟩, .inl rfl⟩, k15⟩
  have D_15 : InitX K mg CBitReader "BitReader" "BitReader.__init__" s_BitReader___init__ ["self", "octets"] pats_BitReader___init__ := ⟨_, _, _, _, F15, ⟨d15, a15, b15, e15⟩, PySem.W.mg_of X G wBitReader, (all_consQ (Bnd.all fun us ws vs zs l1 l2 r rz => by
      obtain ⟨u0, u1, rfl⟩ := len2 (r.length.symm.trans l1)
      obtain rfl := len0 (rz.length.symm.trans l2)
      cases r with | cons r0 r =>
        cases r with | cons r1 r =>
          cases r
          cases rz
          exact ⟨[u0, u1], rfl, (.cons r0 (.cons r1 .nil))⟩) all_nilQ)⟩
  have F16 : FunD K "_look" "BitReader._look" (defArgs s_BitReader__look) (defBody s_BitReader__look) (defScope s_BitReader__look) [] [] f16 _ := ⟨⟨_, _, _, _, _, _, _, _, _, _, rfl, l16, c16, .inl ⟨rfl, rfl⟩, .inl rfl⟩, k16⟩
  have D_16 : MethX K CBitReader "BitReader._look" "_look" s_BitReader__look ["self", "place", "count"] pats_BitReader__look := ⟨_, _, _, _, F16, ⟨a16, b16, k16⟩, (all_consQ (Bnd.all fun us ws vs zs l1 l2 r rz => by
      obtain ⟨u0, u1, u2, rfl⟩ := len3 (r.length.symm.trans l1)
      obtain rfl := len0 (rz.length.symm.trans l2)
      cases r with | cons r0 r =>
        cases r with | cons r1 r =>
          cases r with | cons r2 r =>
            cases r
            cases rz
            exact ⟨[u0, u1, u2], rfl, (.cons r0 (.cons r1 (.cons r2 .nil)))⟩) all_nilQ)⟩
  have F17 : FunD K "_take" "BitReader._take" (defArgs s_BitReader__take) (defBody s_BitReader__take) (defScope s_BitReader__take) [] [] f17 _ := ⟨⟨_, _, _, _, _, _, _, _, _, _, rfl, l17, c17, .inl ⟨rfl, rfl⟩, .inl rfl⟩, k17⟩
  have D_17 : MethX K CBitReader "BitReader._take" "_take" s_BitReader__take ["self", "count"] pats_BitReader__take := ⟨_, _, _, _, F17, ⟨a17, b17, k17⟩, (all_consQ (Bnd.all fun us ws vs zs l1 l2 r rz => by
      obtain ⟨u0, u1, rfl⟩ := len2 (r.length.symm.trans l1)
      obtain rfl := len0 (rz.length.symm.trans l2)
      cases r with | cons r0 r =>
        cases r with | cons r1 r =>
          cases r
          cases rz
          exact ⟨[u0, u1], rfl, (.cons r0 (.cons r1 .nil))⟩) all_nilQ)⟩
  have F18 : FunD K "get" "BitReader.get" (defArgs s_BitReader_get) (defBody s_BitReader_get) (defScope s_BitReader_get) [] [] f18 _ := ⟨⟨_, _, _, _, _, _, _, _, _, _, rfl, l18, c18, .inl ⟨rfl, rfl⟩, .inl rfl⟩, k18⟩
  have D_18 : MethX K CBitReader "BitReader.get" "get" s_BitReader_get ["self", "count"] pats_BitReader_get := ⟨_, _, _, _, F18, ⟨a18, b18, k18⟩, (all_consQ (Bnd.all fun us ws vs zs l1 l2 r rz => by
      obtain ⟨u0, u1, rfl⟩ := len2 (r.length.symm.trans l1)
      obtain rfl := len0 (rz.length.symm.trans l2)
      cases r with | cons r0 r =>
        cases r with | cons r1 r =>
          cases r
          cases rz
          exact ⟨[u0, u1], rfl, (.cons r0 (.cons r1 .nil))⟩) all_nilQ)⟩
  have F19 : FunD K "_get_switch" "_get_switch" (defArgs s__get_switch) (defBody s__get_switch) (defScope s__get_switch) [] [] f19 _ := ⟨⟨_, _, _, _, _, _, _, _, _, _, rfl, l19, c19, .inl ⟨rfl, rfl⟩, .inl rfl⟩, k19⟩
  have D_19 : DefX K mg "_get_switch" s__get_switch ["reader"] pats__get_switch := ⟨_, _, _, _, F19, PySem.W.mg_of X G a19, (all_consQ (Bnd.all fun us ws vs zs l1 l2 r rz => by
      obtain ⟨u0, rfl⟩ := len1 (r.length.symm.trans l1)
      obtain rfl := len0 (rz.length.symm.trans l2)
      cases r with | cons r0 r =>
        cases r
        cases rz
        exact ⟨[u0], rfl, (.cons r0 .nil)⟩) all_nilQ)⟩
  have F20 : FunD K "_zeros" "BitReader._zeros" (defArgs s_BitReader__zeros) (defBody s_BitReader__zeros) (defScope s_BitReader__zeros) [] [] f20 _ := ⟨⟨_, _, _, _, _, _, _, _, _, _, rfl, l20, c20, .inl ⟨rfl, rfl⟩, .inl rfl⟩, k20⟩
  have D_20 : MethX K CBitReader "BitReader._zeros" "_zeros" s_BitReader__zeros ["self"] pats_BitReader__zeros := ⟨_, _, _, _, F20, ⟨a20, b20, k20⟩, (all_consQ (Bnd.all fun us ws vs zs l1 l2 r rz => by
      obtain ⟨u0, rfl⟩ := len1 (r.length.symm.trans l1)
      obtain rfl := len0 (rz.length.symm.trans l2)
      cases r with | cons r0 r =>
        cases r
        cases rz
        exact ⟨[u0], rfl, (.cons r0 .nil)⟩) all_nilQ)⟩
  have F21 : FunD K "get_ue" "BitReader.get_ue" (defArgs s_BitReader_get_ue) (defBody s_BitReader_get_ue) (defScope s_BitReader_get_ue) [] [] f21 _ := ⟨⟨_, _, _, _, _, _, _, _, _, _, rfl, l21, c21, .inl ⟨rfl, rfl⟩, .inl rfl⟩, k21⟩
  have D_21 : MethX K CBitReader "BitReader.get_ue" "get_ue" s_BitReader_get_ue ["self"] pats_BitReader_get_ue := ⟨_, _, _, _, F21, ⟨a21, b21, k21⟩, (all_consQ (Bnd.all fun us ws vs zs l1 l2 r rz => by
      obtain ⟨u0, rfl⟩ := len1 (r.length.symm.trans l1)
      obtain rfl := len0 (rz.length.symm.trans l2)
      cases r with | cons r0 r =>
        cases r
        cases rz
        exact ⟨[u0], rfl, (.cons r0 .nil)⟩) all_nilQ)⟩
  have F22 : FunD K "_get_settings" "_get_settings" (defArgs s__get_settings) (defBody s__get_settings) (defScope s__get_settings) [] [] f22 _ := ⟨⟨_, _, _, _, _, _, _, _, _, _, rfl, l22, c22, .inl ⟨rfl, rfl⟩, .inl rfl⟩, k22⟩
  have D_22 : DefX K mg "_get_settings" s__get_settings ["reader"] pats__get_settings := ⟨_, _, _, _, F22, PySem.W.mg_of X G a22, (all_consQ (Bnd.all fun us ws vs zs l1 l2 r rz => by
      obtain ⟨u0, rfl⟩ := len1 (r.length.symm.trans l1)
      obtain rfl := len0 (rz.length.symm.trans l2)
      cases r with | cons r0 r =>
        cases r
        cases rz
        exact ⟨[u0], rfl, (.cons r0 .nil)⟩) all_nilQ)⟩
  have F23 : FunD K "left" "BitReader.left" (defArgs s_BitReader_left) (defBody s_BitReader_left) (defScope s_BitReader_left) [] [] f23 _ := ⟨⟨_, _, _, _, _, _, _, _, _, _, rfl, l23, c23, .inl ⟨rfl, rfl⟩, .inl rfl⟩, k23⟩
  have D_23 : PropX K CBitReader "BitReader.left" "left" s_BitReader_left ["self"] pats_BitReader_left := ⟨_, _, _, _, _, F23, ⟨a23, b23, d23, _, e23⟩, FunD.bindsN F23 (fun _ _ _ _ _ _ us h => by obtain ⟨u0, rfl⟩ := len1 h; rfl)⟩
  have F24 : FunD K "read_settings" "read_settings" (defArgs s_read_settings) (defBody s_read_settings) (defScope s_read_settings) [] [] f24 _ := ⟨⟨_, _, _, _, _, _, _, _, _, _, rfl, l24, c24, .inl ⟨rfl, rfl⟩, .inl rfl⟩, k24⟩
  have D_24 : DefX K mg "read_settings" s_read_settings ["payload"] pats_read_settings := ⟨_, _, _, _, F24, PySem.W.mg_of X G a24, (all_consQ (Bnd.all fun us ws vs zs l1 l2 r rz => by
      obtain ⟨u0, rfl⟩ := len1 (r.length.symm.trans l1)
      obtain rfl := len0 (rz.length.symm.trans l2)
      cases r with | cons r0 r =>
        cases r
        cases rz
        exact ⟨[u0], rfl, (.cons r0 .nil)⟩) all_nilQ)⟩
  have F25 : FunD K "_law_same" "_law_same" (defArgs s__law_same) (defBody s__law_same) (defScope s__law_same) [] [] f25 _ := ⟨⟨_, _, _, _, _, _, _, _, _, _, rfl, l25, c25, .inl ⟨rfl, rfl⟩, .inl rfl⟩, k25⟩
  have D_25 : DefX K mg "_law_same" s__law_same ["settings", "n"] pats__law_same := ⟨_, _, _, _, F25, PySem.W.mg_of X G a25, (all_consQ (Bnd.all fun us ws vs zs l1 l2 r rz => by
      obtain ⟨u0, u1, rfl⟩ := len2 (r.length.symm.trans l1)
      obtain rfl := len0 (rz.length.symm.trans l2)
      cases r with | cons r0 r =>
        cases r with | cons r1 r =>
          cases r
          cases rz
          exact ⟨[u0, u1], rfl, (.cons r0 (.cons r1 .nil))⟩) all_nilQ)⟩
  have F26 : FunD K "_law_cell" "_law_cell" (defArgs s__law_cell) (defBody s__law_cell) (defScope s__law_cell) [] [] f26 _ := ⟨⟨_, _, _, _, _, _, _, _, _, _, rfl, l26, c26, .inl ⟨rfl, rfl⟩, .inl rfl⟩, k26⟩
  have D_26 : DefX K mg "_law_cell" s__law_cell ["script", "k"] pats__law_cell := ⟨_, _, _, _, F26, PySem.W.mg_of X G a26, (all_consQ (Bnd.all fun us ws vs zs l1 l2 r rz => by
      obtain ⟨u0, u1, rfl⟩ := len2 (r.length.symm.trans l1)
      obtain rfl := len0 (rz.length.symm.trans l2)
      cases r with | cons r0 r =>
        cases r with | cons r1 r =>
          cases r
          cases rz
          exact ⟨[u0, u1], rfl, (.cons r0 (.cons r1 .nil))⟩) all_nilQ)⟩
  have F27 : FunD K "_law_packed" "_law_packed" (defArgs s__law_packed) (defBody s__law_packed) (defScope s__law_packed) [] [] f27 _ := ⟨⟨_, _, _, _, _, _, _, _, _, _, rfl, l27, c27, .inl ⟨rfl, rfl⟩, .inl rfl⟩, k27⟩
  have D_27 : DefX K mg "_law_packed" s__law_packed ["bits"] pats__law_packed := ⟨_, _, _, _, F27, PySem.W.mg_of X G a27, (all_consQ (Bnd.all fun us ws vs zs l1 l2 r rz => by
      obtain ⟨u0, rfl⟩ := len1 (r.length.symm.trans l1)
      obtain rfl := len0 (rz.length.symm.trans l2)
      cases r with | cons r0 r =>
        cases r
        cases rz
        exact ⟨[u0], rfl, (.cons r0 .nil)⟩) all_nilQ)⟩
  have F28 : FunD K "_law_bits" "_law_bits" (defArgs s__law_bits) (defBody s__law_bits) (defScope s__law_bits) [] [] f28 _ := ⟨⟨_, _, _, _, _, _, _, _, _, _, rfl, l28, c28, .inl ⟨rfl, rfl⟩, .inl rfl⟩, k28⟩
  have D_28 : DefX K mg "_law_bits" s__law_bits ["value", "count"] pats__law_bits := ⟨_, _, _, _, F28, PySem.W.mg_of X G a28, (all_consQ (Bnd.all fun us ws vs zs l1 l2 r rz => by
      obtain ⟨u0, u1, rfl⟩ := len2 (r.length.symm.trans l1)
      obtain rfl := len0 (rz.length.symm.trans l2)
      cases r with | cons r0 r =>
        cases r with | cons r1 r =>
          cases r
          cases rz
          exact ⟨[u0, u1], rfl, (.cons r0 (.cons r1 .nil))⟩) all_nilQ)⟩
  have F29 : FunD K "_law_ue" "_law_ue" (defArgs s__law_ue) (defBody s__law_ue) (defScope s__law_ue) [] [] f29 _ := ⟨⟨_, _, _, _, _, _, _, _, _, _, rfl, l29, c29, .inl ⟨rfl, rfl⟩, .inl rfl⟩, k29⟩
  have D_29 : DefX K mg "_law_ue" s__law_ue ["value"] pats__law_ue := ⟨_, _, _, _, F29, PySem.W.mg_of X G a29, (all_consQ (Bnd.all fun us ws vs zs l1 l2 r rz => by
      obtain ⟨u0, rfl⟩ := len1 (r.length.symm.trans l1)
      obtain rfl := len0 (rz.length.symm.trans l2)
      cases r with | cons r0 r =>
        cases r
        cases rz
        exact ⟨[u0], rfl, (.cons r0 .nil)⟩) all_nilQ)⟩
  have F30 : FunD K "_law_settings_payload" "_law_settings_payload" (defArgs s__law_settings_payload) (defBody s__law_settings_payload) (defScope s__law_settings_payload) [] [] f30 _ := ⟨⟨_, _, _, _, _, _, _, _, _, _, rfl, l30, c30, .inl ⟨rfl, rfl⟩, .inl rfl⟩, k30⟩
  have D_30 : DefX K mg "_law_settings_payload" s__law_settings_payload ["n"] pats__law_settings_payload := ⟨_, _, _, _, F30, PySem.W.mg_of X G a30, (all_consQ (Bnd.all fun us ws vs zs l1 l2 r rz => by
      obtain ⟨u0, rfl⟩ := len1 (r.length.symm.trans l1)
      obtain rfl := len0 (rz.length.symm.trans l2)
      cases r with | cons r0 r =>
        cases r
        cases rz
        exact ⟨[u0], rfl, (.cons r0 .nil)⟩) all_nilQ)⟩
  have F31 : FunD K "__eq__" "Format.__eq__" (defArgs s_Format___eq__) (defBody s_Format___eq__) (defScope s_Format___eq__) [] [] f31 _ := ⟨⟨_, _, _, _, _, _, _, _, _, _, rfl, l31, c31, .inl ⟨rfl, rfl⟩, .inl rfl⟩, k31⟩
  have D_31 : MethX K CFormat "Format.__eq__" "__eq__" s_Format___eq__ ["self", "other"] pats_Format___eq__ := ⟨_, _, _, _, F31, ⟨a31, b31, k31⟩, (all_consQ (Bnd.all fun us ws vs zs l1 l2 r rz => by
      obtain ⟨u0, u1, rfl⟩ := len2 (r.length.symm.trans l1)
      obtain rfl := len0 (rz.length.symm.trans l2)
      cases r with | cons r0 r =>
        cases r with | cons r1 r =>
          cases r
          cases rz
          exact ⟨[u0, u1], rfl, (.cons r0 (.cons r1 .nil))⟩) all_nilQ)⟩
  have F32 : FunD K "__eq__" "Settings.__eq__" (defArgs s_Settings___eq__) (defBody s_Settings___eq__) (defScope s_Settings___eq__) [] [] f32 _ := ⟨⟨_, _, _, _, _, _, _, _, _, _, rfl, l32, c32, .inl ⟨rfl, rfl⟩, .inl rfl⟩, k32⟩
  have D_32 : MethX K CSettings "Settings.__eq__" "__eq__" s_Settings___eq__ ["self", "other"] pats_Settings___eq__ := ⟨_, _, _, _, F32, ⟨a32, b32, k32⟩, (all_consQ (Bnd.all fun us ws vs zs l1 l2 r rz => by
      obtain ⟨u0, u1, rfl⟩ := len2 (r.length.symm.trans l1)
      obtain rfl := len0 (rz.length.symm.trans l2)
      cases r with | cons r0 r =>
        cases r with | cons r1 r =>
          cases r
          cases rz
          exact ⟨[u0, u1], rfl, (.cons r0 (.cons r1 .nil))⟩) all_nilQ)⟩
  have F33 : FunD K "law" "law" (defArgs s_law) (defBody s_law) (defScope s_law) [] [] _ _ := ⟨⟨_, _, _, _, _, _, _, _, _, _, rfl, l33, c33, .inl ⟨rfl, rfl⟩, .inl rfl⟩, k33⟩
  have R__law_draws : ∀ base : Heap, CalX l.prog w K mg base 1 "_law_draws" (sp__law_draws K ⟨CBitWriter, CBitReader, CFormat, CSettings, fa, XBadFormat, XOutOfRange, XOutOfBits, XBadOctets, XBadHeader, fa⟩) pats__law_draws := fun base => ok__law_draws D_0 T 
  have R__law_between : ∀ base : Heap, CalX l.prog w K mg base 1 "_law_between" (sp__law_between K ⟨CBitWriter, CBitReader, CFormat, CSettings, fa, XBadFormat, XOutOfRange, XOutOfBits, XBadOctets, XBadHeader, fa⟩) pats__law_between := fun base => ok__law_between D_1 T 
  have R__law_numbers : ∀ base : Heap, CalX l.prog w K mg base 2 "_law_numbers" (sp__law_numbers K ⟨CBitWriter, CBitReader, CFormat, CSettings, fa, XBadFormat, XOutOfRange, XOutOfBits, XBadOctets, XBadHeader, fa⟩) pats__law_numbers := fun base => ok__law_numbers D_2 T (R__law_draws base) (R__law_between base)
  have R_Format___init__ : ∀ base : Heap, MakX l.prog w K mg base 1 "Format" (⟨CBitWriter, CBitReader, CFormat, CSettings, fa, XBadFormat, XOutOfRange, XOutOfBits, XBadOctets, XBadHeader, fa⟩ : Ads).c_Format (sp_Format___init__ K ⟨CBitWriter, CBitReader, CFormat, CSettings, fa, XBadFormat, XOutOfRange, XOutOfBits, XBadOctets, XBadHeader, fa⟩) pats_Format___init__ := fun base => ok_Format___init__ D_3 T 
  have R__require : ∀ base : Heap, CalX l.prog w K mg base 1 "_require" (sp__require K ⟨CBitWriter, CBitReader, CFormat, CSettings, fa, XBadFormat, XOutOfRange, XOutOfBits, XBadOctets, XBadHeader, fa⟩) pats__require := fun base => ok__require D_4 T 
  have R_Settings___init__ : ∀ base : Heap, MakX l.prog w K mg base 2 "Settings" (⟨CBitWriter, CBitReader, CFormat, CSettings, fa, XBadFormat, XOutOfRange, XOutOfBits, XBadOctets, XBadHeader, fa⟩ : Ads).c_Settings (sp_Settings___init__ K ⟨CBitWriter, CBitReader, CFormat, CSettings, fa, XBadFormat, XOutOfRange, XOutOfBits, XBadOctets, XBadHeader, fa⟩) pats_Settings___init__ := fun base => ok_Settings___init__ D_5 T (R__require base)
  have R__law_settings : ∀ base : Heap, CalX l.prog w K mg base 4 "_law_settings" (sp__law_settings K ⟨CBitWriter, CBitReader, CFormat, CSettings, fa, XBadFormat, XOutOfRange, XOutOfBits, XBadOctets, XBadHeader, fa⟩) pats__law_settings := fun base => ok__law_settings D_6 T (R_Format___init__ base) (R_Settings___init__ base)
  have R_BitWriter___init__ : ∀ base : Heap, MakX l.prog w K mg base 1 "BitWriter" (⟨CBitWriter, CBitReader, CFormat, CSettings, fa, XBadFormat, XOutOfRange, XOutOfBits, XBadOctets, XBadHeader, fa⟩ : Ads).c_BitWriter (sp_BitWriter___init__ K ⟨CBitWriter, CBitReader, CFormat, CSettings, fa, XBadFormat, XOutOfRange, XOutOfBits, XBadOctets, XBadHeader, fa⟩) pats_BitWriter___init__ := fun base => ok_BitWriter___init__ D_7 T 
  have R_BitWriter__add : ∀ base : Heap, MetX l.prog w K mg base 1 (⟨CBitWriter, CBitReader, CFormat, CSettings, fa, XBadFormat, XOutOfRange, XOutOfBits, XBadOctets, XBadHeader, fa⟩ : Ads).c_BitWriter "_add" (sp_BitWriter__add K ⟨CBitWriter, CBitReader, CFormat, CSettings, fa, XBadFormat, XOutOfRange, XOutOfBits, XBadOctets, XBadHeader, fa⟩) pats_BitWriter__add := fun base => ok_BitWriter__add D_8 T 
  have R_BitWriter_put : ∀ base : Heap, MetX l.prog w K mg base 2 (⟨CBitWriter, CBitReader, CFormat, CSettings, fa, XBadFormat, XOutOfRange, XOutOfBits, XBadOctets, XBadHeader, fa⟩ : Ads).c_BitWriter "put" (sp_BitWriter_put K ⟨CBitWriter, CBitReader, CFormat, CSettings, fa, XBadFormat, XOutOfRange, XOutOfBits, XBadOctets, XBadHeader, fa⟩) pats_BitWriter_put := fun base => ok_BitWriter_put D_9 T (R_BitWriter__add base)
  have R__put_switch : ∀ base : Heap, CalX l.prog w K mg base 3 "_put_switch" (sp__put_switch K ⟨CBitWriter, CBitReader, CFormat, CSettings, fa, XBadFormat, XOutOfRange, XOutOfBits, XBadOctets, XBadHeader, fa⟩) pats__put_switch := fun base => ok__put_switch D_10 T (R_BitWriter_put base)
  have R_BitWriter_put_ue : ∀ base : Heap, MetX l.prog w K mg base 2 (⟨CBitWriter, CBitReader, CFormat, CSettings, fa, XBadFormat, XOutOfRange, XOutOfBits, XBadOctets, XBadHeader, fa⟩ : Ads).c_BitWriter "put_ue" (sp_BitWriter_put_ue K ⟨CBitWriter, CBitReader, CFormat, CSettings, fa, XBadFormat, XOutOfRange, XOutOfBits, XBadOctets, XBadHeader, fa⟩) pats_BitWriter_put_ue := fun base => ok_BitWriter_put_ue D_11 T (R_BitWriter__add base)
  have R_BitWriter_octets : ∀ base : Heap, MetX l.prog w K mg base 1 (⟨CBitWriter, CBitReader, CFormat, CSettings, fa, XBadFormat, XOutOfRange, XOutOfBits, XBadOctets, XBadHeader, fa⟩ : Ads).c_BitWriter "octets" (sp_BitWriter_octets K ⟨CBitWriter, CBitReader, CFormat, CSettings, fa, XBadFormat, XOutOfRange, XOutOfBits, XBadOctets, XBadHeader, fa⟩) pats_BitWriter_octets := fun base => ok_BitWriter_octets D_12 T 
  have R_write_settings : ∀ base : Heap, CalX l.prog w K mg base 4 "write_settings" (sp_write_settings K ⟨CBitWriter, CBitReader, CFormat, CSettings, fa, XBadFormat, XOutOfRange, XOutOfBits, XBadOctets, XBadHeader, fa⟩) pats_write_settings := fun base => ok_write_settings D_13 T (R_BitWriter___init__ base) (R_BitWriter_put base) (R_BitWriter_put_ue base) (R__put_switch base) (R_BitWriter_octets base)
  have R__last_bit : ∀ base : Heap, CalX l.prog w K mg base 1 "_last_bit" (sp__last_bit K ⟨CBitWriter, CBitReader, CFormat, CSettings, fa, XBadFormat, XOutOfRange, XOutOfBits, XBadOctets, XBadHeader, fa⟩) pats__last_bit := fun base => ok__last_bit D_14 T 
  have R_BitReader___init__ : ∀ base : Heap, MakX l.prog w K mg base 2 "BitReader" (⟨CBitWriter, CBitReader, CFormat, CSettings, fa, XBadFormat, XOutOfRange, XOutOfBits, XBadOctets, XBadHeader, fa⟩ : Ads).c_BitReader (sp_BitReader___init__ K ⟨CBitWriter, CBitReader, CFormat, CSettings, fa, XBadFormat, XOutOfRange, XOutOfBits, XBadOctets, XBadHeader, fa⟩) pats_BitReader___init__ := fun base => ok_BitReader___init__ D_15 T (R__last_bit base)
  have R_BitReader__look : ∀ base : Heap, MetX l.prog w K mg base 1 (⟨CBitWriter, CBitReader, CFormat, CSettings, fa, XBadFormat, XOutOfRange, XOutOfBits, XBadOctets, XBadHeader, fa⟩ : Ads).c_BitReader "_look" (sp_BitReader__look K ⟨CBitWriter, CBitReader, CFormat, CSettings, fa, XBadFormat, XOutOfRange, XOutOfBits, XBadOctets, XBadHeader, fa⟩) pats_BitReader__look := fun base => ok_BitReader__look D_16 T 
  have R_BitReader__take : ∀ base : Heap, MetX l.prog w K mg base 2 (⟨CBitWriter, CBitReader, CFormat, CSettings, fa, XBadFormat, XOutOfRange, XOutOfBits, XBadOctets, XBadHeader, fa⟩ : Ads).c_BitReader "_take" (sp_BitReader__take K ⟨CBitWriter, CBitReader, CFormat, CSettings, fa, XBadFormat, XOutOfRange, XOutOfBits, XBadOctets, XBadHeader, fa⟩) pats_BitReader__take := fun base => ok_BitReader__take D_17 T (R_BitReader__look base)
  have R_BitReader_get : ∀ base : Heap, MetX l.prog w K mg base 3 (⟨CBitWriter, CBitReader, CFormat, CSettings, fa, XBadFormat, XOutOfRange, XOutOfBits, XBadOctets, XBadHeader, fa⟩ : Ads).c_BitReader "get" (sp_BitReader_get K ⟨CBitWriter, CBitReader, CFormat, CSettings, fa, XBadFormat, XOutOfRange, XOutOfBits, XBadOctets, XBadHeader, fa⟩) pats_BitReader_get := fun base => ok_BitReader_get D_18 T (R_BitReader__take base)
  have R__get_switch : ∀ base : Heap, CalX l.prog w K mg base 4 "_get_switch" (sp__get_switch K ⟨CBitWriter, CBitReader, CFormat, CSettings, fa, XBadFormat, XOutOfRange, XOutOfBits, XBadOctets, XBadHeader, fa⟩) pats__get_switch := fun base => ok__get_switch D_19 T (R_BitReader_get base)
  have R_BitReader__zeros : ∀ base : Heap, MetX l.prog w K mg base 2 (⟨CBitWriter, CBitReader, CFormat, CSettings, fa, XBadFormat, XOutOfRange, XOutOfBits, XBadOctets, XBadHeader, fa⟩ : Ads).c_BitReader "_zeros" (sp_BitReader__zeros K ⟨CBitWriter, CBitReader, CFormat, CSettings, fa, XBadFormat, XOutOfRange, XOutOfBits, XBadOctets, XBadHeader, fa⟩) pats_BitReader__zeros := fun base => ok_BitReader__zeros D_20 T (R_BitReader__look base)
  have R_BitReader_get_ue : ∀ base : Heap, MetX l.prog w K mg base 3 (⟨CBitWriter, CBitReader, CFormat, CSettings, fa, XBadFormat, XOutOfRange, XOutOfBits, XBadOctets, XBadHeader, fa⟩ : Ads).c_BitReader "get_ue" (sp_BitReader_get_ue K ⟨CBitWriter, CBitReader, CFormat, CSettings, fa, XBadFormat, XOutOfRange, XOutOfBits, XBadOctets, XBadHeader, fa⟩) pats_BitReader_get_ue := fun base => ok_BitReader_get_ue D_21 T (R_BitReader__zeros base) (R_BitReader__take base)
  have R__get_settings : ∀ base : Heap, CalX l.prog w K mg base 5 "_get_settings" (sp__get_settings K ⟨CBitWriter, CBitReader, CFormat, CSettings, fa, XBadFormat, XOutOfRange, XOutOfBits, XBadOctets, XBadHeader, fa⟩) pats__get_settings := fun base => ok__get_settings D_22 T (R__require base) (R_BitReader_get base) (R_BitReader_get_ue base) (R_Format___init__ base) (R__get_switch base) (R_Settings___init__ base)
  have R_BitReader_left : ∀ base : Heap, PropY l.prog w K mg base 1 (⟨CBitWriter, CBitReader, CFormat, CSettings, fa, XBadFormat, XOutOfRange, XOutOfBits, XBadOctets, XBadHeader, fa⟩ : Ads).c_BitReader "left" (sp_BitReader_left K ⟨CBitWriter, CBitReader, CFormat, CSettings, fa, XBadFormat, XOutOfRange, XOutOfBits, XBadOctets, XBadHeader, fa⟩) pats_BitReader_left := fun base => ok_BitReader_left D_23 T 
  have R_read_settings : ∀ base : Heap, CalX l.prog w K mg base 6 "read_settings" (sp_read_settings K ⟨CBitWriter, CBitReader, CFormat, CSettings, fa, XBadFormat, XOutOfRange, XOutOfBits, XBadOctets, XBadHeader, fa⟩) pats_read_settings := fun base => ok_read_settings D_24 T (R_BitReader___init__ base) (R__get_settings base) (R__require base) (R_BitReader_left base)
  have R__law_same : ∀ base : Heap, CalX l.prog w K mg base 1 "_law_same" (sp__law_same K ⟨CBitWriter, CBitReader, CFormat, CSettings, fa, XBadFormat, XOutOfRange, XOutOfBits, XBadOctets, XBadHeader, fa⟩) pats__law_same := fun base => ok__law_same D_25 T 
  have R__law_cell : ∀ base : Heap, CalX l.prog w K mg base 1 "_law_cell" (sp__law_cell K ⟨CBitWriter, CBitReader, CFormat, CSettings, fa, XBadFormat, XOutOfRange, XOutOfBits, XBadOctets, XBadHeader, fa⟩) pats__law_cell := fun base => ok__law_cell D_26 T 
  have R__law_packed : ∀ base : Heap, CalX l.prog w K mg base 1 "_law_packed" (sp__law_packed K ⟨CBitWriter, CBitReader, CFormat, CSettings, fa, XBadFormat, XOutOfRange, XOutOfBits, XBadOctets, XBadHeader, fa⟩) pats__law_packed := fun base => ok__law_packed D_27 T 
  have R__law_bits : ∀ base : Heap, CalX l.prog w K mg base 1 "_law_bits" (sp__law_bits K ⟨CBitWriter, CBitReader, CFormat, CSettings, fa, XBadFormat, XOutOfRange, XOutOfBits, XBadOctets, XBadHeader, fa⟩) pats__law_bits := fun base => ok__law_bits D_28 T 
  have R__law_ue : ∀ base : Heap, CalX l.prog w K mg base 2 "_law_ue" (sp__law_ue K ⟨CBitWriter, CBitReader, CFormat, CSettings, fa, XBadFormat, XOutOfRange, XOutOfBits, XBadOctets, XBadHeader, fa⟩) pats__law_ue := fun base => ok__law_ue D_29 T (R__law_bits base)
  have R__law_settings_payload : ∀ base : Heap, CalX l.prog w K mg base 3 "_law_settings_payload" (sp__law_settings_payload K ⟨CBitWriter, CBitReader, CFormat, CSettings, fa, XBadFormat, XOutOfRange, XOutOfBits, XBadOctets, XBadHeader, fa⟩) pats__law_settings_payload := fun base => ok__law_settings_payload D_30 T (R__law_bits base) (R__law_ue base) (R__law_packed base)
  have R_Format___eq__ : ∀ base : Heap, MetX l.prog w K mg base 1 (⟨CBitWriter, CBitReader, CFormat, CSettings, fa, XBadFormat, XOutOfRange, XOutOfBits, XBadOctets, XBadHeader, fa⟩ : Ads).c_Format "__eq__" (sp_Format___eq__ K ⟨CBitWriter, CBitReader, CFormat, CSettings, fa, XBadFormat, XOutOfRange, XOutOfBits, XBadOctets, XBadHeader, fa⟩) pats_Format___eq__ := fun base => ok_Format___eq__ D_31 T 
  have R_Settings___eq__ : ∀ base : Heap, MetX l.prog w K mg base 2 (⟨CBitWriter, CBitReader, CFormat, CSettings, fa, XBadFormat, XOutOfRange, XOutOfBits, XBadOctets, XBadHeader, fa⟩ : Ads).c_Settings "__eq__" (sp_Settings___eq__ K ⟨CBitWriter, CBitReader, CFormat, CSettings, fa, XBadFormat, XOutOfRange, XOutOfBits, XBadOctets, XBadHeader, fa⟩) pats_Settings___eq__ := fun base => ok_Settings___eq__ D_32 T (R_Format___eq__ base)

  refine ⟨PySem.W.fnOf "law" "law" (defArgs s_law) (defBody s_law) (defScope s_law) .none kV33 dc33 pm33 an33 cd33 ct33, fun s v => .of_eq rfl, fun base _ _ => (ok_law (AD := ⟨CBitWriter, CBitReader, CFormat, CSettings, fa, XBadFormat, XOutOfRange, XOutOfBits, XBadOctets, XBadHeader, fa⟩) F33 T (R__law_numbers base) (R__law_cell base) (R__law_settings base) (R__law_same base) (R_write_settings base) (R__law_settings_payload base) (R_read_settings base) (R_Settings___eq__ base) (R__law_draws base) (R_Settings___init__ base) (R_Format___init__ base)).imp ?_⟩
  rintro vs H Q E ⟨a, xs, rfl, hs, hl, q⟩
  exact ⟨a, xs, rfl, hs, by rw [law_true xs hl]; exact cW_mk rfl, q⟩
end Vx
open PySem PySem.W PyProof.Rows
set_option maxRecDepth 100000 in
set_option maxHeartbeats 0 in
theorem PySem.Challenge.cw_thaumatrope_k20_settings_written_and_rea_holds : PySem.Challenge.rw_thaumatrope_k20_settings_written_and_rea.Holds := by
  w_on; o_law; k_head; (case hw => w_witness2)
  k_fill
  refine Vx.walkG (l := PySem.Challenge.rw_thaumatrope_k20_settings_written_and_rea) (n := 63) (k := 7) (x := "script") rfl (by decide) rfl ⟨rfl, by decide, by decide⟩ (fun w h Y => PySem.W.kIn_of Y) ?F
  case F =>
    intro w mg fa h KX G hmg
    refine' Vx.all_mk KX G hmg ?wBitWriter ?wBitReader ?wFormat ?wSettings ?vBadFormat ?vOutOfRange ?vOutOfBits ?vBadOctets ?vBadHeader ?a0 ?l0 ?c0 ?k0 ?a1 ?l1 ?c1 ?k1 ?a2 ?l2 ?c2 ?k2 ?a3 ?b3 ?d3 ?e3 ?l3 ?c3 ?k3 ?kd3_0 ?kd3_1 ?a4 ?l4 ?c4 ?k4 ?a5 ?b5 ?d5 ?e5 ?l5 ?c5 ?k5 ?kd5_0 ?kd5_1 ?kd5_2 ?kd5_3 ?kd5_4 ?a6 ?l6 ?c6 ?k6 ?a7 ?b7 ?d7 ?e7 ?l7 ?c7 ?k7 ?a8 ?b8 ?l8 ?c8 ?k8 ?a9 ?b9 ?l9 ?c9 ?k9 ?a10 ?l10 ?c10 ?k10 ?a11 ?b11 ?l11 ?c11 ?k11 ?a12 ?b12 ?l12 ?c12 ?k12 ?a13 ?l13 ?c13 ?k13 ?a14 ?l14 ?c14 ?k14 ?a15 ?b15 ?d15 ?e15 ?l15 ?c15 ?k15 ?a16 ?b16 ?l16 ?c16 ?k16 ?a17 ?b17 ?l17 ?c17 ?k17 ?a18 ?b18 ?l18 ?c18 ?k18 ?a19 ?l19 ?c19 ?k19 ?a20 ?b20 ?l20 ?c20 ?k20 ?a21 ?b21 ?l21 ?c21 ?k21 ?a22 ?l22 ?c22 ?k22 ?a23 ?b23 ?d23 ?e23 ?l23 ?c23 ?k23 ?a24 ?l24 ?c24 ?k24 ?a25 ?l25 ?c25 ?k25 ?a26 ?l26 ?c26 ?k26 ?a27 ?l27 ?c27 ?k27 ?a28 ?l28 ?c28 ?k28 ?a29 ?l29 ?c29 ?k29 ?a30 ?l30 ?c30 ?k30 ?a31 ?b31 ?l31 ?c31 ?k31 ?a32 ?b32 ?l32 ?c32 ?k32 ?a33 ?l33 ?c33 ?k33 ?z0 ?z1 ?z2 ?z3 ?z4 ?z5 ?z6 ?z7 ?z8 ?z9 ?z10 ?z11 ?yFormat0 ?yFormat1 ?yFormat2 ?yFormat3 ?iFormat0 ?iFormat1 ?iFormat2 ?iFormat3 ?xFormat0 ?xFormat1 ?xFormat2 ?xFormat3 ?ySettings0 ?ySettings1 ?ySettings2 ?ySettings3 ?iSettings0 ?iSettings1 ?iSettings2 ?iSettings3 ?xSettings0 ?xSettings1 ?xSettings2 ?xSettings3 ?xSettings4 ?xSettings5 ?yBitWriter0 ?yBitWriter1 ?yBitWriter2 ?yBitWriter3 ?xBitWriter0 ?xBitWriter1 ?xBitWriter2 ?yBitReader0 ?yBitReader1 ?yBitReader2 ?yBitReader3 ?xBitReader0 ?xBitReader1 ?xBitReader2 ?exBadFormat ?ekBadFormat ?ebBadFormat ?etBadFormat ?exBadHeader ?ekBadHeader ?ebBadHeader ?etBadHeader ?exOutOfRange ?ekOutOfRange ?ebOutOfRange ?etOutOfRange ?exBadOctets ?ekBadOctets ?ebBadOctets ?etBadOctets ?exOutOfBits ?ekOutOfBits ?ebOutOfBits ?etOutOfBits
    (case wBitWriter => k_is)
    (case wBitReader => k_is)
    (case wFormat => k_is)
    (case wSettings => k_is)
    (case vBadFormat => k_is)
    (case vOutOfRange => k_is)
    (case vOutOfBits => k_is)
    (case vBadOctets => k_is)
    (case vBadHeader => k_is)
    (case a0 => k_is)
    (case l0 => k_is)
    (case c0 => k_is)
    (case k0 => k_is)
    (case a1 => k_is)
    (case l1 => k_is)
    (case c1 => k_is)
    (case k1 => k_is)
    (case a2 => k_is)
    (case l2 => k_is)
    (case c2 => k_is)
    (case k2 => k_is)
    (case a3 => k_is)
    (case b3 => k_is)
    (case d3 => k_is)
    (case e3 => k_is)
    (case l3 => k_is)
    (case c3 => k_is)
    (case k3 => k_is)
    (case kd3_0 => k_is)
    (case kd3_1 => k_is)
    (case a4 => k_is)
    (case l4 => k_is)
    (case c4 => k_is)
    (case k4 => k_is)
    (case a5 => k_is)
    (case b5 => k_is)
    (case d5 => k_is)
    (case e5 => k_is)
    (case l5 => k_is)
    (case c5 => k_is)
    (case k5 => k_is)
    (case kd5_0 => k_is)
    (case kd5_1 => k_is)
    (case kd5_2 => k_is)
    (case kd5_3 => k_is)
    (case kd5_4 => k_is)
    (case a6 => k_is)
    (case l6 => k_is)
    (case c6 => k_is)
    (case k6 => k_is)
    (case a7 => k_is)
    (case b7 => k_is)
    (case d7 => k_is)
    (case e7 => k_is)
    (case l7 => k_is)
    (case c7 => k_is)
    (case k7 => k_is)
    (case a8 => k_is)
    (case b8 => k_is)
    (case l8 => k_is)
    (case c8 => k_is)
    (case k8 => k_is)
    (case a9 => k_is)
    (case b9 => k_is)
    (case l9 => k_is)
    (case c9 => k_is)
    (case k9 => k_is)
    (case a10 => k_is)
    (case l10 => k_is)
    (case c10 => k_is)
    (case k10 => k_is)
    (case a11 => k_is)
    (case b11 => k_is)
    (case l11 => k_is)
    (case c11 => k_is)
    (case k11 => k_is)
    (case a12 => k_is)
    (case b12 => k_is)
    (case l12 => k_is)
    (case c12 => k_is)
    (case k12 => k_is)
    (case a13 => k_is)
    (case l13 => k_is)
    (case c13 => k_is)
    (case k13 => k_is)
    (case a14 => k_is)
    (case l14 => k_is)
    (case c14 => k_is)
    (case k14 => k_is)
    (case a15 => k_is)
    (case b15 => k_is)
    (case d15 => k_is)
    (case e15 => k_is)
    (case l15 => k_is)
    (case c15 => k_is)
    (case k15 => k_is)
    (case a16 => k_is)
    (case b16 => k_is)
    (case l16 => k_is)
    (case c16 => k_is)
    (case k16 => k_is)
    (case a17 => k_is)
    (case b17 => k_is)
    (case l17 => k_is)
    (case c17 => k_is)
    (case k17 => k_is)
    (case a18 => k_is)
    (case b18 => k_is)
    (case l18 => k_is)
    (case c18 => k_is)
    (case k18 => k_is)
    (case a19 => k_is)
    (case l19 => k_is)
    (case c19 => k_is)
    (case k19 => k_is)
    (case a20 => k_is)
    (case b20 => k_is)
    (case l20 => k_is)
    (case c20 => k_is)
    (case k20 => k_is)
    (case a21 => k_is)
    (case b21 => k_is)
    (case l21 => k_is)
    (case c21 => k_is)
    (case k21 => k_is)
    (case a22 => k_is)
    (case l22 => k_is)
    (case c22 => k_is)
    (case k22 => k_is)
    (case a23 => k_is)
    (case b23 => k_is)
    (case d23 => k_is)
    (case e23 => k_is)
    (case l23 => k_is)
    (case c23 => k_is)
    (case k23 => k_is)
    (case a24 => k_is)
    (case l24 => k_is)
    (case c24 => k_is)
    (case k24 => k_is)
    (case a25 => k_is)
    (case l25 => k_is)
    (case c25 => k_is)
    (case k25 => k_is)
    (case a26 => k_is)
    (case l26 => k_is)
    (case c26 => k_is)
    (case k26 => k_is)
    (case a27 => k_is)
    (case l27 => k_is)
    (case c27 => k_is)
    (case k27 => k_is)
    (case a28 => k_is)
    (case l28 => k_is)
    (case c28 => k_is)
    (case k28 => k_is)
    (case a29 => k_is)
    (case l29 => k_is)
    (case c29 => k_is)
    (case k29 => k_is)
    (case a30 => k_is)
    (case l30 => k_is)
    (case c30 => k_is)
    (case k30 => k_is)
    (case a31 => k_is)
    (case b31 => k_is)
    (case l31 => k_is)
    (case c31 => k_is)
    (case k31 => k_is)
    (case a32 => k_is)
    (case b32 => k_is)
    (case l32 => k_is)
    (case c32 => k_is)
    (case k32 => k_is)
    (case a33 => k_is)
    (case l33 => k_is)
    (case c33 => k_is)
    (case k33 => k_is)
    (case z0 => k_is)
    (case z1 => k_is)
    (case z2 => k_is)
    (case z3 => k_is)
    (case z4 => k_is)
    (case z5 => k_is)
    (case z6 => k_is)
    (case z7 => k_is)
    (case z8 => k_is)
    (case z9 => k_is)
    (case z10 => k_is)
    (case z11 => k_is)
    (case yFormat0 => k_is)
    (case yFormat1 => k_is)
    (case yFormat2 => k_is)
    (case yFormat3 => k_is)
    (case iFormat0 => k_is)
    (case iFormat1 => k_is)
    (case iFormat2 => k_is)
    (case iFormat3 => k_is)
    (case xFormat0 => k_is)
    (case xFormat1 => k_is)
    (case xFormat2 => k_is)
    (case xFormat3 => k_is)
    (case ySettings0 => k_is)
    (case ySettings1 => k_is)
    (case ySettings2 => k_is)
    (case ySettings3 => k_is)
    (case iSettings0 => k_is)
    (case iSettings1 => k_is)
    (case iSettings2 => k_is)
    (case iSettings3 => k_is)
    (case xSettings0 => k_is)
    (case xSettings1 => k_is)
    (case xSettings2 => k_is)
    (case xSettings3 => k_is)
    (case xSettings4 => k_is)
    (case xSettings5 => k_is)
    (case yBitWriter0 => k_is)
    (case yBitWriter1 => k_is)
    (case yBitWriter2 => k_is)
    (case yBitWriter3 => k_is)
    (case xBitWriter0 => k_is)
    (case xBitWriter1 => k_is)
    (case xBitWriter2 => k_is)
    (case yBitReader0 => k_is)
    (case yBitReader1 => k_is)
    (case yBitReader2 => k_is)
    (case yBitReader3 => k_is)
    (case xBitReader0 => k_is)
    (case xBitReader1 => k_is)
    (case xBitReader2 => k_is)
    (case exBadFormat => k_exc)
    (case ekBadFormat => k_is)
    (case ebBadFormat => k_is)
    (case etBadFormat => k_is)
    (case exBadHeader => k_exc)
    (case ekBadHeader => k_is)
    (case ebBadHeader => k_is)
    (case etBadHeader => k_is)
    (case exOutOfRange => k_exc)
    (case ekOutOfRange => k_is)
    (case ebOutOfRange => k_is)
    (case etOutOfRange => k_is)
    (case exBadOctets => k_exc)
    (case ekBadOctets => k_is)
    (case ebBadOctets => k_is)
    (case etBadOctets => k_is)
    (case exOutOfBits => k_exc)
    (case ekOutOfBits => k_is)
    (case ebOutOfBits => k_is)
    (case etOutOfBits => k_is)
